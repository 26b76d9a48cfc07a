/-
  Contract of the reference's May.
  The walk of ObjPuts: obj and its reference tell the same of an object.
  A struct of integers, by value, among a row's arguments, opened. It names nothing of the program.
-/
import Derived.Test.YtmcegjkkgbnjlaaGreatJp31
import Derived.Test.YtmcegjkkgbnjlaaGreatJp42
import Derived.Test.YtmcegjkkgbnjlaaGreatJp39
import Derived.Test.YtmcegjkkgbnjlaaGreatWords
import Derived.Deep.Fields
import Derived.ChangeArms
namespace Go.Proofs.YtmcegjkkgbnjlaaGreat
open Go.RowKit

set_option maxRecDepth 100000 in
set_option maxHeartbeats 2000000 in
theorem refMay_any (o : ObjD) (v0 v1 v2 v4 : Value) (w : World) (hp : ObjParts w v0 v1 v2 v4 o) (hs : SmallD o) :
    Calls Tryz.prog 7 #[objV v0 v1 v2 o.hasSig v4] w fun e w' => e = .returned (.bool (mayO o)) ∧ Below w.heap.size w w' := by
  have hb1 : Below w.heap.size w (w.alloc (.cells #[v0, v1, v2, .bool o.hasSig, v4] 27)) := (Below.refl _ w).alloc (Nat.le_refl _) _
  have hpW := hp.below hb1
  have a0 : (w.alloc (.cells #[v0, v1, v2, .bool o.hasSig, v4] 27)).cell? ⟨w.heap.size, 0, none⟩ = some v0 := by simp
  have a1 : (w.alloc (.cells #[v0, v1, v2, .bool o.hasSig, v4] 27)).cell? ⟨w.heap.size, 1, none⟩ = some v1 := by simp
  have a2 : (w.alloc (.cells #[v0, v1, v2, .bool o.hasSig, v4] 27)).cell? ⟨w.heap.size, 2, none⟩ = some v2 := by simp
  have a3 : (w.alloc (.cells #[v0, v1, v2, .bool o.hasSig, v4] 27)).cell? ⟨w.heap.size, 3, none⟩ = some (.bool o.hasSig) := by simp
  have a4 : (w.alloc (.cells #[v0, v1, v2, .bool o.hasSig, v4] 27)).cell? ⟨w.heap.size, 4, none⟩ = some v4 := by simp
  have hbd := add_bd hp
  have HSH := Lib.hid fun W (hW : ObjParts W v0 v1 v2 v4 o) => shape_any o v0 v1 v2 v4 W hW (by have := hs.grps; omega) (fun g hg => by have := hs.mems g hg; omega)
  have HBY := Lib.hid fun W (hW : ObjParts W v0 v1 v2 v4 o) (hl : Lays o) => refBytes_any o v0 v1 v2 v4 W hW hl
  have hbl : Lays o → (bytesOf o).length ≤ 100000000 := fun hl => by
    have h1 := body_take hl ((allOf o).length)
    have h2 := headsBy_length (placesOf (headNames (partsOf o))) (allOf o) (allOf o).length (Nat.le_refl _)
    have h3 := allOf_length o
    have h4 := symNo_le hl
    rw [List.take_length] at h1
    rw [bytesOf_eq, List.length_append, List.length_append, hdrB_length, h2]
    omega
  have hlay : shapeB o = true → Lays o := fun h => shape_lays h hs hbd
  have hmo : mayO o = (shapeB o && decide ((bytesOf o).length ≤ 16384)) := rfl
  generalize mayO o = res at *
  generalize shapeB o = sb at *
  have HMO := Lib.hid hmo
  have HLAY := Lib.hid hlay
  have HPW := Lib.hid hpW
  have HBL := Lib.hid hbl
  clear hp hpW hs hbd hmo hlay hbl
  go_enter Tryz.func7, Tryz.ntmps7
  go_upto_region 1 with fail
  generalize w.alloc (.cells #[v0, v1, v2, .bool o.hasSig, v4] 27) = W1 at *
  have hb1s := hb1.size
  go_wp2_with fail
  refine (HSH.out _ HPW.out).mono ?_
  rintro e w2 ⟨rfl, hb2⟩
  have b0 := cell_later hb2 a0
  have b1 := cell_later hb2 a1
  have b2 := cell_later hb2 a2
  have b3 := cell_later hb2 a3
  have b4 := cell_later hb2 a4
  have HP2 := Lib.hid (HPW.out.below hb2)
  have hbw2 : Below w.heap.size w w2 := hb1.trans (hb2.mono hb1s)
  have hbw2s := hbw2.size
  clear a0 a1 a2 a3 a4 hb1 hb2 HPW
  cases sb with
  | false =>
    have hE : Hid (res = false) := Lib.hid (by rw [HMO.out]; rfl)
    go_wp2_with fail
    go_ret
    rw [hE.out]
    exact ⟨rfl, hbw2⟩
  | true =>
    have HBY2 := Lib.hid (HBY.out w2 HP2.out (HLAY.out rfl))
    have hbl2 := HBL.out (HLAY.out rfl)
    have hE : Hid (res = decide ((bytesOf o).length ≤ 16384)) := Lib.hid (by rw [HMO.out]; rfl)
    generalize bytesOf o = bs at *
    go_wp2_with fail
    refine HBY2.out.mono ?_
    rintro e w3 ⟨v, rfl, ho, hb3⟩
    have hbw3 : Below w.heap.size w w3 := hbw2.trans (hb3.mono hbw2s)
    obtain ⟨p, c, rfl, _, _, _, _⟩ := Has.of_owns ho
    have HO := Lib.hid ho
    generalize bs.length = n at *
    clear ho hbw2 hb3
    by_cases h : n ≤ 16384
    · have hI : (n : Int) ≤ 16384 := by omega
      have hE2 : Hid (res = true) := Lib.hid (by rw [hE.out]; exact decide_eq_true h)
      go_wp2_with fail
      go_ret
      rw [hE2.out]
      exact ⟨rfl, hbw3⟩
    · have hI : decide ((n : Int) ≤ 16384) = false := decide_eq_false (by omega)
      have hE2 : Hid (res = false) := Lib.hid (by rw [hE.out]; exact decide_eq_false h)
      go_wp2_with fail
      go_ret
      rw [hE2.out]
      exact ⟨rfl, hbw3⟩
end Go.Proofs.YtmcegjkkgbnjlaaGreat

namespace Go.Proofs.YtmcegjkkgbnjlaaGreat
open Go.RowKit

theorem code_ne (a b : Int) (w : World) : (binOp .neq 33 (.iface 36 (.int .i64 a)) (.iface 36 (.int .i64 b))).run Tryz.prog w = .ok (.bool (!(a == b))) w := by
  have h := code_eq a b w
  simp only [binOp] at h ⊢
  revert h
  cases hq : (Op.equal 33 (.iface 36 (.int .i64 a)) (.iface 36 (.int .i64 b))).run Tryz.prog w <;> simp [hq] <;> intro h <;> simp_all

/-- What Bytes gives: a slice whose string is the bytes' in every later world. -/
theorem bytes_str (o : ObjD) (v0 v1 v2 v4 : Value) (w : World) (hp : ObjParts w v0 v1 v2 v4 o) (hl : Lays o) :
    Calls Tryz.prog 10 #[objV v0 v1 v2 o.hasSig v4] w fun e w' => ∃ (p : Option Addr) (c N : Nat), e = .returned (.slice p (bytesOf o).length c) ∧ (∀ W, Below N w' W → (convert 31 9 (.slice p (bytesOf o).length c)).run Tryz.prog W = .ok (.string (str (bytesOf o))) W) ∧ N = w'.heap.size ∧ Below w.heap.size w w' := by
  refine (refBytes_any o v0 v1 v2 v4 w hp hl).mono ?_
  rintro e w' ⟨v, rfl, ho, hb⟩
  obtain ⟨p, c, rfl, _, _, _, hh⟩ := Has.of_owns ho
  exact ⟨p, c, _, rfl, fun W hW => conv_now (hh.below hW) rfl, rfl, hb⟩

set_option maxRecDepth 100000 in
set_option maxHeartbeats 4000000 in
theorem oputs_walk (o : ObjD) (v : Value) (w : World) (h : IsObj w v o) :
    Calls Tryz.prog 3 #[v] w fun e w' => e = .returned (.bool true) ∧ Below w.heap.size w w' := by
  obtain ⟨v0, v1, v2, v4, rfl, hp⟩ := h
  obtain ⟨hp1, hb1, hx1⟩ := obj_laid hp
  obtain ⟨a0, a1, a2, a3, a4⟩ := obj_cells hx1
  have hbd := add_bd hp
  have HU := Lib.hid fun W => up_any W
  have HP := Lib.hid hp1
  have hbs := hb1.size
  clear hp hp1 hx1
  go_enter Tryz.func3, Tryz.ntmps3
  go_upto_region 1 with fail
  generalize w.alloc (.cells #[v0, v1, v2, .bool o.hasSig, v4] 27) = W1 at *
  generalize hgb : w.heap.size = gb at *
  go_upto_region 2 with (first | (go_at_call 5; refine (HU.out _).mono ?_; rintro e w2 ⟨rfl, hb2⟩) | fail)
  have hb2' : Below gb w w2 := hb1.trans (hb2.mono hbs)
  have b0 := cell_later hb2 a0
  have b1 := cell_later hb2 a1
  have b2 := cell_later hb2 a2
  have b3 := cell_later hb2 a3
  have b4 := cell_later hb2 a4
  have hp2 := HP.out.below hb2
  have HS := Lib.hid (small_any o _ _ _ _ w2 hp2)
  have HP2 := Lib.hid hp2
  have hg2 : gb ≤ w2.heap.size := Nat.le_trans hbs hb2.size
  clear a0 a1 a2 a3 a4 hb2 hp2 hb1 HP HU
  go_wp2_with fail
  refine HS.out.mono ?_
  rintro e w3 ⟨⟨r, rfl, hr⟩, hb3⟩
  have hb3' : Below gb w w3 := hb2'.trans (hb3.mono hg2)
  rcases hr with rfl | ⟨rfl, hsm⟩
  · go_wp2_with fail
    go_ret
    subst hgb
    exact ⟨rfl, hb3'⟩
  have c0 := cell_later hb3 b0
  have c1 := cell_later hb3 b1
  have c2 := cell_later hb3 b2
  have c3 := cell_later hb3 b3
  have c4 := cell_later hb3 b4
  have hp3 := HP2.out.below hb3
  have hg3 : gb ≤ w3.heap.size := Nat.le_trans hg2 hb3.size
  have HRM := Lib.hid (refMay_any o _ _ _ _ w3 hp3 hsm)
  have HMAY := Lib.hid fun W (hW : Below w3.heap.size w3 W) => ownMay_any o _ _ _ _ W (hp3.below hW) hsm
  have HPUT := Lib.hid fun W (hW : Below w3.heap.size w3 W) => ownPut_any o _ _ _ _ W (hp3.below hW) hsm
  have HPY := Lib.hid fun (hm : mayO o = true) W (hW : Below w3.heap.size w3 W) => oput_yes o _ _ _ _ W (hp3.below hW) hsm hm
  have hlay : mayO o = true → Lays o := fun hm => by
    unfold mayO at hm
    rw [Bool.and_eq_true] at hm
    exact shape_lays hm.1 hsm hbd
  have HBY := Lib.hid fun (hm : mayO o = true) W (hW : Below w3.heap.size w3 W) => bytes_str o _ _ _ _ W (hp3.below hW) (hlay hm)
  clear b0 b1 b2 b3 b4 hb3 hp3 hsm hb2' hg2 HP2 HS hbd hlay
  cases hm : mayO o with
  | false =>
    have HNO : Hid (∀ W, Below w3.heap.size w3 W → Calls Tryz.prog 8 #[objV v0 v1 v2 o.hasSig v4] W fun e w' => e = .returned (.tuple #[.slice none 0 0, .iface 36 (.int .i64 1)]) ∧ Below W.heap.size W w') := Lib.hid fun W hW => (HPUT.out W hW).mono fun e w' ⟨hb, h⟩ => by
      rcases h with ⟨h, _⟩ | ⟨_, h⟩
      · rw [hm] at h; cases h
      · exact ⟨h, hb⟩
    rw [hm] at HMAY HRM
    clear HPUT HPY HBY
    go_wp2_with fail
    refine HRM.out.mono ?_
    rintro e w4 ⟨rfl, hb4⟩
    have d0 := cell_later hb4 c0
    have d1 := cell_later hb4 c1
    have d2 := cell_later hb4 c2
    have d3 := cell_later hb4 c3
    have d4 := cell_later hb4 c4
    have HN4 := Lib.hid (HNO.out w4 hb4)
    clear c0 c1 c2 c3 c4 HRM HNO
    go_wp2_with fail
    refine HN4.out.mono ?_
    rintro e w5 ⟨rfl, hb5⟩
    have e0 := cell_later hb5 d0
    have e1 := cell_later hb5 d1
    have e2 := cell_later hb5 d2
    have e3 := cell_later hb5 d3
    have e4 := cell_later hb5 d4
    have hb35 := hb4.trans (hb5.mono hb4.size)
    have HM5 := Lib.hid (HMAY.out w5 hb35)
    clear d0 d1 d2 d3 d4 hb4 hb5 HN4 HMAY
    go_wp2_with fail
    refine HM5.out.mono ?_
    rintro e w6 ⟨rfl, hb6⟩
    have hne := code_ne 1 1 w6
    have hb36 := hb35.trans (hb6.mono hb35.size)
    go_wp2_with fail
    go_ret
    subst hgb
    exact ⟨rfl, hb3'.trans (hb36.mono hg3)⟩
  | true =>
    have HPY2 := Lib.hid (HPY.out hm)
    have HBY2 := Lib.hid (HBY.out hm)
    rw [hm] at HMAY HRM
    unfold PutYes at HPY2
    clear HPUT HPY HBY
    generalize hnb : (bytesOf o).length = n at *
    have HNB := Lib.hid hnb
    clear hnb
    go_wp2_with fail
    refine HRM.out.mono ?_
    rintro e w4 ⟨rfl, hb4⟩
    have d0 := cell_later hb4 c0
    have d1 := cell_later hb4 c1
    have d2 := cell_later hb4 c2
    have d3 := cell_later hb4 c3
    have d4 := cell_later hb4 c4
    have HN4 := Lib.hid (HPY2.out w4 hb4)
    clear c0 c1 c2 c3 c4 HRM HPY2
    go_wp2_with fail
    refine HN4.out.mono ?_
    rintro e w5 ⟨hb5, p, c, rfl, hh, q1, q2, q3⟩
    have e0 := cell_later hb5 d0
    have e1 := cell_later hb5 d1
    have e2 := cell_later hb5 d2
    have e3 := cell_later hb5 d3
    have e4 := cell_later hb5 d4
    have hb35 := hb4.trans (hb5.mono hb4.size)
    have HM5 := Lib.hid (HMAY.out w5 hb35)
    have HC5 := Lib.hid fun W (hW : Below w5.heap.size w5 W) => conv_now (cap := c) (hh.below hW) HNB.out
    clear d0 d1 d2 d3 d4 hb4 hb5 HN4 HMAY hh q1 q2 q3
    go_wp2_with fail
    refine HM5.out.mono ?_
    rintro e w6 ⟨rfl, hb6⟩
    have k0 := cell_later hb6 e0
    have k1 := cell_later hb6 e1
    have k2 := cell_later hb6 e2
    have k3 := cell_later hb6 e3
    have k4 := cell_later hb6 e4
    have hb36 := hb35.trans (hb6.mono hb35.size)
    have hfin := hb3'.trans (hb36.mono hg3)
    obtain ⟨N6, hN6⟩ : ∃ N6, N6 = w6.heap.size := ⟨_, rfl⟩
    have hcv : ∀ W, Below N6 w6 W → (convert 31 9 (.slice p n c)).run Tryz.prog W = .ok (.string (str (bytesOf o))) W := fun W hW => HC5.out W (hb6.trans ((by rw [← hN6]; exact hW : Below w6.heap.size w6 W).mono hb6.size))
    have HB6 : Hid (∀ W, Below N6 w6 W → Calls Tryz.prog 10 #[objV v0 v1 v2 o.hasSig v4] W fun e w' => ∃ (p : Option Addr) (c N : Nat), e = .returned (.slice p n c) ∧ (∀ W', Below N w' W' → (convert 31 9 (.slice p n c)).run Tryz.prog W' = .ok (.string (str (bytesOf o))) W') ∧ N = w'.heap.size ∧ Below W.heap.size W w') := Lib.hid fun W hW => HBY2.out W (hb36.trans ((by rw [← hN6]; exact hW : Below w6.heap.size w6 W).mono hb36.size))
    have hr6 : Below N6 w6 w6 := by rw [hN6]; exact Below.refl _ _
    have hd6 : Below N6 w6 w6.drew := by rw [hN6]; exact (Below.refl _ _).drew
    have HN6 := Lib.hid hN6
    generalize str (bytesOf o) = sb at *
    clear e0 e1 e2 e3 e4 hb6 hb35 hb36 HBY2 HC5 HM5 hN6
    go_upto_region 10 with fail
    go_region_held (fun W => W.cell? ⟨gb, 0, none⟩ = some v0 ∧ W.cell? ⟨gb, 1, none⟩ = some v1 ∧ W.cell? ⟨gb, 2, none⟩ = some v2 ∧ W.cell? ⟨gb, 3, none⟩ = some (.bool o.hasSig) ∧ W.cell? ⟨gb, 4, none⟩ = some v4) (first | go_keep | exact ⟨k0, k1, k2, k3, k4⟩ | exact ⟨x0, x1, x2, x3, x4⟩ | fail)
      ((first
        | (go_at_call 10
           refine (HB6.out _ (by first | exact hr6 | exact hd6 | fail)).mono ?_
           rintro e w7 ⟨q, d, N7, rfl, hcv7, hN7, hb7⟩
           have hb67 : Below gb w w7 := by first | exact hfin.trans (hb7.mono (by rw [← hgb]; exact hfin.size)) | exact hfin.drew.trans (hb7.mono (by rw [← hgb]; exact hfin.size)) | fail
           have hx7 : Below N6 w6 w7 := by first | exact hr6.trans (hb7.mono (by rw [HN6.out]; exact Nat.le_refl _)) | exact hd6.trans (hb7.mono (by rw [HN6.out]; exact Nat.le_refl _)) | fail
           have hy7 : Below N7 w7 w7 := by rw [hN7]; exact Below.refl _ _
           have HN7 := Lib.hid hN7
           clear hN7
           have x0 := cell_later hb7 k0
           have x1 := cell_later hb7 k1
           have x2 := cell_later hb7 k2
           have x3 := cell_later hb7 k3
           have x4 := cell_later hb7 k4)
        | fail))
    all_goals go_wp2_with fail
    all_goals go_ret
    all_goals subst hgb
    all_goals exact ⟨rfl, hb67⟩
end Go.Proofs.YtmcegjkkgbnjlaaGreat

namespace Go.Proofs.YtmcegjkkgbnjlaaGreat
open Go.ChangeShapes Go.WideShapes Go.RowKit Go.Deep

theorem open_struct_ints {H : Type} {enc : TypeId × Value → H} {P : Program} {w : World} {base : Nat} {spare : Nat → Bool} {held : Bool} {r : Reach} {b0 : Nat} {t : TypeId} {fs : Array Field} {v : Value} {d : DataW H} {p : List MemPlace}
    (hs : P.underlying t = some (.struct fs)) (hone : oneCellFields P fs = true) (hC : P.cellsOf t = fs.size) {e : TypeId} (hall : fs.all (fun f => f.type == e) = true) (he : P.underlying e = some (.int .i64))
    (hv : Value.okWide P w r b0 t v) (h : DataW.Trod enc P w base spare held t v d p) :
    ∃ xs : List Int, xs.length = fs.size ∧ v = .agg ((xs.map (Value.int .i64)).toArray) ∧ ∀ x ∈ xs, (Lit.int .i64 x).wf = true := by
  have hint : ∀ (j : Nat) (f : Field), fs[j]? = some f → P.underlying f.type = some (.int .i64) := fun j f hf => by
    obtain ⟨hj, hfj⟩ := Array.getElem?_eq_some_iff.1 hf
    have := (Array.all_eq_true.1 hall) j hj
    rw [hfj, beq_iff_eq] at this
    rw [this]
    exact he
  obtain ⟨cs, rfl, hsz⟩ := okWide_struct hs hv
  obtain ⟨fuel, hf⟩ := h
  obtain ⟨ys, n, _, _, hlen, hyl, hfl⟩ := DataW.trod_struct hs hf
  have hlen2 : cs.toList.length = fs.size := by rw [Array.length_toList, hsz, hC]
  have key : ∀ (j : Nat) (u : Value), cs.toList[j]? = some u → ∃ m : Int, u = .int .i64 m ∧ (Lit.int .i64 m).wf = true := fun j u hu => by
    have hj : j < fs.size := by have := (List.getElem?_eq_some_iff.1 hu).1; omega
    have hfj : fs[j]? = some fs[j] := Array.getElem?_eq_getElem hj
    obtain ⟨ho, hk⟩ := hone_of hone j _ hfj
    have h1 := hfl j _ hfj
    rw [ho, hk] at h1
    have hcells : (Value.agg cs).cells.toList = cs.toList := rfl
    rw [hcells] at h1
    have hone' : (cs.toList.drop j).take 1 = [u] := by
      have hjl : j < cs.toList.length := (List.getElem?_eq_some_iff.1 hu).1
      rw [List.drop_eq_getElem_cons hjl, (List.getElem?_eq_some_iff.1 hu).2]
      rfl
    rw [hone'] at h1
    have hy : ys[j]? = some (ys[j]'(by omega)) := List.getElem?_eq_getElem (by omega)
    rw [hy] at h1
    obtain ⟨m, hm, _, hw⟩ := DataW.trod_int (hint j _ hfj) h1
    simp only [List.cons.injEq, and_true] at hm
    exact ⟨m, hm, hw⟩
  refine ⟨cs.toList.map intOf, by rw [List.length_map]; exact hlen2, ?_, fun x hx => ?_⟩
  · congr 1
    apply Array.ext'
    rw [List.map_map]
    apply List.ext_getElem?
    intro j
    rw [List.getElem?_map]
    cases hj : cs.toList[j]? with
    | none => rfl
    | some u =>
      obtain ⟨m, rfl, _⟩ := key j u hj
      rfl
  · obtain ⟨u, hu, rfl⟩ := List.mem_map.1 hx
    obtain ⟨j, hj⟩ := List.getElem?_of_mem hu
    obtain ⟨m, rfl, hw⟩ := key j u hj
    exact hw

end Go.Proofs.YtmcegjkkgbnjlaaGreat
