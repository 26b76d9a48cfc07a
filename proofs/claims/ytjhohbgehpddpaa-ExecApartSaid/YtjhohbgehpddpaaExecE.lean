/-
  Images that are read: contract of the project's Load.
-/
import Derived.Test.YtjhohbgehpddpaaExecD
import Derived.Deep.AppendLies
namespace Go.Proofs.Ytjhohbgehpddpaa
open Go.RowKit

/-- The first segments, and where the last one of them ends. -/
def loadGo (l : List UInt8) : Nat → Option (List SegD × Nat)
  | 0 => some ([], 0)
  | k + 1 => match loadGo l k with
    | none => none
    | some (s, e) => bif segOK l (64 + 56 * k) && decide (e ≤ (segD l (64 + 56 * k)).addr) then some (s ++ [segD l (64 + 56 * k)], (segD l (64 + 56 * k)).addr + (segD l (64 + 56 * k)).size) else none
theorem loadGo_none {l : List UInt8} {k : Nat} (h : loadGo l k = none) : ∀ {n : Nat}, k ≤ n → loadGo l n = none
  | 0, hk => by obtain rfl : k = 0 := by omega
                exact h
  | n + 1, hk => by
    by_cases e : k = n + 1
    · subst e; exact h
    · unfold loadGo
      rw [loadGo_none h (show k ≤ n by omega)]
theorem loadGo_length {l : List UInt8} : ∀ {k : Nat} {s : List SegD} {e : Nat}, loadGo l k = some (s, e) → s.length = k
  | 0, s, e, h => by cases h; rfl
  | k + 1, s, e, h => by
    unfold loadGo at h
    cases hk : loadGo l k with
    | none => rw [hk] at h; cases h
    | some x =>
      obtain ⟨s0, e0⟩ := x
      rw [hk] at h
      simp only at h
      cases hb : (segOK l (64 + 56 * k) && decide (e0 ≤ (segD l (64 + 56 * k)).addr)) with
      | false => rw [hb] at h; cases h
      | true => rw [hb] at h; cases h; simp [loadGo_length hk]
/-- The image that the bytes are. -/
def loadO (l : List UInt8) : Option (Nat × List SegD) := bif xHeadOK l then (match loadGo l (xMany l) with
  | some (s, _) => some (nAt l 24, s)
  | none => none) else none

/-- A segment as it lies: its numbers, its bytes' slice. -/
structure SegV where
  (s : SegD)
  (d : Value)
def SegV.cells (x : SegV) : List Value := [.int .i64 (x.s.addr : Int), .int .i64 (x.s.size : Int), .int .i64 (x.s.flags : Int), x.d]
def SegV.ok (x : SegV) (N : Nat) (w : World) : Prop := w.ownsRow N 5 1 x.d x.s.data.length (x.s.data.map u8v)
theorem segV_cells (x : SegV) : x.cells.length = 4 := rfl
def SegsRow (N : Nat) (v : Value) (l : List SegD) (w : World) : Prop := ∃ svs : List SegV, svs.map SegV.s = l ∧ w.ownsRow N 48 4 v svs.length (svs.flatMap SegV.cells) ∧ ∀ x ∈ svs, x.ok N w
/-- What Load tells. -/
def XLoadIs (l : List UInt8) (w : World) (e : Ending) (w' : World) : Prop := ∃ v0 v1 er, e = .returned (.tuple #[.agg #[v0, v1], er]) ∧ Below w.heap.size w w' ∧
  (loadO l = none ∧ v0 = .int .i64 0 ∧ v1 = .slice none 0 0 ∧ er = .iface 49 (.int .i64 2) ∨ ∃ (en : Nat) (segs : List SegD), loadO l = some (en, segs) ∧ v0 = .int .i64 (en : Int) ∧ er = .nilIface ∧ SegsRow w.heap.size v1 segs w')

theorem Try.infoSeg : (Try.prog.info? 48).map (fun i => (i.zero, i.size, i.bytes)) = some (some (.agg zSegC), 4, 48) := by kernel_rfl
theorem cells2 (w : World) (g : Nat) (v0 v1 : Value) (T : TypeId) (h : w.heap[g]? = some (.cells #[v0, v1] T (0, 0))) :
    (w.cell? ⟨g, 0, none⟩ = some v0 ∧ w.cell? ⟨g, 1, none⟩ = some v1) ∧ (w.frozen? ⟨g, 0, none⟩ = false ∧ w.frozen? ⟨g, 1, none⟩ = false) := by
  refine ⟨⟨?_, ?_⟩, ?_, ?_⟩
  all_goals first | exact (cell_of_row w g _ _ _ (0, 0) h).trans rfl | exact frozen_of_row w g _ _ _ h | fail
theorem set_two0 {w : World} {g N : Nat} {v0 v1 : Value} {T : TypeId} (u0 u1 : Value) (hN : N ≤ g) (h : w.heap[g]? = some (.cells #[v0, v1] T (0, 0))) :
    ((w.setCell ⟨g, 0, none⟩ u0).setCell ⟨g, 1, none⟩ u1).heap[g]? = some (.cells #[u0, u1] T (0, 0)) ∧ FrT N [T] w ((w.setCell ⟨g, 0, none⟩ u0).setCell ⟨g, 1, none⟩ u1) := by
  have h0 := heap_setCell_same w g 0 _ _ u0 h
  have h1 := heap_setCell_same _ g 1 _ _ u1 h0
  exact ⟨h1, (FrT.set h (by simp) hN _).trans (FrT.set h0 (by simp) hN _)⟩
theorem results_img {fn : Func} {p u : Tmp} (h : fn.results = #[.cell p 42, .tmp u]) (tmps : Array Value) (w : World) (g : Nat) (v0 v1 b : Value) (hp : tmps.getD p undef = .pointer (some ⟨g, 0, none⟩)) (hu : tmps.getD u undef = b)
    (hg : w.heap[g]? = some (.cells #[v0, v1] 42 (0, 0))) : (results fn tmps).run Try.prog w = .ok (.tuple #[.agg #[v0, v1], b]) w := by
  obtain ⟨⟨r0, r1⟩, _⟩ := cells2 _ _ _ _ _ hg
  rw [results_cell_tmp h, hp, hu]
  go_simp

theorem four_cell_at (w : World) (a b c d : Value) (T : TypeId) : ∀ j u, [a, b, c, d][j]? = some u → (w.alloc (.cells #[a, b, c, d] T)).cell? ((⟨w.heap.size, 0, none⟩ : Addr).add j) = some u := fun j u h => by
  have ha : (⟨w.heap.size, 0, none⟩ : Addr).add j = ⟨w.heap.size, j, none⟩ := by unfold Addr.add; split <;> simp_all
  rw [ha, cell_of_row _ w.heap.size j #[a, b, c, d] T (0, 0) (heap_alloc_new w _)]
  simpa using h
theorem four_one (a b c : Int) (p : Option Addr) (n m : Nat) : ∀ u ∈ [Value.int .i64 a, .int .i64 b, .int .i64 c, .slice p n m], u.oneCell' = true := fun u hu => by
  simp only [List.mem_cons, List.not_mem_nil, or_false] at hu
  rcases hu with rfl | rfl | rfl | rfl <;> rfl
set_option maxRecDepth 100000 in
set_option maxHeartbeats 4000000 in
theorem xload_any (p : Option Addr) (len cap : Nat) (l : List UInt8) (w : World) (h : Has w p l) (hlen : l.length = len) (hcap : len ≤ cap) (hm : cap ≤ maxLen) (hbig : len ≤ 100000) :
    Calls Try.prog 20 #[.slice p len cap] w (XLoadIs l w) := by
  have HH := Lib.hid fun (W : World) (hW : Below w.heap.size w W) => xhead_any p len cap l W (h.below hW) hlen hcap hm hbig
  have HSG := Lib.hid fun (j : Nat) (hj : j + 56 ≤ len) (W : World) (hW : Below w.heap.size w W) => xseg_any p len cap l j W (h.below hW) hlen hcap hm hbig hj
  have hL : loadO l = bif xHeadOK l then (match loadGo l (xMany l) with | some (s, _) => some (nAt l 24, s) | none => none) else none := rfl
  have HL := Lib.hid hL
  have HFIT : Hid (xHeadOK l = true → xMany l ≤ 16 ∧ 64 + 56 * xMany l ≤ len) := Lib.hid fun h => by
    unfold xHeadOK xFit at h
    simp only [Bool.and_eq_true, decide_eq_true_eq] at h
    omega
  have hf0 := heap_alloc_new w (.cells #[.int .i64 0, .slice none 0 0] 42)
  have hb0 : Below w.heap.size w (w.alloc (.cells #[.int .i64 0, .slice none 0 0] 42)) := (Below.refl _ w).alloc (Nat.le_refl _) _
  have hs0 : (w.alloc (.cells #[.int .i64 0, .slice none 0 0] 42)).heap.size = w.heap.size + 1 := by simp
  clear hL h hlen hm
  go_enter Try.func20, Try.ntmps20
  go_upto_region 1 with fail
  generalize w.alloc (.cells #[.int .i64 0, .slice none 0 0] 42) = w1 at *
  generalize hgb : w.heap.size = gb at *
  have HGB := Lib.hid hgb
  clear hgb
  have hh := HH.out w1 (by first | exact hb0 | (rw [HGB.out]; exact hb0))
  unfold XHeadIs at hh
  generalize hok : xHeadOK l = R at *
  have HOKR := Lib.hid hok
  clear HH hok
  go_wp2_with fail
  refine hh.mono ?_
  rintro e w2 ⟨a, m, rfl, ham, hb2⟩
  have hf2 := (hb2.block gb (by omega)).trans hf0
  have hbw2 : Below gb w w2 := hb0.trans (hb2.mono (by omega))
  have hgs2 : gb < w2.heap.size := (Array.getElem?_eq_some_iff.1 hf2).1
  have HAM := Lib.hid ham
  clear hb0 hb2 hf0 hs0 ham hh
  clear w1
  cases R with
  | false =>
    have hN : Hid (loadO l = none) := Lib.hid (by rw [HL.out]; rfl)
    obtain ⟨⟨c0, c1⟩, z0, z1⟩ := cells2 _ _ _ _ _ hf2
    have hst := set_two0 (.int .i64 0) (.slice none 0 0) (Nat.le_refl gb) hf2
    have HST := Lib.hid hst
    clear hst
    go_wp2_with fail
    exact bodyPost_ret (results_img rfl _ _ _ _ _ _ (by rfl) (by rfl) HST.out.1) rfl ⟨_, _, _, rfl, by rw [HGB.out]; exact hbw2.trans (HST.out.2.below (by omega)), .inl ⟨hN.out, rfl, rfl, rfl⟩⟩
  | true =>
    obtain ⟨rfl, rfl⟩ := HAM.out rfl
    obtain ⟨hM16, hMlen⟩ := HFIT.out rfl
    generalize xMany l = M at *
    generalize nAt l 24 = en at *
    clear HFIT HAM
    go_upto_region 5 with fail
    have hg3 := heap_alloc_new w2 (.cells #[.int .i64 (en : Int), .slice none 0 0] 42)
    have hf3 := (Below.heap_alloc w2 (.cells #[.int .i64 (en : Int), .slice none 0 0] 42) gb hgs2).trans hf2
    have hb3 : Below gb w (w2.alloc (.cells #[.int .i64 (en : Int), .slice none 0 0] 42)) := hbw2.alloc (by omega) _
    generalize w2.alloc (.cells #[.int .i64 (en : Int), .slice none 0 0] 42) = w3 at *
    generalize hgi : w2.heap.size = gi at *
    have hgig : gb < gi := hgs2
    obtain ⟨i0, hi, hz0, hz1, hz2⟩ := info_parts Try.infoSeg
    have HI := Lib.hid hi
    have H0 := Lib.hid hz0
    have H1 := Lib.hid hz1
    have H2 := Lib.hid hz2
    clear hi hz0 hz1 hz2 hbw2 hf2 hgi
    clear w2
    go_wp2_with fail
    go_loopw [8, 25] (fun r8 r25 wr => ∃ (k n : Nat) (svs : List SegV) (v : Value), k ≤ M ∧ r25 = .int .i64 (k : Int) ∧ r8 = .int .i64 (n : Int) ∧ n ≤ 4294967296 ∧ loadGo l k = some (svs.map SegV.s, n) ∧ svs.length = k ∧
      wr.heap[gb]? = some (.cells #[.int .i64 0, .slice none 0 0] 42 (0, 0)) ∧ wr.heap[gi]? = some (.cells #[.int .i64 (en : Int), v] 42 (0, 0)) ∧ wr.ownsRow gb 48 4 v k (svs.flatMap SegV.cells) ∧ (∀ x ∈ svs, x.ok gb wr) ∧ Below gb w wr) (fun _ r25 _ => M - (intOf r25).toNat)
    case atStart => exact ⟨0, 0, [], .slice none 0 0, Nat.zero_le _, rfl, rfl, by omega, rfl, rfl, hf3, hg3, World.ownsRow_nil _ _ _ _, (fun x hx => by cases hx), hb3⟩
    case round =>
      obtain ⟨k, n, svs, v, hk, rfl, rfl, hn, hgo, hsl, hf, hg, hown, hsv, hb⟩ := hrel
      have HGO := Lib.hid hgo
      have HSL := Lib.hid hsl
      have HSV := Lib.hid hsv
      clear hf3 hg3 hb3 hgo hsl hsv
      by_cases hlt : k < M
      · have hI : (k : Int) < (M : Int) := by omega
        have k1 : IntKind.i64.wrap ((k : Int) * 56) = (k : Int) * 56 := IntWalk.i64_in _ (by omega)
        have k2 : IntKind.i64.wrap (64 + (k : Int) * 56) = 64 + (k : Int) * 56 := IntWalk.i64_in _ (by omega)
        have hsg := HSG.out (64 + 56 * k) (by omega) wr (by first | exact hb | (rw [HGB.out]; exact hb))
        rw [show ((64 + 56 * k : Nat) : Int) = 64 + (k : Int) * 56 by omega] at hsg
        have hgo1 : loadGo l (k + 1) = bif segOK l (64 + 56 * k) && decide (n ≤ (segD l (64 + 56 * k)).addr) then some (svs.map SegV.s ++ [segD l (64 + 56 * k)], (segD l (64 + 56 * k)).addr + (segD l (64 + 56 * k)).size) else none := by
          show (match loadGo l k with | none => none | some (s, e) => _) = _
          rw [HGO.out]
        have HGO1 := Lib.hid hgo1
        have HLN : Hid (loadGo l (k + 1) = none → loadO l = none) := Lib.hid fun h => by rw [HL.out, loadGo_none h (show k + 1 ≤ M by omega)]; rfl
        have hd1 : (segD l (64 + 56 * k)).addr ≤ 2147483648 := nV_le _ _
        have hd2 : (segD l (64 + 56 * k)).size ≤ 2147483648 := nV_le _ _
        unfold XSegIs at hsg
        generalize segD l (64 + 56 * k) = S at *
        generalize hso : segOK l (64 + 56 * k) = SO at *
        have HSO := Lib.hid hso
        clear hgo1 hso
        have hgs : gb < wr.heap.size := (Array.getElem?_eq_some_iff.1 hf).1
        have hgis : gi < wr.heap.size := (Array.getElem?_eq_some_iff.1 hg).1
        go_wp2_with fail
        refine hsg.mono ?_
        rintro e w4 ⟨u0, u1, u2, u3, ok, rfl, hb4, hcase⟩
        have hf4 := (hb4.block gb hgs).trans hf
        have hg4 := (hb4.block gi hgis).trans hg
        have hbw4 : Below gb w w4 := hb.trans (hb4.mono (by omega))
        have hown4 := owns_belowN hown hb4
        have HSV4 : Hid (∀ x ∈ svs, x.ok gb w4) := Lib.hid fun x hx => owns_belowN (HSV.out x hx) hb4
        have hs4 : gb < w4.heap.size := (Array.getElem?_eq_some_iff.1 hf4).1
        have hs4i : gi < w4.heap.size := (Array.getElem?_eq_some_iff.1 hg4).1
        have hgb4 : gb ≤ wr.heap.size := by omega
        clear hf hg hown hb hsg HSV
        rcases hcase with ⟨rfl, hno, rfl, rfl, rfl, rfl⟩ | ⟨rfl, hyes, rfl, rfl, rfl, hdd⟩
        · have hN : Hid (loadO l = none) := Lib.hid (HLN.out (by rw [HGO1.out, hno]; rfl))
          clear hb4 hno
          have HF5 := Lib.hid ((Below.heap_alloc w4 (.cells zSegC 48) gb hs4).trans hf4)
          have HB5 : Hid (Below gb w (w4.alloc (.cells zSegC 48))) := Lib.hid (hbw4.alloc (by omega) _)
          have HS5 : Hid (gb ≤ (w4.alloc (.cells zSegC 48)).heap.size) := Lib.hid (by simp; omega)
          go_upto_region 10 with fail
          generalize w4.alloc (.cells zSegC 48) = w5 at *
          clear hf4 hg4 hbw4 hown4 HSV4
          obtain ⟨⟨c0, c1⟩, z0, z1⟩ := cells2 _ _ _ _ _ HF5.out
          have hst := set_two0 (.int .i64 0) (.slice none 0 0) (Nat.le_refl gb) HF5.out
          have HST := Lib.hid hst
          clear hst
          go_wp2_with fail
          exact bodyPost_ret (results_img rfl _ _ _ _ _ _ (by rfl) (by rfl) HST.out.1) rfl ⟨_, _, _, rfl, by rw [HGB.out]; exact HB5.out.trans (HST.out.2.below HS5.out), .inl ⟨hN.out, rfl, rfl, rfl⟩⟩
        · obtain ⟨pd, cd, rfl, hcd1, hcd2, _⟩ := slice_form hdd
          obtain ⟨dn, hdn⟩ : ∃ n, n = S.data.length := ⟨_, rfl⟩
          rw [← hdn] at hdd hcd1
          rw [← hdn]
          have HDN := Lib.hid hdn
          clear hdn
          have hb5 : Below w4.heap.size w4 (w4.alloc (.cells #[.int .i64 (S.addr : Int), .int .i64 (S.size : Int), .int .i64 (S.flags : Int), .slice pd dn cd] 48)) := (Below.refl _ w4).alloc (Nat.le_refl _) _
          have hz := heap_alloc_new w4 (.cells #[.int .i64 (S.addr : Int), .int .i64 (S.size : Int), .int .i64 (S.flags : Int), .slice pd dn cd] 48)
          have HF5 := Lib.hid ((hb5.block gb hs4).trans hf4)
          have HG5 := Lib.hid ((hb5.block gi hs4i).trans hg4)
          have HB5 := Lib.hid (hbw4.trans (hb5.mono (by omega)))
          have HS5 : Hid (gb ≤ (w4.alloc (.cells #[.int .i64 (S.addr : Int), .int .i64 (S.size : Int), .int .i64 (S.flags : Int), .slice pd dn cd] 48)).heap.size) := Lib.hid (by simp; omega)
          have hown5 := owns_belowN hown4 hb5
          have HSV5 : Hid (∀ x ∈ svs, x.ok gb (w4.alloc (.cells #[.int .i64 (S.addr : Int), .int .i64 (S.size : Int), .int .i64 (S.flags : Int), .slice pd dn cd] 48))) := Lib.hid fun x hx => owns_belowN (HSV4.out x hx) hb5
          have hdd5 := owns_belowN (owns_lower hdd hgb4) hb5
          obtain ⟨⟨x0, x1, x2, x3⟩, _⟩ := cells4 _ _ _ _ _ _ _ hz
          go_upto_region 10 with fail
          generalize w4.alloc (.cells #[.int .i64 (S.addr : Int), .int .i64 (S.size : Int), .int .i64 (S.flags : Int), .slice pd dn cd] 48) = w5 at *
          generalize w4.heap.size = gs at *
          have HDD5 := Lib.hid hdd5
          clear hf4 hg4 hbw4 hown4 HSV4 hb5 hz hdd hdd5 hs4 hs4i hb4
          clear w4
          by_cases hlt2 : S.addr < n
          · have hN : Hid (loadO l = none) := Lib.hid (HLN.out (by rw [HGO1.out, hyes, decide_eq_false (by omega : ¬ n ≤ S.addr)]; rfl))
            have hJ : (S.addr : Int) < (n : Int) := by omega
            clear hyes HGO1 HGO hown5
            obtain ⟨⟨c0, c1⟩, z0, z1⟩ := cells2 _ _ _ _ _ HF5.out
            have hst := set_two0 (.int .i64 0) (.slice none 0 0) (Nat.le_refl gb) HF5.out
            have HST := Lib.hid hst
            clear hst
            go_wp2_with fail
            exact bodyPost_ret (results_img rfl _ _ _ _ _ _ (by rfl) (by rfl) HST.out.1) rfl ⟨_, _, _, rfl, by rw [HGB.out]; exact HB5.out.trans (HST.out.2.below HS5.out), .inl ⟨hN.out, rfl, rfl, rfl⟩⟩
          · have hJ : ¬ (S.addr : Int) < (n : Int) := by omega
            have HN1 : Hid (loadGo l (k + 1) = some (svs.map SegV.s ++ [S], S.addr + S.size)) := Lib.hid (by rw [HGO1.out, hyes, decide_eq_true (by omega : n ≤ S.addr)]; rfl)
            have k5 : IntKind.i64.wrap ((S.addr : Int) + (S.size : Int)) = (S.addr : Int) + (S.size : Int) := IntWalk.i64_in _ (by omega)
            clear hyes HGO1 HGO
            obtain ⟨⟨c0, c1⟩, z0, z1⟩ := cells2 _ _ _ _ _ HG5.out
            go_upto_region 13 with fail
            go_wp2_with (at_builtin; refine wpList_append_own _ rfl (.tmp 52) (.tmp 54) 40 rfl gb 48 i0 (.agg zSegC) 4 48 Try.underlying40 HI.out H0.out H1.out H2.out rfl (by decide) _ _ _ rfl (hown5.alloc _) ⟨w5.heap.size, 0, none⟩ 1 1 [.int .i64 (S.addr : Int), .int .i64 (S.size : Int), .int .i64 (S.flags : Int), .slice pd dn cd] rfl rfl (four_cell_at w5 _ _ _ _ _) (four_one _ _ _ _ _ _) (by unfold maxLen; omega) (by omega) (by have := HS5.out; simp; omega) ?_)
            intro v1 w6 hown6 hgrow6 _
            have hbA : Below w5.heap.size w5 (w5.alloc (.cells #[.int .i64 (S.addr : Int), .int .i64 (S.size : Int), .int .i64 (S.flags : Int), .slice pd dn cd] 48)) := (Below.refl _ w5).alloc (Nat.le_refl _) _
            have hfr : FrT gb [48] w5 w6 := (FrT.of_below hbA).trans (FrT.grown (owns_belowN hown5 hbA) hgrow6 (by simp) (Nat.le_refl _))
            have hf6 := hfr.heap HF5.out (by decide)
            have hg6 := hfr.heap HG5.out (by decide)
            have hb6 : Below gb w w6 := HB5.out.trans (hfr.below HS5.out)
            have hsv6 : ∀ x ∈ svs ++ [⟨S, .slice pd dn cd⟩], SegV.ok x gb w6 := fun x hx => by
              rcases List.mem_append.1 hx with hx | hx
              · exact hfr.owns (HSV5.out x hx) (by decide)
              · obtain rfl := List.mem_singleton.1 hx
                have := hfr.owns HDD5.out (by decide)
                rw [HDN.out] at this ⊢
                exact this
            have hown6' : w6.ownsRow gb 48 4 v1 (k + 1) ((svs ++ [SegV.mk S (.slice pd dn cd)]).flatMap SegV.cells) := by
              rw [flat_snoc]
              exact hown6
            obtain ⟨pn, cn, rfl, _⟩ := slice_form hown6
            obtain ⟨⟨c0', c1'⟩, z0', z1'⟩ := cells2 _ _ _ _ _ hg6
            have hset := heap_setCell_same w6 gi 1 _ _ (.slice pn (k + 1) cn) hg6
            have hgi : gb ≤ gi := by omega
            have HSET := Lib.hid hset
            have hfr7 : FrT gb [42] w6 (w6.setCell ⟨gi, 1, none⟩ (.slice pn (k + 1) cn)) := FrT.set hg6 (by simp) hgi _
            have HOWN7 := Lib.hid (hfr7.owns hown6' (by decide))
            have HSV7 : Hid (∀ x ∈ svs ++ [⟨S, .slice pd dn cd⟩], SegV.ok x gb (w6.setCell ⟨gi, 1, none⟩ (.slice pn (k + 1) cn))) := Lib.hid fun x hx => hfr7.owns (hsv6 x hx) (by decide)
            have HB7 := Lib.hid (hb6.trans (hfr7.below (Nat.le_of_lt (Array.getElem?_eq_some_iff.1 hf6).1)))
            have HF7 : Hid ((w6.setCell ⟨gi, 1, none⟩ (.slice pn (k + 1) cn)).heap[gb]? = some (.cells #[.int .i64 0, .slice none 0 0] 42 (0, 0))) := Lib.hid (by
              rw [heap_setCell_other _ _ _ _ (show gb ≠ gi by omega)]; exact hf6)
            clear hset hfr7 hsv6 hown6' hfr hbA hgrow6 hown6 hf6 hown5 c0 c1 z0 z1 x0 x1 x2 x3
            go_wp2_with fail
            go_roundw
            case rel => exact ⟨k + 1, S.addr + S.size, svs ++ [⟨S, .slice pd dn cd⟩], .slice pn (k + 1) cn, hlt, by go_num, by go_num, by omega, by rw [HN1.out]; simp, by simp [HSL.out], HF7.out, HSET.out, HOWN7.out, HSV7.out, HB7.out⟩
            case measure => simp [intOf]; omega
      · obtain rfl : k = M := by omega
        have hI : ¬ (k : Int) < (k : Int) := by omega
        have hE : Hid (loadO l = some (en, svs.map SegV.s)) := Lib.hid (by rw [HL.out, HGO.out]; rfl)
        obtain ⟨⟨c0, c1⟩, z0, z1⟩ := cells2 _ _ _ _ _ hg
        obtain ⟨⟨d0, d1⟩, y0, y1⟩ := cells2 _ _ _ _ _ hf
        obtain ⟨pn, cn, rfl, _⟩ := slice_form hown
        have hst := set_two0 (.int .i64 (en : Int)) (.slice pn k cn) (Nat.le_refl gb) hf
        have HST := Lib.hid hst
        have HOWN := Lib.hid (hst.2.owns hown (by decide))
        have HSV2 := Lib.hid fun (x : SegV) (hx : x ∈ svs) => hst.2.owns (HSV.out x hx) (by decide)
        have hsz : gb ≤ wr.heap.size := Nat.le_of_lt (Array.getElem?_eq_some_iff.1 hf).1
        clear hst hown
        go_wp2_with fail
        exact bodyPost_ret (results_img rfl _ _ _ _ _ _ (by rfl) (by rfl) HST.out.1) rfl ⟨_, _, _, rfl, by rw [HGB.out]; exact hb.trans (HST.out.2.below hsz), .inr ⟨en, _, hE.out, rfl, rfl, svs, rfl, by rw [HGB.out, HSL.out]; exact HOWN.out, by rw [HGB.out]; exact HSV2.out⟩⟩
end Go.Proofs.Ytjhohbgehpddpaa
