/-
  Contract of the reference's Where: where a symbol is.
  Contracts of names.Find, isSym, isDropped, place, defines.
  Contract of names.allDefined.
-/
import Derived.Test.YthnkehdcolnegaaGreatNR05
namespace Go.Proofs.YthnkehdcolnegaaGreat
open Go.RowKit

theorem findIn_sym {l : List ObjD} {n : Nat} {D : List (List Bool)} {name : ByteArray} {d : DefD} (h : findIn (allTo ObjD.syms l n) D name = some d) : ∃ ob y, l[d.obj]? = some ob ∧ ob.syms[d.sym]? = some y ∧ definesB y (drAt D d.obj) = true ∧ y.name = name ∧ (y.bind = 1 ∨ y.bind = 2) := by
  have hh : ∀ b, headD name (hitsIn (allTo ObjD.syms l n) D name b) = some d → ∃ ob y, l[d.obj]? = some ob ∧ ob.syms[d.sym]? = some y ∧ definesB y (drAt D d.obj) = true ∧ y.name = name ∧ y.bind = b := fun b h => by
    unfold headD at h
    cases hq : (hitsIn (allTo ObjD.syms l n) D name b).head? with
    | none => rw [hq] at h; cases h
    | some x =>
      rw [hq] at h
      have hm : x ∈ hitsIn (allTo ObjD.syms l n) D name b := List.mem_of_mem_head? hq
      obtain ⟨h1, h2⟩ := List.mem_filter.1 hm
      unfold isHit at h2
      simp only [Bool.and_eq_true, beq_iff_eq] at h2
      obtain ⟨i, k, s⟩ := x
      obtain ⟨_, ob, h3, h4⟩ := allTo_mem.1 h1
      cases h
      exact ⟨ob, s, h3, h4, h2.1, sEq_iff.1 h2.2.1, h2.2.2⟩
  unfold findIn at h
  cases h1 : headD name (hitsIn (allTo ObjD.syms l n) D name 1) with
  | some d' =>
    rw [h1] at h
    cases h
    obtain ⟨ob, y, a, b, c, e, f⟩ := hh 1 h1
    exact ⟨ob, y, a, b, c, e, .inl f⟩
  | none =>
    rw [h1] at h
    obtain ⟨ob, y, a, b, c, e, f⟩ := hh 2 h
    exact ⟨ob, y, a, b, c, e, .inr f⟩
def symAt2 (l : List ObjD) (o s : Nat) : Option SymD := match l[o]? with | some ob => ob.syms[s]? | none => none
/-- Where a symbol is that there is. -/
def whereIn (l : List ObjD) (D : List (List Bool)) (o : Nat) (x : SymD) : PlaceD × Int := bif x.bind == 0 then ownPl D o x else match findIn (allTo ObjD.syms l l.length) D x.name with
  | some d => (match symAt2 l d.obj d.sym with | some y => ownPl D d.obj y | none => (⟨0, 0, 0⟩, 1))
  | none => bif x.bind == 2 then (⟨0, 0, 0⟩, 0) else (⟨0, 0, 0⟩, 4)
def whereB (l : List ObjD) (D : List (List Bool)) (o s : Int) : PlaceD × Int := if o < 0 ∨ (l.length : Int) ≤ o ∨ s < 0 then (⟨0, 0, 0⟩, 1) else match symAt2 l o.toNat s.toNat with
  | some x => whereIn l D o.toNat x
  | none => (⟨0, 0, 0⟩, 1)
theorem where_end {tmps : Array Value} {W w : World} {B : Nat} {r : PlaceD × Int} {x : PlaceD} {n : Int} (h8 : tmps.getD 8 undef = .pointer (some ⟨B + 1, 0, none⟩)) (h9 : tmps.getD 9 undef = .int .i64 n) (hB : w.heap.size = B)
    (hR : W.heap[B + 1]? = some (.cells (plCs x) 70 (0, 0))) (hb : Below B w W) (he : r = (x, n)) : bodyPost Tryz.prog Tryz.f26 (GivesPl r w) Exit.ret ⟨tmps, []⟩ W := by
  subst hB
  subst he
  exact bodyPost_ret (results_rpl rfl _ _ _ _ _ _ _ h8 h9 hR) rfl ⟨rfl, hb⟩
theorem pl_let (r : PlaceD × Int) : ∃ (x : PlaceD) (n : Int), r = (x, n) := ⟨r.1, r.2, rfl⟩
set_option maxRecDepth 100000 in
set_option maxHeartbeats 8000000 in
theorem rWhere_any (p pd : Option Addr) (c cd : Nat) (o s : Int) (vf : Value) (l : List ObjD) (D : List (List Bool)) (w : World) (h : HasL 5 EObj w p l) (hok : ∀ o ∈ l, OkD o) (hlc : l.length ≤ 1000) (hD : DropOK w pd l D) (hob : i64bd o) (hsb : i64bd s) :
    Calls Tryz.prog 26 #[.slice p l.length c, .agg #[.slice pd D.length cd, vf], .int .i64 o, .int .i64 s] w (GivesPl (whereB l D o s) w) := by
  obtain ⟨wa, hwa⟩ : ∃ wa, wa = w.alloc (.cells #[.slice pd D.length cd, vf] 54) := ⟨_, rfl⟩
  obtain ⟨wb, hwb⟩ : ∃ wb, wb = wa.alloc (.cells #[.int .i64 0, .int .i64 0, .int .i64 0] 70) := ⟨_, rfl⟩
  have ha : Below w.heap.size w wa := by rw [hwa]; exact (Below.refl _ w).alloc (Nat.le_refl _) _
  have hb : Below wa.heap.size wa wb := by rw [hwb]; exact (Below.refl _ wa).alloc (Nat.le_refl _) _
  have sa : wa.heap.size = w.heap.size + 1 := by rw [hwa]; simp
  have sb : wb.heap.size = w.heap.size + 2 := by rw [hwb]; simp [sa]
  have hA0 : wa.heap[w.heap.size]? = some (.cells #[.slice pd D.length cd, vf] 54 (0, 0)) := by rw [hwa]; exact heap_alloc_new w _
  have hAb := (hb.block _ (by omega)).trans hA0
  have hRb : wb.heap[wa.heap.size]? = some (.cells #[.int .i64 0, .int .i64 0, .int .i64 0] 70 (0, 0)) := by rw [hwb]; exact heap_alloc_new wa _
  rw [sa] at hRb
  have hwb0 : Below w.heap.size w wb := ha.trans (hb.mono ha.size)
  obtain ⟨r, hr⟩ : ∃ r, r = whereB l D o s := ⟨_, rfl⟩
  rw [← hr]
  have HR := Lib.hid hr
  have HWA := Lib.hid hwa
  have HWB := Lib.hid hwb
  have HAB := Lib.hid hAb
  have HRB := Lib.hid hRb
  have HWB0 := Lib.hid hwb0
  have HSB := Lib.hid sb
  have HH := Lib.hid h
  have HOK := Lib.hid hok
  have HD := Lib.hid hD
  have HOW := Lib.hid fun W (hW : Below w.heap.size w W) (o s : Nat) (ob : ObjD) (x : SymD) (ho : l[o]? = some ob) (hs : ob.syms[s]? = some x) => rOwn_any p pd c cd o s vf l D W (h.below EObj.keeps hW) hok (hD.below hW) ho hs
  have HFI := Lib.hid fun W (hW : Below w.heap.size w W) (name : ByteArray) => rFind_any p pd c cd vf l D name W (h.below EObj.keeps hW) hok hlc (hD.below hW)
  have hob1 := hob.1
  have hob2 := hob.2
  have hsb1 := hsb.1
  have hsb2 := hsb.2
  generalize hdn : D.length = dn at *
  generalize hln : l.length = ln at *
  have HLN := Lib.hid hln
  clear h hok hD hwa hwb ha hb sa sb hA0 hAb hRb hwb0 hr hdn hln hob hsb
  go_enter Tryz.func26, Tryz.ntmps26
  go_upto_region 1 with fail
  rw [← HWA.out, ← HWB.out]
  clear HWA HWB
  generalize hgb : w.heap.size = gb at *
  have HGB := Lib.hid hgb
  clear hgb
  obtain ⟨⟨r0, r1, r2⟩, r3, r4, r5⟩ := three_cells _ _ _ _ _ _ HRB.out
  have hstz := set_three (.int .i64 0) (.int .i64 0) (.int .i64 0) (by omega : gb ≤ gb + 1) HRB.out
  have HSTZ := Lib.hid hstz
  have hgbs : gb ≤ wb.heap.size := by have := HSB.out; omega
  clear hstz
  by_cases ho0 : o < 0
  · have hE : Hid (r = (⟨0, 0, 0⟩, 1)) := Lib.hid (by rw [HR.out]; unfold whereB; rw [if_pos (.inl ho0)])
    go_wp2_with fail
    exact where_end (x := ⟨0, 0, 0⟩) (by rfl) (by rfl) HGB.out HSTZ.out.1 (HWB0.out.trans (HSTZ.out.2.below hgbs)) hE.out
  by_cases ho1 : (ln : Int) ≤ o
  · have hE : Hid (r = (⟨0, 0, 0⟩, 1)) := Lib.hid (by rw [HR.out]; unfold whereB; rw [HLN.out, if_pos (.inr (.inl ho1))])
    go_wp2_with fail
    exact where_end (x := ⟨0, 0, 0⟩) (by rfl) (by rfl) HGB.out HSTZ.out.1 (HWB0.out.trans (HSTZ.out.2.below hgbs)) hE.out
  obtain ⟨on, hon⟩ := Int.eq_ofNat_of_zero_le (show 0 ≤ o by omega)
  subst hon
  have hol : on < ln := by omega
  obtain ⟨ob, hoo⟩ : ∃ ob, l[on]? = some ob := ⟨_, List.getElem?_eq_getElem (by rw [HLN.out]; exact hol)⟩
  have hJ : (on : Int) < (ln : Int) := by omega
  have hJ' : ¬ (ln : Int) ≤ (on : Int) := by omega
  obtain ⟨b, off, p0, p1, p2, p4, c0, c1, c2, c4, hpe, e0, e1, e2, _, _, _, hsy, _, _, _⟩ := objs_at (HH.out.below EObj.keeps (show Below w.heap.size w wb by rw [HGB.out]; exact HWB0.out)) hoo
  subst hpe
  have HOO := Lib.hid hoo
  have hyb := (HOK.out ob (List.mem_of_getElem? hoo)).few.2.1
  generalize hyn : ob.syms.length = yn at *
  have HYN := Lib.hid hyn
  clear hoo hyn ho0 ho1 e0 e2
  by_cases hs0 : s < 0
  · have hE : Hid (r = (⟨0, 0, 0⟩, 1)) := Lib.hid (by rw [HR.out]; unfold whereB; rw [if_pos (.inr (.inr hs0))])
    go_wp2_with fail
    exact where_end (x := ⟨0, 0, 0⟩) (by rfl) (by rfl) HGB.out HSTZ.out.1 (HWB0.out.trans (HSTZ.out.2.below hgbs)) hE.out
  obtain ⟨sn, hsn⟩ := Int.eq_ofNat_of_zero_le (show 0 ≤ s by omega)
  subst hsn
  have hr1 : r = match symAt2 l on sn with | some x => whereIn l D on x | none => (⟨0, 0, 0⟩, 1) := by
    rw [HR.out]
    unfold whereB
    rw [HLN.out, if_neg (by omega), Int.toNat_natCast, Int.toNat_natCast]
  have hsa2 : symAt2 l on sn = ob.syms[sn]? := by unfold symAt2; rw [HOO.out]
  rw [hsa2] at hr1
  have HR1 := Lib.hid hr1
  clear hr1 hsa2 HR
  by_cases hs1 : yn ≤ sn
  · have hE : Hid (r = (⟨0, 0, 0⟩, 1)) := Lib.hid (by rw [HR1.out, List.getElem?_eq_none (by rw [HYN.out]; exact hs1)])
    have hK : (yn : Int) ≤ (sn : Int) := by omega
    go_wp2_with fail
    exact where_end (x := ⟨0, 0, 0⟩) (by rfl) (by rfl) HGB.out HSTZ.out.1 (HWB0.out.trans (HSTZ.out.2.below hgbs)) hE.out
  have hsl : sn < yn := by omega
  obtain ⟨b1, off1, x, hpe1, hx, ⟨f0, _⟩, ⟨f1, _⟩, ⟨f2, _⟩, ⟨f3, _⟩, ⟨f4, _⟩, ⟨f5, _⟩⟩ := hsy.at_ (i := sn) (by rw [HYN.out]; exact hsl)
  subst hpe1
  have hr2 : r = whereIn l D on x := by rw [HR1.out, hx]
  have HX := Lib.hid hx
  have HR2 := Lib.hid hr2
  have hK : (sn : Int) < (yn : Int) := by omega
  have hK' : ¬ (yn : Int) ≤ (sn : Int) := by omega
  clear hx hr2 HR1 hs0 hs1 hsy r0 r1 r2 r3 r4 r5 HSTZ
  go_upto_region 6 with fail
  have hb3 : Below wb.heap.size wb (wb.alloc (.cells #[.string x.name, .int .i64 x.bind, .int .i64 x.type, .int .i64 x.sec, .int .i64 x.value, .int .i64 x.size] 98)) := (Below.refl _ wb).alloc (Nat.le_refl _) _
  obtain ⟨x0, x1, x2, x3, x4, x5⟩ := ncells6 _ _ _ _ _ _ _ _ _ (heap_alloc_new wb (.cells #[.string x.name, .int .i64 x.bind, .int .i64 x.type, .int .i64 x.sec, .int .i64 x.value, .int .i64 x.size] 98))
  have hR3 := (hb3.block (gb + 1) (by have := HSB.out; omega)).trans HRB.out
  have hA3 := (hb3.block gb (by have := HSB.out; omega)).trans HAB.out
  have hw3 := HWB0.out.trans (hb3.mono hgbs)
  have hsz3 : gb + 2 ≤ (wb.alloc (.cells #[.string x.name, .int .i64 x.bind, .int .i64 x.type, .int .i64 x.sec, .int .i64 x.value, .int .i64 x.size] 98)).heap.size := by have := hb3.size; have := HSB.out; omega
  generalize wb.alloc (.cells #[.string x.name, .int .i64 x.bind, .int .i64 x.type, .int .i64 x.sec, .int .i64 x.value, .int .i64 x.size] 98) = w3 at *
  generalize wb.heap.size = g3 at *
  have HR3 := Lib.hid hR3
  have HA3 := Lib.hid hA3
  have HW3 := Lib.hid hw3
  obtain ⟨⟨a0, a1⟩, _⟩ := pair_cells _ _ _ _ _ hA3
  clear hb3 hR3 hA3 hw3 e1 f0 f1 f2 f3 f4 f5
  cases hbd : (x.bind == 0) with
  | true =>
    have hr3 : r = ownPl D on x := by rw [HR2.out]; unfold whereIn; rw [hbd]; rfl
    obtain ⟨y, n, hyn⟩ := pl_let (ownPl D on x)
    have HOX := Lib.hid (HOW.out w3 (by first | exact HW3.out | (rw [HGB.out]; exact HW3.out)) on sn ob x HOO.out HX.out)
    unfold GivesPl at HOX
    rw [hyn] at HOX hr3
    have hE : Hid (r = (y, n)) := Lib.hid hr3
    clear hr3 hyn
    go_wp2_with fail
    refine HOX.out.mono ?_
    rintro e w4 ⟨rfl, hb4⟩
    have hR4 := (hb4.block (gb + 1) (by omega)).trans HR3.out
    have hw4 := HW3.out.trans (hb4.mono (by omega))
    have hsz4 : gb + 2 ≤ w4.heap.size := Nat.le_trans hsz3 hb4.size
    obtain ⟨⟨r0, r1, r2⟩, r3, r4, r5⟩ := three_cells _ _ _ _ _ _ hR4
    have hst := set_three (.int .i64 y.obj) (.int .i64 y.sec) (.int .i64 y.at_) (by omega : gb ≤ gb + 1) hR4
    have HST := Lib.hid hst
    have HW4 := Lib.hid hw4
    clear hst hw4 hR4 hb4
    go_wp2_with fail
    exact where_end (x := y) (by rfl) (by rfl) HGB.out HST.out.1 (HW4.out.trans (HST.out.2.below (by omega))) hE.out
  | false =>
    have hr3 : r = match findIn (allTo ObjD.syms l l.length) D x.name with
      | some d => (match symAt2 l d.obj d.sym with | some y => ownPl D d.obj y | none => (⟨0, 0, 0⟩, 1))
      | none => bif x.bind == 2 then (⟨0, 0, 0⟩, 0) else (⟨0, 0, 0⟩, 4) := by rw [HR2.out]; unfold whereIn; rw [hbd]; rfl
    have HFX := Lib.hid (HFI.out w3 (by first | exact HW3.out | (rw [HGB.out]; exact HW3.out)) x.name)
    cases hfi : findIn (allTo ObjD.syms l l.length) D x.name with
    | none =>
      have hfd : findD (allTo ObjD.syms l l.length) D x.name = noDef := by unfold findD; rw [hfi]; rfl
      have hfl : (findIn (allTo ObjD.syms l ln) D x.name) = none := by rw [← HLN.out]; exact hfi
      have hfd2 : findD (allTo ObjD.syms l ln) D x.name = noDef := by rw [← HLN.out]; exact hfd
      rw [hfl, hfd2] at HFX
      rw [hfi] at hr3
      have HR3' := Lib.hid hr3
      clear hr3 hfi hfd hfl hfd2
      simp only [Option.isSome_none] at HFX
      go_upto_region 9 with (first | (go_at_call 24; refine HFX.out.mono ?_; rintro e w4 ⟨rfl, hb4⟩) | fail)
      have hb5 : Below w3.heap.size w3 (w4.alloc (.cells #[.string noDef.name, .int .i64 (noDef.obj : Int), .int .i64 (noDef.sym : Int)] 63)) := hb4.alloc hb4.size _
      have hR4 := (hb5.block (gb + 1) (by omega)).trans HR3.out
      have hw5 := HW3.out.trans (hb5.mono (by omega))
      have x1' := cell_later hb5 x1
      have hsz5 : gb + 2 ≤ (w4.alloc (.cells #[.string noDef.name, .int .i64 (noDef.obj : Int), .int .i64 (noDef.sym : Int)] 63)).heap.size := Nat.le_trans hsz3 hb5.size
      generalize w4.alloc (.cells #[.string noDef.name, .int .i64 (noDef.obj : Int), .int .i64 (noDef.sym : Int)] 63) = w5 at *
      generalize w4.heap.size = g4 at *
      obtain ⟨⟨r0, r1, r2⟩, r3, r4, r5⟩ := three_cells _ _ _ _ _ _ hR4
      have hst := set_three (.int .i64 0) (.int .i64 0) (.int .i64 0) (by omega : gb ≤ gb + 1) hR4
      have HST := Lib.hid hst
      have HW5 := Lib.hid hw5
      clear hst hw5 hR4 hb4 hb5 x0 x1 x2 x3 x4 x5 a0 a1
      cases hb2 : (x.bind == 2) with
      | true =>
        have hE : Hid (r = (⟨0, 0, 0⟩, 0)) := Lib.hid (by rw [HR3'.out, hb2]; rfl)
        go_wp2_with fail
        exact where_end (x := ⟨0, 0, 0⟩) (by rfl) (by rfl) HGB.out HST.out.1 (HW5.out.trans (HST.out.2.below (by omega))) hE.out
      | false =>
        have hE : Hid (r = (⟨0, 0, 0⟩, 4)) := Lib.hid (by rw [HR3'.out, hb2]; rfl)
        go_wp2_with fail
        exact where_end (x := ⟨0, 0, 0⟩) (by rfl) (by rfl) HGB.out HST.out.1 (HW5.out.trans (HST.out.2.below (by omega))) hE.out
    | some d =>
      obtain ⟨ob2, y, hob2, hy2, _⟩ := findIn_sym hfi
      have hfd : findD (allTo ObjD.syms l ln) D x.name = d := by rw [← HLN.out]; unfold findD; rw [hfi]; rfl
      have hfl : (findIn (allTo ObjD.syms l ln) D x.name) = some d := by rw [← HLN.out]; exact hfi
      rw [hfl, hfd] at HFX
      have hsy2 : symAt2 l d.obj d.sym = some y := by unfold symAt2; rw [hob2]; exact hy2
      rw [hfi] at hr3
      simp only [hsy2] at hr3
      obtain ⟨z, n, hzn⟩ := pl_let (ownPl D d.obj y)
      have HOX := Lib.hid fun W hW => HOW.out W hW d.obj d.sym ob2 y hob2 hy2
      unfold GivesPl at HOX
      rw [hzn] at HOX hr3
      have hE : Hid (r = (z, n)) := Lib.hid hr3
      clear hr3 hfi hfd hfl hsy2 hob2 hy2 hzn
      simp only [Option.isSome_some] at HFX
      go_upto_region 9 with (first | (go_at_call 24; refine HFX.out.mono ?_; rintro e w4 ⟨rfl, hb4⟩) | fail)
      have hb5 : Below w3.heap.size w3 (w4.alloc (.cells #[.string d.name, .int .i64 (d.obj : Int), .int .i64 (d.sym : Int)] 63)) := hb4.alloc hb4.size _
      obtain ⟨⟨d0, d1, d2⟩, _⟩ := three_cells _ _ _ _ _ _ (heap_alloc_new w4 (.cells #[.string d.name, .int .i64 (d.obj : Int), .int .i64 (d.sym : Int)] 63))
      have hR4 := (hb5.block (gb + 1) (by omega)).trans HR3.out
      have hw5 := HW3.out.trans (hb5.mono (by omega))
      have a0' := cell_later hb5 a0
      have a1' := cell_later hb5 a1
      have hsz5 : gb + 2 ≤ (w4.alloc (.cells #[.string d.name, .int .i64 (d.obj : Int), .int .i64 (d.sym : Int)] 63)).heap.size := Nat.le_trans hsz3 hb5.size
      generalize w4.alloc (.cells #[.string d.name, .int .i64 (d.obj : Int), .int .i64 (d.sym : Int)] 63) = w5 at *
      generalize w4.heap.size = g4 at *
      have HOX5 := Lib.hid (HOX.out w5 (by first | exact hw5 | (rw [HGB.out]; exact hw5)))
      have HW5 := Lib.hid hw5
      have HR4 := Lib.hid hR4
      clear hw5 hR4 hb4 hb5 x0 x1 x2 x3 x4 x5 a0 a1
      go_wp2_with fail
      refine HOX5.out.mono ?_
      rintro e w6 ⟨rfl, hb6⟩
      have hR6 := (hb6.block (gb + 1) (by omega)).trans HR4.out
      have hw6 := HW5.out.trans (hb6.mono (by omega))
      have hsz6 : gb + 2 ≤ w6.heap.size := Nat.le_trans hsz5 hb6.size
      obtain ⟨⟨r0, r1, r2⟩, r3, r4, r5⟩ := three_cells _ _ _ _ _ _ hR6
      have hst := set_three (.int .i64 z.obj) (.int .i64 z.sec) (.int .i64 z.at_) (by omega : gb ≤ gb + 1) hR6
      have HST := Lib.hid hst
      have HW6 := Lib.hid hw6
      clear hst hw6 hR6 hb6 d0 d1 d2 a0' a1'
      go_wp2_with fail
      exact where_end (x := z) (by rfl) (by rfl) HGB.out HST.out.1 (HW6.out.trans (HST.out.2.below (by omega))) hE.out
end Go.Proofs.YthnkehdcolnegaaGreat

namespace Go.Proofs.YthnkehdcolnegaaGreat
open Go.RowKit

theorem results_ndef {fn : Func} {p u : Tmp} (h : fn.results = #[.cell p 60, .tmp u]) (tmps : Array Value) (w : World) (g : Nat) (v0 v1 v2 b : Value) (hp : tmps.getD p undef = .pointer (some ⟨g, 0, none⟩)) (hu : tmps.getD u undef = b)
    (hg : w.heap[g]? = some (.cells #[v0, v1, v2] 60 (0, 0))) : (results fn tmps).run Tryz.prog w = .ok (.tuple #[.agg #[v0, v1, v2], b]) w := by
  obtain ⟨⟨r0, r1, r2⟩, _⟩ := three_cells _ _ _ _ _ _ hg
  rw [results_cell_tmp h, hp, hu]
  go_simp
theorem nfind_end {tmps : Array Value} {W w : World} {B : Nat} {r : Option DefD} {x : DefD} {q : Bool} (h4 : tmps.getD 4 undef = .pointer (some ⟨B + 1, 0, none⟩)) (h5 : tmps.getD 5 undef = .bool q) (hB : w.heap.size = B)
    (hR : W.heap[B + 1]? = some (.cells (defCs x) 60 (0, 0))) (hb : Below B w W) (he : r.getD noDef = x ∧ r.isSome = q) : bodyPost Tryz.prog Tryz.f23 (fun e w' => e = .returned (.tuple #[.agg (defCs (r.getD noDef)), .bool r.isSome]) ∧ Below w.heap.size w w') Exit.ret ⟨tmps, []⟩ W := by
  subst hB
  obtain ⟨rfl, rfl⟩ := he
  exact bodyPost_ret (results_ndef rfl _ _ _ _ _ _ _ h4 h5 hR) rfl ⟨rfl, hb⟩
set_option maxRecDepth 100000 in
set_option maxHeartbeats 2000000 in
theorem nfind_any (p : Option Addr) (n c : Nat) (vD : Value) (l : List DefD) (name : ByteArray) (w : World) (h : HasL 3 EDef w p l) (hn : l.length = n) (hnb : n ≤ 100000) (hs : DSorted l) :
    Calls Tryz.prog 23 #[.agg #[vD, .slice p n c], .string name] w fun e w' => e = .returned (.tuple #[.agg (defCs ((findL l name).getD noDef)), .bool (findL l name).isSome]) ∧ Below w.heap.size w w' := by
  obtain ⟨wa, hwa⟩ : ∃ wa, wa = w.alloc (.cells #[vD, .slice p n c] 49) := ⟨_, rfl⟩
  obtain ⟨wb, hwb⟩ : ∃ wb, wb = wa.alloc (.cells #[.string ⟨#[]⟩, .int .i64 0, .int .i64 0] 60) := ⟨_, rfl⟩
  have ha : Below w.heap.size w wa := by rw [hwa]; exact (Below.refl _ w).alloc (Nat.le_refl _) _
  have hb : Below wa.heap.size wa wb := by rw [hwb]; exact (Below.refl _ wa).alloc (Nat.le_refl _) _
  have sa : wa.heap.size = w.heap.size + 1 := by rw [hwa]; simp
  have sb : wb.heap.size = w.heap.size + 2 := by rw [hwb]; simp [sa]
  have hA0 : wa.heap[w.heap.size]? = some (.cells #[vD, .slice p n c] 49 (0, 0)) := by rw [hwa]; exact heap_alloc_new w _
  have hAb := (hb.block _ (by omega)).trans hA0
  have hRb : wb.heap[wa.heap.size]? = some (.cells #[.string ⟨#[]⟩, .int .i64 0, .int .i64 0] 60 (0, 0)) := by rw [hwb]; exact heap_alloc_new wa _
  rw [sa] at hRb
  have hwb0 : Below w.heap.size w wb := ha.trans (hb.mono ha.size)
  have HBS := Lib.hid (bsearch_any p n c l name wb (h.below EDef.keeps hwb0) hn hnb hs)
  have HFL := Lib.hid (findL_at (name := name) hs)
  have HH := Lib.hid h
  have HN := Lib.hid hn
  have hkn : cntLt l name ≤ n := by rw [← hn]; exact List.countP_le_length
  obtain ⟨fs, hfs⟩ : ∃ fs, fs = findL l name := ⟨_, rfl⟩
  rw [← hfs] at HFL HBS ⊢
  generalize cntLt l name = k at *
  have HWA := Lib.hid hwa
  have HWB := Lib.hid hwb
  have HAB := Lib.hid hAb
  have HRB := Lib.hid hRb
  have HWB0 := Lib.hid hwb0
  have HSB := Lib.hid sb
  clear h hn hs hwa hwb ha hb sa sb hA0 hAb hRb hwb0 hfs
  go_enter Tryz.func23, Tryz.ntmps23
  go_upto_region 1 with fail
  rw [← HWA.out, ← HWB.out]
  clear HWA HWB
  generalize hgb : w.heap.size = gb at *
  have HGB := Lib.hid hgb
  clear hgb
  obtain ⟨⟨a0, a1⟩, _⟩ := pair_cells _ _ _ _ _ HAB.out
  go_upto_region 2 with (first | (go_at_call 60; refine HBS.out.mono ?_; rintro e w2 ⟨rfl, hb2⟩) | fail)
  have hR2 := (hb2.block (gb + 1) (by have := HSB.out; omega)).trans HRB.out
  have hA2 := (hb2.block gb (by have := HSB.out; omega)).trans HAB.out
  have hw2 := HWB0.out.trans (hb2.mono (by have := HSB.out; omega))
  have hsz2 : gb + 2 ≤ w2.heap.size := by have := hb2.size; have := HSB.out; omega
  have HR2 := Lib.hid hR2
  have HW2 := Lib.hid hw2
  obtain ⟨⟨r0, r1, r2⟩, r3, r4, r5⟩ := three_cells _ _ _ _ _ _ hR2
  clear a0 a1 hb2
  obtain ⟨⟨a0, a1⟩, _⟩ := pair_cells _ _ _ _ _ hA2
  clear hR2 hA2 hw2 HBS
  cases fs with
  | none =>
    have hst := set_three (.string ⟨#[]⟩) (.int .i64 0) (.int .i64 0) (by omega : gb ≤ gb + 1) HR2.out
    have HST := Lib.hid hst
    clear hst
    go_wp2_with fail
    exact nfind_end (r := none) (x := noDef) (by rfl) (by rfl) HGB.out HST.out.1 (HW2.out.trans (HST.out.2.below (by omega))) ⟨rfl, rfl⟩
  | some d =>
    have hkd : l[k]? = some d := by
      have h1 := HFL.out
      cases hq : l[k]? with
      | none => rw [hq] at h1; cases h1
      | some e =>
        rw [hq] at h1
        simp only at h1
        cases he : sEq e.name name with
        | false => rw [he] at h1; cases h1
        | true => rw [he] at h1; cases h1; rfl
    have hkl : k < n := by rw [← HN.out]; exact (List.getElem?_eq_some_iff.1 hkd).1
    obtain ⟨b, off, d', hpe, hd', f0, f1, f2⟩ := (HH.out.below EDef.keeps (show Below w.heap.size w w2 by rw [HGB.out]; exact HW2.out)).at_ (i := k) (by rw [HN.out]; exact hkl)
    subst hpe
    obtain rfl : d' = d := by rw [hkd] at hd'; cases hd'; rfl
    have hK : (k : Int) < (n : Int) := by omega
    have hK0 : (0 : Int) ≤ (k : Int) := by omega
    have hst := set_three (.string d'.name) (.int .i64 (d'.obj : Int)) (.int .i64 (d'.sym : Int)) (by omega : gb ≤ gb + 1) HR2.out
    have HST := Lib.hid hst
    clear hst hkd hd'
    go_wp2_with fail
    exact nfind_end (r := some d') (x := d') (by rfl) (by rfl) HGB.out HST.out.1 (HW2.out.trans (HST.out.2.below (by omega))) ⟨rfl, rfl⟩
end Go.Proofs.YthnkehdcolnegaaGreat

namespace Go.Proofs.YthnkehdcolnegaaGreat
open Go.RowKit

def defdB (defs : List DefD) (x : Sy) : Bool := x.2.2.bind != 1 || (findL defs x.2.2.name).isSome
theorem all_snoc {α : Type} {f : ObjD → List α} {l : List ObjD} {i k : Nat} {o : ObjD} {x : α} (q : Nat × Nat × α → Bool) (ho : l[i]? = some o) (hx : (f o)[k]? = some x) : (atTo f l i (k + 1)).all q = ((atTo f l i k).all q && q (i, k, x)) := by
  rw [atTo_step ho hx, List.all_append]
  simp
theorem all_out {α : Type} {f : ObjD → List α} {l : List ObjD} {i k : Nat} {o : ObjD} {x : α} {q : Nat × Nat × α → Bool} (ho : l[i]? = some o) (hx : (f o)[k]? = some x) (hq : q (i, k, x) = false) : (allTo f l l.length).all q = false := by
  rw [List.all_eq_false]
  exact ⟨(i, k, x), allTo_mem.2 ⟨(List.getElem?_eq_some_iff.1 ho).1, o, ho, hx⟩, by rw [hq]; simp⟩
set_option maxRecDepth 100000 in
set_option maxHeartbeats 4000000 in
theorem allDefined_any (p pf : Option Addr) (c nf cf : Nat) (vD : Value) (l : List ObjD) (defs : List DefD) (w : World) (h : HasL 5 EObj w p l) (hok : ∀ o ∈ l, OkD o) (hlc : l.length ≤ 1000)
    (hf : HasL 3 EDef w pf defs) (hfn : defs.length = nf) (hfb : nf ≤ 100000) (hfs : DSorted defs) :
    Calls Tryz.prog 55 #[.slice p l.length c, .agg #[vD, .slice pf nf cf]] w fun e w' => e = .returned (.bool ((allTo ObjD.syms l l.length).all (defdB defs))) ∧ Below w.heap.size w w' := by
  obtain ⟨wa, hwa⟩ : ∃ wa, wa = w.alloc (.cells #[vD, .slice pf nf cf] 49) := ⟨_, rfl⟩
  have ha : Below w.heap.size w wa := by rw [hwa]; exact (Below.refl _ w).alloc (Nat.le_refl _) _
  have sa : wa.heap.size = w.heap.size + 1 := by rw [hwa]; simp
  have hA0 : wa.heap[w.heap.size]? = some (.cells #[vD, .slice pf nf cf] 49 (0, 0)) := by rw [hwa]; exact heap_alloc_new w _
  obtain ⟨r, hr⟩ : ∃ r, r = (allTo ObjD.syms l l.length).all (defdB defs) := ⟨_, rfl⟩
  rw [← hr]
  have HR := Lib.hid hr
  have HWA := Lib.hid hwa
  have HA0 := Lib.hid hA0
  have HA := Lib.hid ha
  have HSA := Lib.hid sa
  have HH := Lib.hid h
  have HOK := Lib.hid hok
  have HFI := Lib.hid fun W (hW : Below w.heap.size w W) (name : ByteArray) => nfind_any pf nf cf vD defs name W (hf.below EDef.keeps hW) hfn hfb hfs
  have HOUT := Lib.hid fun (i k : Nat) (o : ObjD) (x : SymD) (ho : l[i]? = some o) (hx : o.syms[k]? = some x) hq => all_out (f := ObjD.syms) (q := defdB defs) ho hx hq
  generalize hln : l.length = ln at *
  have HLN := Lib.hid hln
  clear h hok hwa ha sa hA0 hr hf hfn hfs hln
  go_enter Tryz.func55, Tryz.ntmps55
  go_upto_region 1 with fail
  rw [← HWA.out]
  clear HWA
  generalize hgb : w.heap.size = gb at *
  have HGB := Lib.hid hgb
  clear hgb
  go_wp2_with fail
  go_loopw [13] (fun r13 wr => ∃ i : Nat, i ≤ ln ∧ r13 = .int .i64 (i : Int) ∧ (allTo ObjD.syms l i).all (defdB defs) = true ∧ Below (gb + 1) wa wr) (fun r13 _ => ln - (intOf r13).toNat)
  case atStart => exact ⟨0, Nat.zero_le _, rfl, rfl, by rw [← HSA.out]; exact Below.refl _ _⟩
  case round =>
    obtain ⟨i, hi, rfl, hall, hbr⟩ := hrel
    have HALL := Lib.hid hall
    have hbw : Below gb w wr := HA.out.trans (hbr.mono (by omega))
    clear hall
    by_cases hlt : i < ln
    · obtain ⟨o, ho⟩ : ∃ o, l[i]? = some o := ⟨_, List.getElem?_eq_getElem (by rw [HLN.out]; exact hlt)⟩
      obtain ⟨b, off, p0, p1, p2, p4, c0, c1, c2, c4, hpe, e0, e1, e2, e3, e4, _, hsy0, _⟩ := objs_at (HH.out.below EObj.keeps (show Below w.heap.size w wr by rw [HGB.out]; exact hbw)) ho
      subst hpe
      have HO := Lib.hid ho
      have hyl := (HOK.out o (List.mem_of_getElem? ho)).few.2.1
      have hI : (i : Int) < (ln : Int) := by omega
      have hI0 : (0 : Int) ≤ (i : Int) := by omega
      have hI1 : ¬ (ln : Int) ≤ (i : Int) := by omega
      have hst0 : Hid ((atTo ObjD.syms l i 0).all (defdB defs) = true) := Lib.hid (by rw [atTo_zero]; exact HALL.out)
      clear ho
      have hbo : Below wr.heap.size wr (wr.alloc (.cells #[.slice p0 o.secs.length c0, .slice p1 o.syms.length c1, .slice p2 o.groups.length c2, .bool o.hasSig, .slice p4 o.sig.length c4] 27)) := (Below.refl _ wr).alloc (Nat.le_refl _) _
      go_upto_region 4 with fail
      obtain ⟨⟨u0, u1, u2, u3, u4'⟩, _⟩ := cells5 _ _ _ _ _ _ _ _ (heap_alloc_new wr (.cells #[.slice p0 o.secs.length c0, .slice p1 o.syms.length c1, .slice p2 o.groups.length c2, .bool o.hasSig, .slice p4 o.sig.length c4] 27))
      have hbr2 : Below (gb + 1) wa (wr.alloc (.cells #[.slice p0 o.secs.length c0, .slice p1 o.syms.length c1, .slice p2 o.groups.length c2, .bool o.hasSig, .slice p4 o.sig.length c4] 27)) := hbr.trans (hbo.mono (by have := hbr.size; have := HSA.out; omega))
      have hsy := hsy0.below ESym.keeps hbo
      generalize wr.alloc (.cells #[.slice p0 o.secs.length c0, .slice p1 o.syms.length c1, .slice p2 o.groups.length c2, .bool o.hasSig, .slice p4 o.sig.length c4] 27) = wo at *
      generalize hyn : o.syms.length = yn at *
      have HYN := Lib.hid hyn
      have HSY := Lib.hid hsy
      have HBR2 := Lib.hid hbr2
      generalize wr.heap.size = gob at *
      clear hsy0 hbo hyn hsy hbr2 e0 e1 e2 e3 e4 u0 u2 u3 u4' hbr hbw HALL
      go_wp2_with fail
      go_loopw [20] (fun r20 wr => ∃ k : Nat, k ≤ yn ∧ r20 = .int .i64 (k : Int) ∧ (atTo ObjD.syms l i k).all (defdB defs) = true ∧ Below wo.heap.size wo wr) (fun r20 _ => yn - (intOf r20).toNat)
      case atStart => exact ⟨0, Nat.zero_le _, rfl, hst0.out, Below.refl _ _⟩
      case round =>
        obtain ⟨k, hk, rfl, hall, hbi⟩ := hrel
        have HALL := Lib.hid hall
        have HBI := Lib.hid hbi
        have hbw : Below gb w wr := HA.out.trans ((HBR2.out.trans (hbi.mono (by have := HBR2.out.size; have := HSA.out; omega))).mono (by omega))
        have HBW := Lib.hid hbw
        clear hall hbw
        by_cases hlt2 : k < yn
        · obtain ⟨b1, off1, x, hpe1, hx1, ⟨f0, _⟩, ⟨f1, _⟩, ⟨f2, _⟩, ⟨f3, _⟩, ⟨f4, _⟩, ⟨f5, _⟩⟩ := (HSY.out.below ESym.keeps hbi).at_ (i := k) (by rw [HYN.out]; exact hlt2)
          subst hpe1
          have hK : (k : Int) < (yn : Int) := by omega
          have hK0 : (0 : Int) ≤ (k : Int) := by omega
          have hK1 : ¬ (yn : Int) ≤ (k : Int) := by omega
          have HX := Lib.hid hx1
          have hstep := all_snoc (f := ObjD.syms) (defdB defs) HO.out HX.out
          rw [HALL.out, Bool.true_and] at hstep
          have HSTEP := Lib.hid hstep
          clear hx1 hbi hstep
          go_upto_region 7 with fail
          have hb7 : Below wr.heap.size wr (wr.alloc (.cells #[.string x.name, .int .i64 x.bind, .int .i64 x.type, .int .i64 x.sec, .int .i64 x.value, .int .i64 x.size] 98)) := (Below.refl _ wr).alloc (Nat.le_refl _) _
          obtain ⟨x0, x1, x2, x3, x4, x5⟩ := ncells6 _ _ _ _ _ _ _ _ _ (heap_alloc_new wr (.cells #[.string x.name, .int .i64 x.bind, .int .i64 x.type, .int .i64 x.sec, .int .i64 x.value, .int .i64 x.size] 98))
          have hbi7 := HBI.out.trans (hb7.mono HBI.out.size)
          have hbw7 := HBW.out.trans (hb7.mono (by first | exact HBW.out.size | (rw [← HGB.out]; exact HBW.out.size) | (have := HBW.out.size; have := HGB.out; omega)))
          generalize wr.alloc (.cells #[.string x.name, .int .i64 x.bind, .int .i64 x.type, .int .i64 x.sec, .int .i64 x.value, .int .i64 x.size] 98) = w7 at *
          generalize wr.heap.size = g7 at *
          have HBI7 := Lib.hid hbi7
          have HBW7 := Lib.hid hbw7
          clear hb7 hbi7 hbw7 f0 f1 f2 f3 f4 f5 x2 x3 x4 x5
          obtain ⟨q, hq⟩ : ∃ q, q = (x.bind != 1) := ⟨_, rfl⟩
          have hq' : (x.bind != 1) = q := hq.symm
          have hd : defdB defs (i, k, x) = (q || (findL defs x.name).isSome) := by rw [hq]; rfl
          rw [hd] at HSTEP
          have HOUT2 := Lib.hid fun (hh : defdB defs (i, k, x) = false) => HOUT.out i k o x HO.out HX.out hh
          rw [hd] at HOUT2
          clear hq hd
          cases q with
          | true =>
            have hE : Hid ((atTo ObjD.syms l i (k + 1)).all (defdB defs) = true) := Lib.hid (by rw [HSTEP.out]; rfl)
            have hE2 := HBI7
            go_wp2_with fail
            go_roundw
            case rel => exact ⟨k + 1, hlt2, by go_num, hE.out, HBI7.out⟩
            case measure => simp [intOf]; omega
          | false =>
            have HFX := Lib.hid (HFI.out w7 (by first | exact HBW7.out | (rw [HGB.out]; exact HBW7.out)) x.name)
            have hA7 := ((HBR2.out.trans (HBI7.out.mono (by have := HBR2.out.size; have := HSA.out; omega))).block gb (by omega)).trans HA0.out
            obtain ⟨⟨a0, a1⟩, _⟩ := pair_cells _ _ _ _ _ hA7
            obtain ⟨fs, hfs⟩ : ∃ fs, fs = (findL defs x.name).isSome := ⟨_, rfl⟩
            obtain ⟨d, hdd⟩ : ∃ d, d = (findL defs x.name).getD noDef := ⟨_, rfl⟩
            rw [← hfs, ← hdd] at HFX
            rw [← hfs] at HSTEP HOUT2
            clear hfs hdd hA7
            go_upto_region 9 with (first | (go_at_call 23; refine HFX.out.mono ?_; rintro e w8 ⟨rfl, hb8⟩) | fail)
            have hb9 : Below w7.heap.size w7 (w8.alloc (.cells #[.string d.name, .int .i64 (d.obj : Int), .int .i64 (d.sym : Int)] 60)) := hb8.alloc hb8.size _
            have hbi9 := HBI7.out.trans (hb9.mono HBI7.out.size)
            have hbw9 := HBW7.out.trans (hb9.mono (by first | exact HBW7.out.size | (rw [← HGB.out]; exact HBW7.out.size) | (have := HBW7.out.size; have := HGB.out; omega)))
            generalize w8.alloc (.cells #[.string d.name, .int .i64 (d.obj : Int), .int .i64 (d.sym : Int)] 60) = w9 at *
            generalize w8.heap.size = g8 at *
            have HBI9 := Lib.hid hbi9
            have HBW9 := Lib.hid hbw9
            clear hb8 hb9 hbi9 hbw9 a0 a1 x0 x1
            cases fs with
            | true =>
              have hE : Hid ((atTo ObjD.syms l i (k + 1)).all (defdB defs) = true) := Lib.hid (by rw [HSTEP.out]; rfl)
              go_wp2_with fail
              go_roundw
              case rel => exact ⟨k + 1, hlt2, by go_num, hE.out, HBI9.out⟩
              case measure => simp [intOf]; omega
            | false =>
              have hE : Hid (r = false) := Lib.hid (by rw [HR.out]; exact HOUT2.out rfl)
              go_wp2_with fail
              go_ret
              rw [hE.out]
              exact ⟨rfl, by first | exact HBW9.out | (rw [HGB.out]; exact HBW9.out)⟩
        · obtain rfl : k = yn := by omega
          have hK : ¬ (k : Int) < (k : Int) := by omega
          have hE : (allTo ObjD.syms l (i + 1)).all (defdB defs) = true := by rw [← atTo_end (k := k) HO.out (by rw [HYN.out]; exact Nat.le_refl _)]; exact HALL.out
          go_wp2_with fail
          go_roundw
          case rel => exact ⟨i + 1, hlt, by go_num, hE, HBR2.out.trans (HBI.out.mono (by have := HBR2.out.size; have := HSA.out; omega))⟩
          case measure => simp [intOf]; omega
    · obtain rfl : i = ln := by omega
      have hI : ¬ (i : Int) < (i : Int) := by omega
      have hE : Hid (r = true) := Lib.hid (by rw [HR.out]; exact HALL.out)
      go_wp2_with fail
      go_ret
      rw [hE.out]
      exact ⟨rfl, by rw [HGB.out]; exact hbw⟩
end Go.Proofs.YthnkehdcolnegaaGreat
