/-
  Contract of names.Where.
  Contract of names.Resolve, over one of the library's maps.Values and slices.SortedFunc, and one of may.
-/
import Derived.Test.YthnkehdcolnegaaGreatNR08
import Derived.Test.YthnkehdcolnegaaGreatNR09
namespace Go.Proofs.YthnkehdcolnegaaGreat
open Go.RowKit

def errV (n : Int) : Value := if n = 0 then .nilIface else .iface 36 (.int .i64 n)
theorem results_nwh {fn : Func} {p u : Tmp} (h : fn.results = #[.cell p 67, .tmp u]) (tmps : Array Value) (w : World) (g : Nat) (v0 v1 v2 b : Value) (hp : tmps.getD p undef = .pointer (some ⟨g, 0, none⟩)) (hu : tmps.getD u undef = b)
    (hg : w.heap[g]? = some (.cells #[v0, v1, v2] 67 (0, 0))) : (results fn tmps).run Tryz.prog w = .ok (.tuple #[.agg #[v0, v1, v2], b]) w := by
  obtain ⟨⟨r0, r1, r2⟩, _⟩ := three_cells _ _ _ _ _ _ hg
  rw [results_cell_tmp h, hp, hu]
  go_simp
def GivesNPl (r : PlaceD × Int) (w : World) (e : Ending) (w' : World) : Prop := e = .returned (.tuple #[.agg (plCs r.1), errV r.2]) ∧ Below w.heap.size w w'
theorem nwhere_end {tmps : Array Value} {W w : World} {B : Nat} {r : PlaceD × Int} {x : PlaceD} {n : Int} {v : Value} (h8 : tmps.getD 8 undef = .pointer (some ⟨B + 1, 0, none⟩)) (h9 : tmps.getD 9 undef = v) (hB : w.heap.size = B)
    (hR : W.heap[B + 1]? = some (.cells (plCs x) 67 (0, 0))) (hb : Below B w W) (he : r = (x, n)) (hv : v = errV n) : bodyPost Tryz.prog Tryz.f25 (GivesNPl r w) Exit.ret ⟨tmps, []⟩ W := by
  subst hB
  subst he
  subst hv
  exact bodyPost_ret (results_nwh rfl _ _ _ _ _ _ _ h8 h9 hR) rfl ⟨rfl, hb⟩
theorem place_own {D : List (List Bool)} {o : Nat} {y : SymD} (h : definesB y (drAt D o) = true) : ownPl D o y = (placeB y (o : Int), 0) := by
  unfold definesB at h
  cases h0 : (y.bind == 0 || y.sec == 0) with
  | true => rw [h0] at h; cases h
  | false =>
    rw [h0] at h
    rw [Bool.or_eq_false_iff] at h0
    have hs0 : ¬ y.sec = 0 := by simpa using h0.2
    unfold ownPl placeB
    by_cases hs : y.sec < 1
    · rw [decide_eq_true hs, if_pos (by omega)]
      rfl
    · rw [decide_eq_false hs, if_neg (by omega)]
      have h1 : (y.sec == -1) = false := by simp; omega
      rw [cond_false, h1, Bool.false_or] at h
      have h2 : (drAt D o)[(y.sec - 1).toNat]?.getD false = false := by simpa using h
      rw [h2]
      rfl
theorem place_loc {D : List (List Bool)} {o : Nat} {y : SymD} : ownPl D o y = bif droppedB D o y.sec then (⟨0, 0, 0⟩, 4) else (placeB y (o : Int), 0) := by
  unfold ownPl placeB droppedB
  by_cases hs : y.sec < 1
  · rw [decide_eq_true hs, if_pos (by omega), decide_eq_false (by omega)]
    rfl
  · rw [decide_eq_false hs, if_neg (by omega), decide_eq_true (by omega), Bool.true_and]
    cases (drAt D o)[(y.sec - 1).toNat]?.getD false <;> rfl
theorem isSym_yes {l : List ObjD} {d : DefD} {ob : ObjD} {y : SymD} (h1 : l[d.obj]? = some ob) (h2 : ob.syms[d.sym]? = some y) : isSymB l (d.obj : Int) (d.sym : Int) = true := by
  have := (List.getElem?_eq_some_iff.1 h1).1
  unfold isSymB symAt2
  rw [if_neg (by omega), Int.toNat_natCast, Int.toNat_natCast, h1]
  simp only
  rw [h2]
  rfl
set_option maxRecDepth 100000 in
set_option maxHeartbeats 8000000 in
theorem nWhere_any (p pd pf : Option Addr) (c cd nf cf : Nat) (o s : Int) (l : List ObjD) (D : List (List Bool)) (defs : List DefD) (w : World) (h : HasL 5 EObj w p l) (hok : ∀ o ∈ l, OkD o) (hD : DropOK w pd l D)
    (hf : HasL 3 EDef w pf defs) (hfn : defs.length = nf) (hfb : nf ≤ 100000) (hfs : DSorted defs) (htab : ∀ name, findL defs name = findIn (allTo ObjD.syms l l.length) D name) (hob : i64bd o) (hsb : i64bd s) :
    Calls Tryz.prog 25 #[.slice p l.length c, .agg #[.slice pd D.length cd, .slice pf nf cf], .int .i64 o, .int .i64 s] w (GivesNPl (whereB l D o s) w) := by
  obtain ⟨wa, hwa⟩ : ∃ wa, wa = w.alloc (.cells #[.slice pd D.length cd, .slice pf nf cf] 49) := ⟨_, rfl⟩
  obtain ⟨wb, hwb⟩ : ∃ wb, wb = wa.alloc (.cells #[.int .i64 0, .int .i64 0, .int .i64 0] 67) := ⟨_, rfl⟩
  have ha : Below w.heap.size w wa := by rw [hwa]; exact (Below.refl _ w).alloc (Nat.le_refl _) _
  have hb : Below wa.heap.size wa wb := by rw [hwb]; exact (Below.refl _ wa).alloc (Nat.le_refl _) _
  have sa : wa.heap.size = w.heap.size + 1 := by rw [hwa]; simp
  have sb : wb.heap.size = w.heap.size + 2 := by rw [hwb]; simp [sa]
  have hA0 : wa.heap[w.heap.size]? = some (.cells #[.slice pd D.length cd, .slice pf nf cf] 49 (0, 0)) := by rw [hwa]; exact heap_alloc_new w _
  have hAb := (hb.block _ (by omega)).trans hA0
  have hRb : wb.heap[wa.heap.size]? = some (.cells #[.int .i64 0, .int .i64 0, .int .i64 0] 67 (0, 0)) := by rw [hwb]; exact heap_alloc_new wa _
  rw [sa] at hRb
  have hwb0 : Below w.heap.size w wb := ha.trans (hb.mono ha.size)
  obtain ⟨r, hr⟩ : ∃ r, r = whereB l D o s := ⟨_, rfl⟩
  rw [← hr]
  have hE0 : isSymB l o s = false → r = (⟨0, 0, 0⟩, 1) := fun hh => by
    rw [hr]
    unfold isSymB at hh
    unfold whereB
    by_cases hc : o < 0 ∨ (l.length : Int) ≤ o ∨ s < 0
    · rw [if_pos hc]
    · rw [if_neg hc] at hh ⊢
      cases hq : symAt2 l o.toNat s.toNat with
      | none => rfl
      | some x => rw [hq] at hh; cases hh
  have hE1 : isSymB l o s = true → ∃ (on sn : Nat) (ob : ObjD) (x : SymD), o = (on : Int) ∧ s = (sn : Int) ∧ l[on]? = some ob ∧ ob.syms[sn]? = some x ∧ r = whereIn l D on x := fun hh => by
    unfold isSymB at hh
    by_cases hc : o < 0 ∨ (l.length : Int) ≤ o ∨ s < 0
    · rw [if_pos hc] at hh; cases hh
    · rw [if_neg hc] at hh
      obtain ⟨on, hon⟩ := Int.eq_ofNat_of_zero_le (show 0 ≤ o by omega)
      obtain ⟨sn, hsn⟩ := Int.eq_ofNat_of_zero_le (show 0 ≤ s by omega)
      subst hon hsn
      cases hq : symAt2 l on sn with
      | none => rw [Int.toNat_natCast, Int.toNat_natCast, hq] at hh; cases hh
      | some x =>
        have hq' := hq
        unfold symAt2 at hq
        cases ho : l[on]? with
        | none => rw [ho] at hq; cases hq
        | some ob =>
          rw [ho] at hq
          refine ⟨on, sn, ob, x, rfl, rfl, ho, hq, ?_⟩
          rw [hr]
          unfold whereB
          rw [if_neg hc, Int.toNat_natCast, Int.toNat_natCast, hq']
  have HE0 := Lib.hid hE0
  have HE1 := Lib.hid hE1
  have HWA := Lib.hid hwa
  have HWB := Lib.hid hwb
  have HAB := Lib.hid hAb
  have HRB := Lib.hid hRb
  have HWB0 := Lib.hid hwb0
  have HSB := Lib.hid sb
  have HH := Lib.hid h
  have HOK := Lib.hid hok
  have HDK := Lib.hid hD
  have HTAB := Lib.hid htab
  have HIS := Lib.hid fun W (hW : Below w.heap.size w W) (o s : Int) => isSym_any p c o s l W (h.below EObj.keeps hW)
  have HFI := Lib.hid fun W (hW : Below w.heap.size w W) (name : ByteArray) => nfind_any pf nf cf (.slice pd D.length cd) defs name W (hf.below EDef.keeps hW) hfn hfb hfs
  have HPL := Lib.hid fun W (x : SymD) (o : Int) => nplace_any x o W
  have HDR := Lib.hid fun W (hW : Below w.heap.size w W) (o : Nat) (sec : Int) (h1 : (drAt D o).length ≤ 1000) (h2 : o < D.length) h3 => isDropped_any pd cd o sec (.slice pf nf cf) D W (hD.below hW).has h1 h2 h3
  have HDL := Lib.hid hD.len
  generalize hdn : D.length = dn at *
  generalize hln : l.length = ln at *
  have HLN := Lib.hid hln
  clear h hok hD hwa hwb ha hb sa sb hA0 hAb hRb hwb0 hr hdn hln hob hsb hf hfn hfs htab hE0 hE1
  go_enter Tryz.func25, Tryz.ntmps25
  go_upto_region 1 with fail
  rw [← HWA.out, ← HWB.out]
  clear HWA HWB
  generalize hgb : w.heap.size = gb at *
  have HGB := Lib.hid hgb
  clear hgb
  have his := HIS.out wb (by first | exact HWB0.out | (rw [HGB.out]; exact HWB0.out)) o s
  obtain ⟨q, hq⟩ : ∃ q, q = isSymB l o s := ⟨_, rfl⟩
  rw [← hq] at his HE0 HE1
  have HISX := Lib.hid his
  clear his hq
  cases q with
  | false =>
    have hE : Hid (r = (⟨0, 0, 0⟩, 1)) := Lib.hid (HE0.out rfl)
    go_upto_region 2 with (first | (go_at_call 63; refine HISX.out.mono ?_; rintro e w2 ⟨rfl, hb2⟩) | fail)
    have hR2 := (hb2.block (gb + 1) (by have := HSB.out; omega)).trans HRB.out
    have hw2 := HWB0.out.trans (hb2.mono (by have := HSB.out; omega))
    have hsz2 : gb ≤ w2.heap.size := by have := hb2.size; have := HSB.out; omega
    obtain ⟨⟨r0, r1, r2⟩, r3, r4, r5⟩ := three_cells _ _ _ _ _ _ hR2
    have hst := set_three (.int .i64 0) (.int .i64 0) (.int .i64 0) (by omega : gb ≤ gb + 1) hR2
    have HST := Lib.hid hst
    have HW2 := Lib.hid hw2
    clear hst hR2 hw2 hb2
    go_wp2_with fail
    exact nwhere_end (x := ⟨0, 0, 0⟩) (n := 1) (by rfl) (by rfl) HGB.out HST.out.1 (HW2.out.trans (HST.out.2.below hsz2)) hE.out rfl
  | true =>
    obtain ⟨on, sn, ob, x, ho, hs, hoo, hx, hre⟩ := HE1.out rfl
    subst ho hs
    have HOO := Lib.hid hoo
    have HX := Lib.hid hx
    have HRE := Lib.hid hre
    clear hoo hx hre HE0 HE1
    have hob := HOK.out ob (List.mem_of_getElem? HOO.out)
    have hsec := hob.sec x (List.mem_of_getElem? HX.out)
    have hol : on < ln := by rw [← HLN.out]; exact (List.getElem?_eq_some_iff.1 HOO.out).1
    have hsl : sn < ob.syms.length := (List.getElem?_eq_some_iff.1 HX.out).1
    have hrow := HDK.out.row on ob HOO.out
    have hq1 := hob.few.1
    rw [← hrow] at hsec hq1
    have hyb := hob.few.2.1
    generalize hyn : ob.syms.length = yn at *
    have HYN := Lib.hid hyn
    have HSEC := Lib.hid hsec
    have HQ1 := Lib.hid hq1
    clear hob hrow hyn hsec hq1
    go_upto_region 2 with (first | (go_at_call 63; refine HISX.out.mono ?_; rintro e w2 ⟨rfl, hb2⟩) | fail)
    have hR2 := (hb2.block (gb + 1) (by have := HSB.out; omega)).trans HRB.out
    have hA2 := (hb2.block gb (by have := HSB.out; omega)).trans HAB.out
    have hw2 := HWB0.out.trans (hb2.mono (by have := HSB.out; omega))
    have hsz2 : gb + 2 ≤ w2.heap.size := by have := hb2.size; have := HSB.out; omega
    obtain ⟨b, off, p0, p1, p2, p4, c0, c1, c2, c4, hpe, e0, e1, e2, _, _, _, hsy, _⟩ := objs_at (HH.out.below EObj.keeps (show Below w.heap.size w w2 by rw [HGB.out]; exact hw2)) HOO.out
    subst hpe
    obtain ⟨b1, off1, x', hpe1, hx', ⟨f0, _⟩, ⟨f1, _⟩, ⟨f2, _⟩, ⟨f3, _⟩, ⟨f4, _⟩, ⟨f5, _⟩⟩ := hsy.at_ (i := sn) (by rw [HYN.out]; exact hsl)
    subst hpe1
    obtain rfl : x' = x := by rw [HX.out] at hx'; cases hx'; rfl
    rw [HYN.out] at e1
    have hJ : (on : Int) < (ln : Int) := by omega
    have hJ0 : (0 : Int) ≤ (on : Int) := by omega
    have hJ' : ¬ (ln : Int) ≤ (on : Int) := by omega
    have hJ2 : ¬ (on : Int) < 0 := by omega
    have hK : (sn : Int) < (yn : Int) := by omega
    have hK0 : (0 : Int) ≤ (sn : Int) := by omega
    clear hb2 hx' hsy e0 e2
    go_upto_region 4 with fail
    have hb3 : Below w2.heap.size w2 (w2.alloc (.cells #[.string x'.name, .int .i64 x'.bind, .int .i64 x'.type, .int .i64 x'.sec, .int .i64 x'.value, .int .i64 x'.size] 98)) := (Below.refl _ w2).alloc (Nat.le_refl _) _
    obtain ⟨x0, x1, x2, x3, x4, x5⟩ := ncells6 _ _ _ _ _ _ _ _ _ (heap_alloc_new w2 (.cells #[.string x'.name, .int .i64 x'.bind, .int .i64 x'.type, .int .i64 x'.sec, .int .i64 x'.value, .int .i64 x'.size] 98))
    have hR3 := (hb3.block (gb + 1) (by omega)).trans hR2
    have hA3 := (hb3.block gb (by omega)).trans hA2
    have hw3 := hw2.trans (hb3.mono (by omega))
    have hsz3 : gb + 2 ≤ (w2.alloc (.cells #[.string x'.name, .int .i64 x'.bind, .int .i64 x'.type, .int .i64 x'.sec, .int .i64 x'.value, .int .i64 x'.size] 98)).heap.size := Nat.le_trans hsz2 hb3.size
    generalize w2.alloc (.cells #[.string x'.name, .int .i64 x'.bind, .int .i64 x'.type, .int .i64 x'.sec, .int .i64 x'.value, .int .i64 x'.size] 98) = w3 at *
    generalize w2.heap.size = g2 at *
    have HR3 := Lib.hid hR3
    have HW3 := Lib.hid hw3
    obtain ⟨⟨a0, a1⟩, _⟩ := pair_cells _ _ _ _ _ hA3
    clear hb3 hR3 hA3 hw3 hR2 hA2 hw2 e1 f0 f1 f2 f3 f4 f5
    cases hbd : (x'.bind == 0) with
    | true =>
      have hr3 : r = bif droppedB D on x'.sec then (⟨0, 0, 0⟩, 4) else (placeB x' (on : Int), 0) := by rw [HRE.out]; unfold whereIn; rw [hbd, cond_true, place_loc]
      have HDX := Lib.hid (HDR.out w3 (by first | exact HW3.out | (rw [HGB.out]; exact HW3.out)) on x'.sec HQ1.out (by have := HDL.out; omega) HSEC.out)
      obtain ⟨dq, hdq⟩ : ∃ dq, dq = droppedB D on x'.sec := ⟨_, rfl⟩
      rw [← hdq] at hr3 HDX
      have HR4 := Lib.hid hr3
      clear hr3 hdq
      go_wp2_with fail
      refine HDX.out.mono ?_
      rintro e w4 ⟨rfl, hb4⟩
      have hR4 := (hb4.block (gb + 1) (by omega)).trans HR3.out
      have hw4 := HW3.out.trans (hb4.mono (by omega))
      have hsz4 : gb + 2 ≤ w4.heap.size := Nat.le_trans hsz3 hb4.size
      cases dq with
      | true =>
        have hE : Hid (r = (⟨0, 0, 0⟩, 4)) := Lib.hid HR4.out
        obtain ⟨⟨r0, r1, r2⟩, r3, r4, r5⟩ := three_cells _ _ _ _ _ _ hR4
        have hst := set_three (.int .i64 0) (.int .i64 0) (.int .i64 0) (by omega : gb ≤ gb + 1) hR4
        have HST := Lib.hid hst
        have HW4 := Lib.hid hw4
        clear hst hR4 hw4 hb4 x0 x1 x2 x3 x4 x5 a0 a1
        go_wp2_with fail
        exact nwhere_end (x := ⟨0, 0, 0⟩) (n := 4) (by rfl) (by rfl) HGB.out HST.out.1 (HW4.out.trans (HST.out.2.below (by omega))) hE.out rfl
      | false =>
        have hE : Hid (r = (placeB x' (on : Int), 0)) := Lib.hid HR4.out
        have y0 := cell_later hb4 x0
        have y1 := cell_later hb4 x1
        have y2 := cell_later hb4 x2
        have y3 := cell_later hb4 x3
        have y4 := cell_later hb4 x4
        have y5 := cell_later hb4 x5
        have HPX := Lib.hid (HPL.out w4 x' (on : Int))
        generalize placeB x' (on : Int) = pl at *
        have HR5 := Lib.hid hR4
        have HW4 := Lib.hid hw4
        clear hR4 hw4 hb4 x0 x1 x2 x3 x4 x5 a0 a1
        go_wp2_with fail
        refine HPX.out.mono ?_
        rintro e w5 ⟨rfl, hb5⟩
        have hR6 := (hb5.block (gb + 1) (by omega)).trans HR5.out
        have hw5 := HW4.out.trans (hb5.mono (by omega))
        have hsz5 : gb + 2 ≤ w5.heap.size := Nat.le_trans hsz4 hb5.size
        obtain ⟨⟨r0, r1, r2⟩, r3, r4, r5⟩ := three_cells _ _ _ _ _ _ hR6
        have hst := set_three (.int .i64 pl.obj) (.int .i64 pl.sec) (.int .i64 pl.at_) (by omega : gb ≤ gb + 1) hR6
        have HST := Lib.hid hst
        have HW5 := Lib.hid hw5
        clear hst hR6 hw5 hb5 y0 y1 y2 y3 y4 y5
        go_wp2_with fail
        exact nwhere_end (x := pl) (n := 0) (by rfl) (by rfl) HGB.out HST.out.1 (HW5.out.trans (HST.out.2.below (by omega))) hE.out rfl
    | false =>
      have hr3 : r = match findIn (allTo ObjD.syms l l.length) D x'.name with
        | some d => (match symAt2 l d.obj d.sym with | some y => ownPl D d.obj y | none => (⟨0, 0, 0⟩, 1))
        | none => bif x'.bind == 2 then (⟨0, 0, 0⟩, 0) else (⟨0, 0, 0⟩, 4) := by rw [HRE.out]; unfold whereIn; rw [hbd]; rfl
      have HFX := Lib.hid (HFI.out w3 (by first | exact HW3.out | (rw [HGB.out]; exact HW3.out)) x'.name)
      have hfe : findL defs x'.name = findIn (allTo ObjD.syms l l.length) D x'.name := by rw [HLN.out]; exact HTAB.out x'.name
      rw [hfe] at HFX
      cases hfi : findIn (allTo ObjD.syms l l.length) D x'.name with
      | none =>
        rw [hfi] at hr3 HFX
        simp only [Option.getD_none, Option.isSome_none] at HFX
        have HR3' := Lib.hid hr3
        clear hr3 hfi hfe
        go_upto_region 9 with (first | (go_at_call 23; refine HFX.out.mono ?_; rintro e w4 ⟨rfl, hb4⟩) | fail)
        have hb5 : Below w3.heap.size w3 (w4.alloc (.cells #[.string noDef.name, .int .i64 (noDef.obj : Int), .int .i64 (noDef.sym : Int)] 60)) := hb4.alloc hb4.size _
        have hR4 := (hb5.block (gb + 1) (by omega)).trans HR3.out
        have hw5 := HW3.out.trans (hb5.mono (by omega))
        have x1' := cell_later hb5 x1
        have hsz5 : gb + 2 ≤ (w4.alloc (.cells #[.string noDef.name, .int .i64 (noDef.obj : Int), .int .i64 (noDef.sym : Int)] 60)).heap.size := Nat.le_trans hsz3 hb5.size
        generalize w4.alloc (.cells #[.string noDef.name, .int .i64 (noDef.obj : Int), .int .i64 (noDef.sym : Int)] 60) = w5 at *
        generalize w4.heap.size = g4 at *
        obtain ⟨⟨r0, r1, r2⟩, r3, r4, r5⟩ := three_cells _ _ _ _ _ _ hR4
        have hst := set_three (.int .i64 0) (.int .i64 0) (.int .i64 0) (by omega : gb ≤ gb + 1) hR4
        have HST := Lib.hid hst
        have HW5 := Lib.hid hw5
        clear hst hw5 hR4 hb4 hb5 x0 x1 x2 x3 x4 x5 a0 a1
        cases hb2 : (x'.bind == 2) with
        | true =>
          have hE : Hid (r = (⟨0, 0, 0⟩, 0)) := Lib.hid (by rw [HR3'.out, hb2]; rfl)
          go_wp2_with fail
          exact nwhere_end (x := ⟨0, 0, 0⟩) (n := 0) (by rfl) (by rfl) HGB.out HST.out.1 (HW5.out.trans (HST.out.2.below (by omega))) hE.out rfl
        | false =>
          have hE : Hid (r = (⟨0, 0, 0⟩, 4)) := Lib.hid (by rw [HR3'.out, hb2]; rfl)
          go_wp2_with fail
          exact nwhere_end (x := ⟨0, 0, 0⟩) (n := 4) (by rfl) (by rfl) HGB.out HST.out.1 (HW5.out.trans (HST.out.2.below (by omega))) hE.out rfl
      | some d =>
        obtain ⟨ob2, y, hob2, hy2, hdf, hyn9⟩ := findIn_sym hfi
        clear hyn9
        rw [hfi] at hr3 HFX
        simp only [Option.getD_some, Option.isSome_some] at HFX
        have hsy2 : symAt2 l d.obj d.sym = some y := by unfold symAt2; rw [hob2]; exact hy2
        simp only [hsy2] at hr3
        rw [place_own hdf] at hr3
        have hE : Hid (r = (placeB y (d.obj : Int), 0)) := Lib.hid hr3
        have HIY := Lib.hid (isSym_yes hob2 hy2)
        have HOB2 := Lib.hid hob2
        have HY2 := Lib.hid hy2
        clear hr3 hfi hfe hob2 hy2 hdf hsy2
        go_upto_region 9 with (first | (go_at_call 23; refine HFX.out.mono ?_; rintro e w4 ⟨rfl, hb4⟩) | fail)
        have hb5 : Below w3.heap.size w3 (w4.alloc (.cells #[.string d.name, .int .i64 (d.obj : Int), .int .i64 (d.sym : Int)] 60)) := hb4.alloc hb4.size _
        obtain ⟨⟨d0, d1, d2⟩, _⟩ := three_cells _ _ _ _ _ _ (heap_alloc_new w4 (.cells #[.string d.name, .int .i64 (d.obj : Int), .int .i64 (d.sym : Int)] 60))
        have hR4 := (hb5.block (gb + 1) (by omega)).trans HR3.out
        have hw5 := HW3.out.trans (hb5.mono (by omega))
        have hsz5 : gb + 2 ≤ (w4.alloc (.cells #[.string d.name, .int .i64 (d.obj : Int), .int .i64 (d.sym : Int)] 60)).heap.size := Nat.le_trans hsz3 hb5.size
        generalize w4.alloc (.cells #[.string d.name, .int .i64 (d.obj : Int), .int .i64 (d.sym : Int)] 60) = w5 at *
        generalize w4.heap.size = g4 at *
        have his5 := HIS.out w5 (by first | exact hw5 | (rw [HGB.out]; exact hw5)) (d.obj : Int) (d.sym : Int)
        rw [HIY.out] at his5
        have HIS5 := Lib.hid his5
        have HR4 := Lib.hid hR4
        have HW5 := Lib.hid hw5
        clear his5 hR4 hw5 hb4 hb5 x0 x1 x2 x3 x4 x5 a0 a1 hJ hJ0 hJ' hJ2 hK hK0
        go_wp2_with fail
        refine HIS5.out.mono ?_
        rintro e w6 ⟨rfl, hb6⟩
        have hR6 := (hb6.block (gb + 1) (by omega)).trans HR4.out
        have hw6 := HW5.out.trans (hb6.mono (by omega))
        have hsz6 : gb + 2 ≤ w6.heap.size := Nat.le_trans hsz5 hb6.size
        have d0' := cell_later hb6 d0
        have d1' := cell_later hb6 d1
        have d2' := cell_later hb6 d2
        obtain ⟨b, off, p0, p1, p2, p4, c0, c1, c2, c4, hpe, e0, e1, e2, _, _, _, hsy, _, _, _⟩ := objs_at (HH.out.below EObj.keeps (show Below w.heap.size w w6 by rw [HGB.out]; exact hw6)) HOB2.out
        cases hpe
        have hyl : d.sym < ob2.syms.length := (List.getElem?_eq_some_iff.1 HY2.out).1
        obtain ⟨b1, off1, y', hpe1, hy', ⟨f0, _⟩, ⟨f1, _⟩, ⟨f2, _⟩, ⟨f3, _⟩, ⟨f4, _⟩, ⟨f5, _⟩⟩ := hsy.at_ hyl
        subst hpe1
        obtain rfl : y' = y := by rw [HY2.out] at hy'; cases hy'; rfl
        have hdl : d.obj < ln := by rw [← HLN.out]; exact (List.getElem?_eq_some_iff.1 HOB2.out).1
        have hyb2 := (HOK.out ob2 (List.mem_of_getElem? HOB2.out)).few.2.1
        generalize ob2.syms.length = yn2 at *
        have hM : (d.obj : Int) < (ln : Int) := by omega
        have hM0 : (0 : Int) ≤ (d.obj : Int) := by omega
        have hM1 : ¬ (ln : Int) ≤ (d.obj : Int) := by omega
        have hM2 : ¬ (d.obj : Int) < 0 := by omega
        have hN : (d.sym : Int) < (yn2 : Int) := by omega
        have hN0 : (0 : Int) ≤ (d.sym : Int) := by omega
        have hN1 : ¬ (yn2 : Int) ≤ (d.sym : Int) := by omega
        have hN2 : ¬ (d.sym : Int) < 0 := by omega
        have HPX := Lib.hid fun W => HPL.out W y' (d.obj : Int)
        generalize placeB y' (d.obj : Int) = pl at *
        have HR6 := Lib.hid hR6
        have HW6 := Lib.hid hw6
        clear hR6 hw6 hb6 d0 d1 d2 hy' hsy e0 e2 hdl hyl
        go_upto_region 10 with fail
        go_still_tail 12, (by kernel_rfl)
        go_wp2_with fail
        refine (HPX.out _).mono ?_
        rintro e w7 ⟨rfl, hb7⟩
        have hb7' : Below w6.heap.size w6 w7 := ((Below.refl _ w6).drew).trans hb7
        have hR7 := (hb7'.block (gb + 1) (by omega)).trans HR6.out
        have hw7 := HW6.out.trans (hb7'.mono (by omega))
        have hsz7 : gb + 2 ≤ w7.heap.size := Nat.le_trans hsz6 hb7'.size
        obtain ⟨⟨r0, r1, r2⟩, r3, r4, r5⟩ := three_cells _ _ _ _ _ _ hR7
        have hst := set_three (.int .i64 pl.obj) (.int .i64 pl.sec) (.int .i64 pl.at_) (by omega : gb ≤ gb + 1) hR7
        have HST := Lib.hid hst
        have HW7 := Lib.hid hw7
        clear hst hR7 hw7 hb7 hb7' d0' d1' d2' e1 f0 f1 f2 f3 f4 f5
        go_wp2_with fail
        exact nwhere_end (x := pl) (n := 0) (by rfl) (by rfl) HGB.out HST.out.1 (HW7.out.trans (HST.out.2.below (by omega))) hE.out rfl
end Go.Proofs.YthnkehdcolnegaaGreat

namespace Go.Proofs.YthnkehdcolnegaaGreat
open Go.RowKit

theorem results_ntab {fn : Func} {p u : Tmp} (h : fn.results = #[.cell p 49, .tmp u]) (tmps : Array Value) (w : World) (g : Nat) (v0 v1 b : Value) (hp : tmps.getD p undef = .pointer (some ⟨g, 0, none⟩)) (hu : tmps.getD u undef = b)
    (hg : w.heap[g]? = some (.cells #[v0, v1] 49 (0, 0))) : (results fn tmps).run Tryz.prog w = .ok (.tuple #[.agg #[v0, v1], b]) w := by
  obtain ⟨⟨r0, r1⟩, _⟩ := pair_cells _ _ _ _ _ hg
  rw [results_cell_tmp h, hp, hu]
  go_simp
theorem set_two {w : World} {g N : Nat} {v0 v1 : Value} {T : TypeId} (u0 u1 : Value) (hN : N ≤ g) (h : w.heap[g]? = some (.cells #[v0, v1] T (0, 0))) :
    ((w.setCell ⟨g, 0, none⟩ u0).setCell ⟨g, 1, none⟩ u1).heap[g]? = some (.cells #[u0, u1] T (0, 0)) ∧ FrT N [T] w ((w.setCell ⟨g, 0, none⟩ u0).setCell ⟨g, 1, none⟩ u1) := by
  have h0 := heap_setCell_same w g 0 _ _ u0 h
  have h1 := heap_setCell_same _ g 1 _ _ u1 h0
  exact ⟨h1, (FrT.set h (by simp) hN _).trans (FrT.set h0 (by simp) hN _)⟩
theorem Fr2.of_below {lo : Nat} {w w' : World} (h : Below w.heap.size w w') : Fr2 lo w w' := ⟨h.size, fun g _ hg => h.block g hg⟩
theorem Fr2.set {lo g : Nat} {w w' : World} (h : Fr2 lo w w') (hg : g < lo) (a b : Value) : Fr2 lo w ((w'.setCell ⟨g, 0, none⟩ a).setCell ⟨g, 1, none⟩ b) :=
  ⟨by simpa using h.1, fun k h1 h2 => by rw [heap_setCell_other _ _ _ _ (show k ≠ g by omega), heap_setCell_other _ _ _ _ (show k ≠ g by omega)]; exact h.2 k h1 h2⟩
abbrev nilV : Value := .slice none 0 0
/-- What Resolve tells. -/
def TabIs (l : List ObjD) (mb : Bool) (w' : World) (n : Int) (v0 v1 : Value) : Prop :=
  mb = false ∧ n = 1 ∧ v0 = nilV ∧ v1 = nilV ∨ mb = true ∧ (ownGo (dropsOf l) (bindIn l) (allTo ObjD.syms l l.length) [] = none ∧ n = 3 ∧ v0 = nilV ∧ v1 = nilV ∨
    ∃ ms defs, ownGo (dropsOf l) (bindIn l) (allTo ObjD.syms l l.length) [] = some ms ∧ DSorted defs ∧ (∀ d, d ∈ defs ↔ d ∈ ms) ∧
      ((allTo ObjD.syms l l.length).all (defdB defs) = false ∧ n = 4 ∧ v0 = nilV ∧ v1 = nilV ∨ (allTo ObjD.syms l l.length).all (defdB defs) = true ∧ n = 0 ∧ IsTab w' v0 v1 (dropsOf l) defs))
set_option maxRecDepth 100000 in
set_option maxHeartbeats 8000000 in
theorem nResolve_any (HSV : SortValsOK) (p : Option Addr) (c : Nat) (l : List ObjD) (w : World) (h : HasL 5 EObj w p l) (mb : Bool) (hyes : mb = true → (∀ o ∈ l, OkD o) ∧ l.length ≤ 8)
    (hmay : ∀ W, Below w.heap.size w W → Calls Tryz.prog 52 #[.slice p l.length c] W fun e w' => e = .returned (.bool mb) ∧ Below W.heap.size W w') :
    Calls Tryz.prog 19 #[.slice p l.length c] w fun e w' => ∃ n v0 v1, e = .returned (.tuple #[.agg #[v0, v1], errV n]) ∧ TabIs l mb w' n v0 v1 ∧ Below w.heap.size w w' := by
  have hb1 : Below w.heap.size w (w.alloc (.cells #[nilV, nilV] 49)) := (Below.refl _ w).alloc (Nat.le_refl _) _
  have hg1 := heap_alloc_new w (.cells #[nilV, nilV] 49)
  have s1 : (w.alloc (.cells #[nilV, nilV] 49)).heap.size = w.heap.size + 1 := by simp
  have HS1 := Lib.hid s1
  have HH := Lib.hid fun W (hW : Below w.heap.size w W) => h.below EObj.keeps hW
  have HM := Lib.hid hmay
  have HYES := Lib.hid hyes
  clear h hmay hyes s1
  go_enter Tryz.func19, Tryz.ntmps19
  go_upto_region 1 with fail
  generalize w.alloc (.cells #[nilV, nilV] 49) = w1 at *
  generalize hgb : w.heap.size = gb at *
  have HGB := Lib.hid hgb
  clear hgb
  have hm := HM.out w1 (by first | exact hb1 | (rw [HGB.out]; exact hb1))
  cases mb with
  | false =>
    go_wp2_with fail
    refine hm.mono ?_
    rintro e w2 ⟨rfl, hb2⟩
    have hR := (hb2.block gb (by have := HS1.out; omega)).trans hg1
    have hw := hb1.trans (hb2.mono (by first | exact hb1.size | (rw [← HGB.out]; exact hb1.size)))
    obtain ⟨⟨r0, r1⟩, r2, r3⟩ := pair_cells _ _ _ _ _ hR
    have hst := set_two nilV nilV (Nat.le_refl gb) hR
    have HST := Lib.hid hst
    have hsz : gb ≤ w2.heap.size := Nat.le_of_lt (Array.getElem?_eq_some_iff.1 hR).1
    clear hst
    go_wp2_with fail
    exact bodyPost_ret (results_ntab rfl _ _ _ _ _ _ (by rfl) (by rfl) HST.out.1) rfl ⟨1, nilV, nilV, rfl, .inl ⟨rfl, rfl, rfl, rfl⟩, by rw [HGB.out]; exact hw.trans (HST.out.2.below hsz)⟩
  | true =>
    obtain ⟨hok, hl8⟩ := HYES.out rfl
    have HOK := Lib.hid hok
    clear hok
    go_wp2_with fail
    refine hm.mono ?_
    rintro e w2 ⟨rfl, hb2⟩
    have hg2 := (hb2.block gb (by have := HS1.out; omega)).trans hg1
    have hw2 : Below gb w w2 := hb1.trans (hb2.mono (by first | exact hb1.size | (rw [← HGB.out]; exact hb1.size)))
    have hgs2 : gb < w2.heap.size := (Array.getElem?_eq_some_iff.1 hg2).1
    have hd := dropSecs_any p c l w2 (HH.out w2 (by first | exact hw2 | (rw [HGB.out]; exact hw2))) HOK.out (by omega)
    clear hb1 hb2 hg1 hm
    go_wp2_with fail
    refine hd.mono ?_
    rintro e w3 ⟨v, rfl, hD, hb3⟩
    have HALL := Lib.hid hD
    obtain ⟨pd, cd, rfl, n1, n2, n3, hDh⟩ := hD w3 (Fr2.refl _ _)
    clear hD
    have HNN := Lib.hid (And.intro n1 (And.intro n2 n3))
    clear n1 n2 n3
    have hDK : DropOK w3 pd l (dropsOf l) := ⟨hDh, by simp [dropsOf], fun i o ho => by
      have hi := (List.getElem?_eq_some_iff.1 ho).1
      have e1 : drAt (dropsOf l) i = dropOf l i := by
        unfold drAt dropsOf
        rw [List.getElem?_map, List.getElem?_range hi]
        rfl
      rw [e1]
      unfold dropOf
      rw [ho]
      exact dropTo_length l i o _⟩
    have hg3 := (hb3.block gb hgs2).trans hg2
    have hw3 : Below gb w w3 := hw2.trans (hb3.mono (by omega))
    have hgs3 : gb < w3.heap.size := (Array.getElem?_eq_some_iff.1 hg3).1
    have hdf := define_any HSV p pd c cd l (dropsOf l) w3 (HH.out w3 (by first | exact hw3 | (rw [HGB.out]; exact hw3))) HOK.out (by omega) hDK
    have HTI := Lib.hid fun (W : World) (n : Int) (v0 v1 : Value) (h : ownGo (dropsOf l) (bindIn l) (allTo ObjD.syms l l.length) [] = none ∧ n = 3 ∧ v0 = nilV ∧ v1 = nilV ∨
      ∃ ms defs, ownGo (dropsOf l) (bindIn l) (allTo ObjD.syms l l.length) [] = some ms ∧ DSorted defs ∧ (∀ d, d ∈ defs ↔ d ∈ ms) ∧
      ((allTo ObjD.syms l l.length).all (defdB defs) = false ∧ n = 4 ∧ v0 = nilV ∧ v1 = nilV ∨ (allTo ObjD.syms l l.length).all (defdB defs) = true ∧ n = 0 ∧ IsTab W v0 v1 (dropsOf l) defs)) => (show TabIs l true W n v0 v1 from .inr ⟨rfl, h⟩)
    have HDH := Lib.hid hDh
    have hms : ∀ ms, ownGo (dropsOf l) (bindIn l) (allTo ObjD.syms l l.length) [] = some ms → ms.length ≤ 100000 := fun ms hs => by
      have h1 := ownGo_len hs
      have h2 := all_len HOK.out l.length
      simp only [List.length_nil] at h1
      omega
    have HMS := Lib.hid hms
    clear hDK hDh hg2 hw2 hb3 hms
    go_wp2_with fail
    refine hdf.mono ?_
    rintro e w4 ⟨hcase, hb4⟩
    have hg4 := (hb4.block gb hgs3).trans hg3
    have HF4 : Hid (Fr2 w2.heap.size w3 w4) := Lib.hid (Fr2.of_below hb4)
    have hsz23 : gb < w3.heap.size := hgs3
    have hw4 : Below gb w w4 := hw3.trans (hb4.mono (by omega))
    have hgs4 : gb < w4.heap.size := (Array.getElem?_eq_some_iff.1 hg4).1
    have hDD4 := HDH.out.below EBools.keeps hb4
    have HDD4 := Lib.hid hDD4
    clear hb4 hdf hg3 hw3 hgs3 hDD4 HDH
    rcases hcase with ⟨hn, rfl⟩ | ⟨ms, u, defs, hs, rfl, hdef, hds, hmem, hlen⟩
    · obtain ⟨⟨r0, r1⟩, r2, r3⟩ := pair_cells _ _ _ _ _ hg4
      have hst := set_two nilV nilV (Nat.le_refl gb) hg4
      have HST := Lib.hid hst
      have hsz : gb ≤ w4.heap.size := by omega
      have HN := Lib.hid hn
      clear hst hn
      go_wp2_with fail
      exact bodyPost_ret (results_ntab rfl _ _ _ _ _ _ (by rfl) (by rfl) HST.out.1) rfl ⟨3, nilV, nilV, rfl, HTI.out _ _ _ _ (.inl ⟨HN.out, rfl, rfl, rfl⟩), by rw [HGB.out]; exact hw4.trans (HST.out.2.below hsz)⟩
    · have HALD := Lib.hid hdef
      obtain ⟨pf, cf, rfl, u1, u2, u3, hDf⟩ := hdef w4 (Fr2.refl _ _)
      clear hdef
      have hdl : defs.length ≤ 100000 := by rw [hlen]; exact HMS.out ms hs
      have HS := Lib.hid hs
      have HDS := Lib.hid hds
      have HMEM := Lib.hid hmem
      have HDF := Lib.hid hDf
      have HIS := Lib.hid (show IsL 3 EDef w4 (.slice pf defs.length cf) defs from ⟨pf, cf, rfl, u1, u2, u3, hDf⟩)
      clear hs hds hmem hDf hlen u1 u2 u3
      have hb5 : Below w4.heap.size w4 (w4.alloc (.cells #[.slice pd (dropsOf l).length cd, .slice pf defs.length cf] 49)) := (Below.refl _ w4).alloc (Nat.le_refl _) _
      have hgt := heap_alloc_new w4 (.cells #[.slice pd (dropsOf l).length cd, .slice pf defs.length cf] 49)
      go_upto_region 8 with fail
      generalize w4.alloc (.cells #[.slice pd (dropsOf l).length cd, .slice pf defs.length cf] 49) = w5 at *
      have hg5 := (hb5.block gb hgs4).trans hg4
      have HF5 : Hid (Fr2 w2.heap.size w4 w5 ∧ Fr2 w3.heap.size w4 w5) := Lib.hid ⟨Fr2.of_below hb5, Fr2.of_below hb5⟩
      have hw5 : Below gb w w5 := hw4.trans (hb5.mono (by omega))
      have hgs5 : gb < w5.heap.size := (Array.getElem?_eq_some_iff.1 hg5).1
      have HIS5 := Lib.hid (HIS.out.below EDef.keeps hb5)
      have HDD5 := Lib.hid (HDD4.out.below EBools.keeps hb5)
      have had := allDefined_any p pf c defs.length cf (.slice pd (dropsOf l).length cd) l defs w5 (HH.out w5 (by first | exact hw5 | (rw [HGB.out]; exact hw5))) HOK.out (by omega) (HDF.out.below EDef.keeps hb5) rfl hdl HDS.out
      obtain ⟨ab, hab⟩ : ∃ ab, ab = (allTo ObjD.syms l l.length).all (defdB defs) := ⟨_, rfl⟩
      rw [← hab] at had
      have HAB := Lib.hid hab
      have hgts : w4.heap.size < w5.heap.size := (Array.getElem?_eq_some_iff.1 hgt).1
      generalize w4.heap.size = g7 at *
      obtain ⟨⟨a0, a1⟩, _⟩ := pair_cells _ _ _ _ _ hgt
      clear hb5 hg4 hw4 hab
      go_wp2_with fail
      refine had.mono ?_
      rintro e w6 ⟨rfl, hb6⟩
      have hg6 := (hb6.block gb hgs5).trans hg5
      have HF6 : Hid (Fr2 w2.heap.size w3 w6 ∧ Fr2 w3.heap.size w4 w6) := Lib.hid ⟨HF4.out.trans (HF5.out.1.trans (Fr2.of_below hb6)), HF5.out.2.trans (Fr2.of_below hb6)⟩
      have hw6 : Below gb w w6 := hw5.trans (hb6.mono (by omega))
      have hgs6 : gb < w6.heap.size := (Array.getElem?_eq_some_iff.1 hg6).1
      have hgt6 := (hb6.block g7 hgts).trans hgt
      have HIS6 := Lib.hid (HIS5.out.below EDef.keeps hb6)
      have HDD6 := Lib.hid (HDD5.out.below EBools.keeps hb6)
      clear hb6 had a0 a1
      obtain ⟨⟨a0, a1⟩, _⟩ := pair_cells _ _ _ _ _ hgt6
      obtain ⟨⟨r0, r1⟩, r2, r3⟩ := pair_cells _ _ _ _ _ hg6
      cases ab with
      | false =>
        have hst := set_two nilV nilV (Nat.le_refl gb) hg6
        have HST := Lib.hid hst
        clear hst
        go_wp2_with fail
        exact bodyPost_ret (results_ntab rfl _ _ _ _ _ _ (by rfl) (by rfl) HST.out.1) rfl ⟨4, nilV, nilV, rfl, HTI.out _ _ _ _ (.inr ⟨ms, defs, HS.out, HDS.out, HMEM.out, .inl ⟨HAB.out.symm, rfl, rfl, rfl⟩⟩), by rw [HGB.out]; exact hw6.trans (HST.out.2.below (by omega))⟩
      | true =>
        have hst := set_two (.slice pd (dropsOf l).length cd) (.slice pf defs.length cf) (Nat.le_refl gb) hg6
        have HST := Lib.hid hst
        clear hst
        go_wp2_with fail
        exact bodyPost_ret (results_ntab rfl _ _ _ _ _ _ (by rfl) (by rfl) HST.out.1) rfl ⟨0, _, _, rfl, HTI.out _ _ _ _ (.inr ⟨ms, defs, HS.out, HDS.out, HMEM.out, .inr ⟨HAB.out.symm, rfl, HALL.out _ (HF6.out.1.set hgs2 _ _), HALD.out _ (HF6.out.2.set hsz23 _ _)⟩⟩), by rw [HGB.out]; exact hw6.trans (HST.out.2.below (by omega))⟩
end Go.Proofs.YthnkehdcolnegaaGreat
