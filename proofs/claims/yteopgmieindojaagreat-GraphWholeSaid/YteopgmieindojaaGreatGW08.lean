/-
  Parts of a proof.
-/
import Derived.Test.YteopgmieindojaaGreatGW07
import Derived.Test.YteopgmieindojaaGreatGW06
import Derived.Test.YteopgmieindojaaGreatGW02
namespace Go.Proofs.YteopgmieindojaaGreat
open Go.RowKit
def errV (n : Int) : Value := if n = 0 then .nilIface else .iface 36 (.int .i64 n)
theorem results_nwh {fn : Func} {p u : Tmp} (h : fn.results = #[.cell p 67, .tmp u]) (tmps : Array Value) (w : World) (g : Nat) (v0 v1 v2 b : Value) (hp : tmps.getD p undef = .pointer (some ⟨g, 0, none⟩)) (hu : tmps.getD u undef = b)
  (hg : w.heap[g]? = some (.cells #[v0, v1, v2] 67 (0, 0))) : (results fn tmps).run Tryz.prog w = .ok (.tuple #[.agg #[v0, v1, v2], b]) w := by
 obtain ⟨⟨r0, r1, r2⟩, _⟩ := three_cells _ _ _ _ _ _ hg
 rw [results_cell_tmp h, hp, hu]
 go_simp
def GivesNPl (r : PlaceD × Int) (w : World) (e : Ending) (w' : World) : Prop := e = .returned (.tuple #[.agg (plCs r.1), errV r.2]) ∧ Below w.heap.size w w'
theorem nwhere_end {tmps : Array Value} {W w : World} {B : Nat} {r : PlaceD × Int} {x : PlaceD} {n : Int} {v : Value} (h8 : tmps.getD 8 undef = .pointer (some ⟨B + 1, 0, none⟩)) (h9 : tmps.getD 9 undef = v) (hB : w.heap.size = B)
  (hR : W.heap[B + 1]? = some (.cells (plCs x) 67 (0, 0))) (hb : Below B w W) (he : r = (x, n)) (hv : v = errV n) : bodyPost Tryz.prog Tryz.f25 (GivesNPl r w) Exit.ret ⟨tmps, []⟩ W := by
 subst hB
 subst he
 subst hv
 exact bodyPost_ret (results_nwh rfl _ _ _ _ _ _ _ h8 h9 hR) rfl ⟨rfl, hb⟩
theorem place_own {D : List (List Bool)} {o : Nat} {y : SymD} (h : definesB y (drAt D o) = true) : ownPl D o y = (placeB y (o : Int), 0) := by
 unfold definesB at h
 cases h0 : (y.bind == 0 || y.sec == 0) with
 | true => rw [h0] at h; cases h
 | false =>
  rw [h0] at h
  rw [Bool.or_eq_false_iff] at h0
  have hs0 : ¬ y.sec = 0 := by simpa using h0.2
  unfold ownPl placeB
  by_cases hs : y.sec < 1
  ·rw [decide_eq_true hs, if_pos (by omega)]
   rfl
  ·rw [decide_eq_false hs, if_neg (by omega)]
   have h1 : (y.sec == -1) = false := by simp; omega
   rw [cond_false, h1, Bool.false_or] at h
   have h2 : (drAt D o)[(y.sec - 1).toNat]?.getD false = false := by simpa using h
   rw [h2]
   rfl
theorem place_loc {D : List (List Bool)} {o : Nat} {y : SymD} : ownPl D o y = bif droppedB D o y.sec then (⟨0, 0, 0⟩, 4) else (placeB y (o : Int), 0) := by
 unfold ownPl placeB droppedB
 by_cases hs : y.sec < 1
 ·rw [decide_eq_true hs, if_pos (by omega), decide_eq_false (by omega)]
  rfl
 ·rw [decide_eq_false hs, if_neg (by omega), decide_eq_true (by omega), Bool.true_and]
  cases (drAt D o)[(y.sec - 1).toNat]?.getD false <;> rfl
theorem isSym_yes {l : List ObjD} {d : DefD} {ob : ObjD} {y : SymD} (h1 : l[d.obj]? = some ob) (h2 : ob.syms[d.sym]? = some y) : isSymB l (d.obj : Int) (d.sym : Int) = true := by
 have := (List.getElem?_eq_some_iff.1 h1).1
 unfold isSymB symAt2
 rw [if_neg (by omega), Int.toNat_natCast, Int.toNat_natCast, h1]
 simp only
 rw [h2]
 rfl
set_option maxRecDepth 100000 in
set_option maxHeartbeats 8000000 in
theorem nWhere_any (p pd pf : Option Addr) (c cd nf cf : Nat) (o s : Int) (l : List ObjD) (D : List (List Bool)) (defs : List DefD) (w : World) (h : HasL 5 EObj w p l) (hok : ∀ o ∈ l, OkD o) (hD : DropOK w pd l D)
  (hf : HasL 3 EDef w pf defs) (hfn : defs.length = nf) (hfb : nf ≤ 100000) (hfs : DSorted defs) (htab : ∀ name, findL defs name = findIn (allTo ObjD.syms l l.length) D name) (hob : i64bd o) (hsb : i64bd s) :
  Calls Tryz.prog 25 #[.slice p l.length c, .agg #[.slice pd D.length cd, .slice pf nf cf], .int .i64 o, .int .i64 s] w (GivesNPl (whereB l D o s) w) := by
 obtain ⟨wa, hwa⟩ : ∃ wa, wa = w.alloc (.cells #[.slice pd D.length cd, .slice pf nf cf] 49) := ⟨_, rfl⟩
 obtain ⟨wb, hwb⟩ : ∃ wb, wb = wa.alloc (.cells #[.int .i64 0, .int .i64 0, .int .i64 0] 67) := ⟨_, rfl⟩
 have ha : Below w.heap.size w wa := by rw [hwa]; exact (Below.refl _ w).alloc (Nat.le_refl _) _
 have hb : Below wa.heap.size wa wb := by rw [hwb]; exact (Below.refl _ wa).alloc (Nat.le_refl _) _
 have sa : wa.heap.size = w.heap.size + 1 := by rw [hwa]; simp
 have sb : wb.heap.size = w.heap.size + 2 := by rw [hwb]; simp [sa]
 have hA0 : wa.heap[w.heap.size]? = some (.cells #[.slice pd D.length cd, .slice pf nf cf] 49 (0, 0)) := by rw [hwa]; exact heap_alloc_new w _
 have hAb := (hb.block _ (by omega)).trans hA0
 have hRb : wb.heap[wa.heap.size]? = some (.cells #[.int .i64 0, .int .i64 0, .int .i64 0] 67 (0, 0)) := by rw [hwb]; exact heap_alloc_new wa _
 rw [sa] at hRb
 have hwb0 : Below w.heap.size w wb := ha.trans (hb.mono ha.size)
 obtain ⟨r, hr⟩ : ∃ r, r = whereB l D o s := ⟨_, rfl⟩
 rw [← hr]
 have hE0 : isSymB l o s = false → r = (⟨0, 0, 0⟩, 1) := fun hh => by
  rw [hr]
  unfold isSymB at hh
  unfold whereB
  by_cases hc : o < 0 ∨ (l.length : Int) ≤ o ∨ s < 0
  ·rw [if_pos hc]
  ·rw [if_neg hc] at hh ⊢
   cases hq : symAt2 l o.toNat s.toNat with
   | none => rfl
   | some x => rw [hq] at hh; cases hh
 have hE1 : isSymB l o s = true → ∃ (on sn : Nat) (ob : ObjD) (x : SymD), o = (on : Int) ∧ s = (sn : Int) ∧ l[on]? = some ob ∧ ob.syms[sn]? = some x ∧ r = whereIn l D on x := fun hh => by
  unfold isSymB at hh
  by_cases hc : o < 0 ∨ (l.length : Int) ≤ o ∨ s < 0
  ·rw [if_pos hc] at hh; cases hh
  ·rw [if_neg hc] at hh
   obtain ⟨on, hon⟩ := Int.eq_ofNat_of_zero_le (show 0 ≤ o by omega)
   obtain ⟨sn, hsn⟩ := Int.eq_ofNat_of_zero_le (show 0 ≤ s by omega)
   subst hon hsn
   cases hq : symAt2 l on sn with
   | none => rw [Int.toNat_natCast, Int.toNat_natCast, hq] at hh; cases hh
   | some x =>
    have hq' := hq
    unfold symAt2 at hq
    cases ho : l[on]? with
    | none => rw [ho] at hq; cases hq
    | some ob =>
     rw [ho] at hq
     refine ⟨on, sn, ob, x, rfl, rfl, ho, hq, ?_⟩
     rw [hr]
     unfold whereB
     rw [if_neg hc, Int.toNat_natCast, Int.toNat_natCast, hq']
 have HE0 := Lib.hid hE0
 have HE1 := Lib.hid hE1
 have HWA := Lib.hid hwa
 have HWB := Lib.hid hwb
 have HAB := Lib.hid hAb
 have HRB := Lib.hid hRb
 have HWB0 := Lib.hid hwb0
 have HSB := Lib.hid sb
 have HH := Lib.hid h
 have HOK := Lib.hid hok
 have HDK := Lib.hid hD
 have HTAB := Lib.hid htab
 have HIS := Lib.hid fun W (hW : Below w.heap.size w W) (o s : Int) => isSym_any p c o s l W (h.below EObj.keeps hW)
 have HFI := Lib.hid fun W (hW : Below w.heap.size w W) (name : ByteArray) => nfind_any pf nf cf (.slice pd D.length cd) defs name W (hf.below EDef.keeps hW) hfn hfb hfs
 have HPL := Lib.hid fun W (x : SymD) (o : Int) => nplace_any x o W
 have HDR := Lib.hid fun W (hW : Below w.heap.size w W) (o : Nat) (sec : Int) (h1 : (drAt D o).length ≤ 1000) (h2 : o < D.length) h3 => isDropped_any pd cd o sec (.slice pf nf cf) D W (hD.below hW).has h1 h2 h3
 have HDL := Lib.hid hD.len
 generalize hdn : D.length = dn at *
 generalize hln : l.length = ln at *
 have HLN := Lib.hid hln
 clear h hok hD hwa hwb ha hb sa sb hA0 hAb hRb hwb0 hr hdn hln hob hsb hf hfn hfs htab hE0 hE1
 go_enter Tryz.func25, Tryz.ntmps25
 go_upto_region 1 with fail
 rw [← HWA.out, ← HWB.out]
 clear HWA HWB
 generalize hgb : w.heap.size = gb at *
 have HGB := Lib.hid hgb
 clear hgb
 have his := HIS.out wb (by first | exact HWB0.out | (rw [HGB.out]; exact HWB0.out)) o s
 obtain ⟨q, hq⟩ : ∃ q, q = isSymB l o s := ⟨_, rfl⟩
 rw [← hq] at his HE0 HE1
 have HISX := Lib.hid his
 clear his hq
 cases q with
 | false =>
  have hE : Hid (r = (⟨0, 0, 0⟩, 1)) := Lib.hid (HE0.out rfl)
  go_upto_region 2 with (first | (go_at_call 63; refine HISX.out.mono ?_; rintro e w2 ⟨rfl, hb2⟩) | fail)
  have hR2 := (hb2.block (gb + 1) (by have := HSB.out; omega)).trans HRB.out
  have hw2 := HWB0.out.trans (hb2.mono (by have := HSB.out; omega))
  have hsz2 : gb ≤ w2.heap.size := by have := hb2.size; have := HSB.out; omega
  obtain ⟨⟨r0, r1, r2⟩, r3, r4, r5⟩ := three_cells _ _ _ _ _ _ hR2
  have hst := set_three (.int .i64 0) (.int .i64 0) (.int .i64 0) (by omega : gb ≤ gb + 1) hR2
  have HST := Lib.hid hst
  have HW2 := Lib.hid hw2
  clear hst hR2 hw2 hb2
  go_wp2_with fail
  exact nwhere_end (x := ⟨0, 0, 0⟩) (n := 1) (by rfl) (by rfl) HGB.out HST.out.1 (HW2.out.trans (HST.out.2.below hsz2)) hE.out rfl
 | true =>
  obtain ⟨on, sn, ob, x, ho, hs, hoo, hx, hre⟩ := HE1.out rfl
  subst ho hs
  have HOO := Lib.hid hoo
  have HX := Lib.hid hx
  have HRE := Lib.hid hre
  clear hoo hx hre HE0 HE1
  have hob := HOK.out ob (List.mem_of_getElem? HOO.out)
  have hsec := hob.sec x (List.mem_of_getElem? HX.out)
  have hol : on < ln := by rw [← HLN.out]; exact (List.getElem?_eq_some_iff.1 HOO.out).1
  have hsl : sn < ob.syms.length := (List.getElem?_eq_some_iff.1 HX.out).1
  have hrow := HDK.out.row on ob HOO.out
  have hq1 := hob.few.1
  rw [← hrow] at hsec hq1
  have hyb := hob.few.2.1
  generalize hyn : ob.syms.length = yn at *
  have HYN := Lib.hid hyn
  have HSEC := Lib.hid hsec
  have HQ1 := Lib.hid hq1
  clear hob hrow hyn hsec hq1
  go_upto_region 2 with (first | (go_at_call 63; refine HISX.out.mono ?_; rintro e w2 ⟨rfl, hb2⟩) | fail)
  have hR2 := (hb2.block (gb + 1) (by have := HSB.out; omega)).trans HRB.out
  have hA2 := (hb2.block gb (by have := HSB.out; omega)).trans HAB.out
  have hw2 := HWB0.out.trans (hb2.mono (by have := HSB.out; omega))
  have hsz2 : gb + 2 ≤ w2.heap.size := by have := hb2.size; have := HSB.out; omega
  obtain ⟨b, off, p0, p1, p2, p4, c0, c1, c2, c4, hpe, e0, e1, e2, _, _, _, hsy, _⟩ := objs_at (HH.out.below EObj.keeps (show Below w.heap.size w w2 by rw [HGB.out]; exact hw2)) HOO.out
  subst hpe
  obtain ⟨b1, off1, x', hpe1, hx', ⟨f0, _⟩, ⟨f1, _⟩, ⟨f2, _⟩, ⟨f3, _⟩, ⟨f4, _⟩, ⟨f5, _⟩⟩ := hsy.at_ (i := sn) (by rw [HYN.out]; exact hsl)
  subst hpe1
  obtain rfl : x' = x := by rw [HX.out] at hx'; cases hx'; rfl
  rw [HYN.out] at e1
  have hJ : (on : Int) < (ln : Int) := by omega
  have hJ0 : (0 : Int) ≤ (on : Int) := by omega
  have hJ' : ¬ (ln : Int) ≤ (on : Int) := by omega
  have hJ2 : ¬ (on : Int) < 0 := by omega
  have hK : (sn : Int) < (yn : Int) := by omega
  have hK0 : (0 : Int) ≤ (sn : Int) := by omega
  clear hb2 hx' hsy e0 e2
  go_upto_region 4 with fail
  have hb3 : Below w2.heap.size w2 (w2.alloc (.cells #[.string x'.name, .int .i64 x'.bind, .int .i64 x'.type, .int .i64 x'.sec, .int .i64 x'.value, .int .i64 x'.size] 98)) := (Below.refl _ w2).alloc (Nat.le_refl _) _
  obtain ⟨x0, x1, x2, x3, x4, x5⟩ := ncells6 _ _ _ _ _ _ _ _ _ (heap_alloc_new w2 (.cells #[.string x'.name, .int .i64 x'.bind, .int .i64 x'.type, .int .i64 x'.sec, .int .i64 x'.value, .int .i64 x'.size] 98))
  have hR3 := (hb3.block (gb + 1) (by omega)).trans hR2
  have hA3 := (hb3.block gb (by omega)).trans hA2
  have hw3 := hw2.trans (hb3.mono (by omega))
  have hsz3 : gb + 2 ≤ (w2.alloc (.cells #[.string x'.name, .int .i64 x'.bind, .int .i64 x'.type, .int .i64 x'.sec, .int .i64 x'.value, .int .i64 x'.size] 98)).heap.size := Nat.le_trans hsz2 hb3.size
  generalize w2.alloc (.cells #[.string x'.name, .int .i64 x'.bind, .int .i64 x'.type, .int .i64 x'.sec, .int .i64 x'.value, .int .i64 x'.size] 98) = w3 at *
  generalize w2.heap.size = g2 at *
  have HR3 := Lib.hid hR3
  have HW3 := Lib.hid hw3
  obtain ⟨⟨a0, a1⟩, _⟩ := pair_cells _ _ _ _ _ hA3
  clear hb3 hR3 hA3 hw3 hR2 hA2 hw2 e1 f0 f1 f2 f3 f4 f5
  cases hbd : (x'.bind == 0) with
  | true =>
   have hr3 : r = bif droppedB D on x'.sec then (⟨0, 0, 0⟩, 4) else (placeB x' (on : Int), 0) := by rw [HRE.out]; unfold whereIn; rw [hbd, cond_true, place_loc]
   have HDX := Lib.hid (HDR.out w3 (by first | exact HW3.out | (rw [HGB.out]; exact HW3.out)) on x'.sec HQ1.out (by have := HDL.out; omega) HSEC.out)
   obtain ⟨dq, hdq⟩ : ∃ dq, dq = droppedB D on x'.sec := ⟨_, rfl⟩
   rw [← hdq] at hr3 HDX
   have HR4 := Lib.hid hr3
   clear hr3 hdq
   go_wp2_with fail
   refine HDX.out.mono ?_
   rintro e w4 ⟨rfl, hb4⟩
   have hR4 := (hb4.block (gb + 1) (by omega)).trans HR3.out
   have hw4 := HW3.out.trans (hb4.mono (by omega))
   have hsz4 : gb + 2 ≤ w4.heap.size := Nat.le_trans hsz3 hb4.size
   cases dq with
   | true =>
    have hE : Hid (r = (⟨0, 0, 0⟩, 4)) := Lib.hid HR4.out
    obtain ⟨⟨r0, r1, r2⟩, r3, r4, r5⟩ := three_cells _ _ _ _ _ _ hR4
    have hst := set_three (.int .i64 0) (.int .i64 0) (.int .i64 0) (by omega : gb ≤ gb + 1) hR4
    have HST := Lib.hid hst
    have HW4 := Lib.hid hw4
    clear hst hR4 hw4 hb4 x0 x1 x2 x3 x4 x5 a0 a1
    go_wp2_with fail
    exact nwhere_end (x := ⟨0, 0, 0⟩) (n := 4) (by rfl) (by rfl) HGB.out HST.out.1 (HW4.out.trans (HST.out.2.below (by omega))) hE.out rfl
   | false =>
    have hE : Hid (r = (placeB x' (on : Int), 0)) := Lib.hid HR4.out
    have y0 := cell_later hb4 x0
    have y1 := cell_later hb4 x1
    have y2 := cell_later hb4 x2
    have y3 := cell_later hb4 x3
    have y4 := cell_later hb4 x4
    have y5 := cell_later hb4 x5
    have HPX := Lib.hid (HPL.out w4 x' (on : Int))
    generalize placeB x' (on : Int) = pl at *
    have HR5 := Lib.hid hR4
    have HW4 := Lib.hid hw4
    clear hR4 hw4 hb4 x0 x1 x2 x3 x4 x5 a0 a1
    go_wp2_with fail
    refine HPX.out.mono ?_
    rintro e w5 ⟨rfl, hb5⟩
    have hR6 := (hb5.block (gb + 1) (by omega)).trans HR5.out
    have hw5 := HW4.out.trans (hb5.mono (by omega))
    have hsz5 : gb + 2 ≤ w5.heap.size := Nat.le_trans hsz4 hb5.size
    obtain ⟨⟨r0, r1, r2⟩, r3, r4, r5⟩ := three_cells _ _ _ _ _ _ hR6
    have hst := set_three (.int .i64 pl.obj) (.int .i64 pl.sec) (.int .i64 pl.at_) (by omega : gb ≤ gb + 1) hR6
    have HST := Lib.hid hst
    have HW5 := Lib.hid hw5
    clear hst hR6 hw5 hb5 y0 y1 y2 y3 y4 y5
    go_wp2_with fail
    exact nwhere_end (x := pl) (n := 0) (by rfl) (by rfl) HGB.out HST.out.1 (HW5.out.trans (HST.out.2.below (by omega))) hE.out rfl
  | false =>
   have hr3 : r = match findIn (allTo ObjD.syms l l.length) D x'.name with
    | some d => (match symAt2 l d.obj d.sym with | some y => ownPl D d.obj y | none => (⟨0, 0, 0⟩, 1))
    | none => bif x'.bind == 2 then (⟨0, 0, 0⟩, 0) else (⟨0, 0, 0⟩, 4) := by rw [HRE.out]; unfold whereIn; rw [hbd]; rfl
   have HFX := Lib.hid (HFI.out w3 (by first | exact HW3.out | (rw [HGB.out]; exact HW3.out)) x'.name)
   have hfe : findL defs x'.name = findIn (allTo ObjD.syms l l.length) D x'.name := by rw [HLN.out]; exact HTAB.out x'.name
   rw [hfe] at HFX
   cases hfi : findIn (allTo ObjD.syms l l.length) D x'.name with
   | none =>
    rw [hfi] at hr3 HFX
    simp only [Option.getD_none, Option.isSome_none] at HFX
    have HR3' := Lib.hid hr3
    clear hr3 hfi hfe
    go_upto_region 9 with (first | (go_at_call 23; refine HFX.out.mono ?_; rintro e w4 ⟨rfl, hb4⟩) | fail)
    have hb5 : Below w3.heap.size w3 (w4.alloc (.cells #[.string noDef.name, .int .i64 (noDef.obj : Int), .int .i64 (noDef.sym : Int)] 60)) := hb4.alloc hb4.size _
    have hR4 := (hb5.block (gb + 1) (by omega)).trans HR3.out
    have hw5 := HW3.out.trans (hb5.mono (by omega))
    have x1' := cell_later hb5 x1
    have hsz5 : gb + 2 ≤ (w4.alloc (.cells #[.string noDef.name, .int .i64 (noDef.obj : Int), .int .i64 (noDef.sym : Int)] 60)).heap.size := Nat.le_trans hsz3 hb5.size
    generalize w4.alloc (.cells #[.string noDef.name, .int .i64 (noDef.obj : Int), .int .i64 (noDef.sym : Int)] 60) = w5 at *
    generalize w4.heap.size = g4 at *
    obtain ⟨⟨r0, r1, r2⟩, r3, r4, r5⟩ := three_cells _ _ _ _ _ _ hR4
    have hst := set_three (.int .i64 0) (.int .i64 0) (.int .i64 0) (by omega : gb ≤ gb + 1) hR4
    have HST := Lib.hid hst
    have HW5 := Lib.hid hw5
    clear hst hw5 hR4 hb4 hb5 x0 x1 x2 x3 x4 x5 a0 a1
    cases hb2 : (x'.bind == 2) with
    | true =>
     have hE : Hid (r = (⟨0, 0, 0⟩, 0)) := Lib.hid (by rw [HR3'.out, hb2]; rfl)
     go_wp2_with fail
     exact nwhere_end (x := ⟨0, 0, 0⟩) (n := 0) (by rfl) (by rfl) HGB.out HST.out.1 (HW5.out.trans (HST.out.2.below (by omega))) hE.out rfl
    | false =>
     have hE : Hid (r = (⟨0, 0, 0⟩, 4)) := Lib.hid (by rw [HR3'.out, hb2]; rfl)
     go_wp2_with fail
     exact nwhere_end (x := ⟨0, 0, 0⟩) (n := 4) (by rfl) (by rfl) HGB.out HST.out.1 (HW5.out.trans (HST.out.2.below (by omega))) hE.out rfl
   | some d =>
    obtain ⟨ob2, y, hob2, hy2, hdf, hyn9⟩ := findIn_sym hfi
    clear hyn9
    rw [hfi] at hr3 HFX
    simp only [Option.getD_some, Option.isSome_some] at HFX
    have hsy2 : symAt2 l d.obj d.sym = some y := by unfold symAt2; rw [hob2]; exact hy2
    simp only [hsy2] at hr3
    rw [place_own hdf] at hr3
    have hE : Hid (r = (placeB y (d.obj : Int), 0)) := Lib.hid hr3
    have HIY := Lib.hid (isSym_yes hob2 hy2)
    have HOB2 := Lib.hid hob2
    have HY2 := Lib.hid hy2
    clear hr3 hfi hfe hob2 hy2 hdf hsy2
    go_upto_region 9 with (first | (go_at_call 23; refine HFX.out.mono ?_; rintro e w4 ⟨rfl, hb4⟩) | fail)
    have hb5 : Below w3.heap.size w3 (w4.alloc (.cells #[.string d.name, .int .i64 (d.obj : Int), .int .i64 (d.sym : Int)] 60)) := hb4.alloc hb4.size _
    obtain ⟨⟨d0, d1, d2⟩, _⟩ := three_cells _ _ _ _ _ _ (heap_alloc_new w4 (.cells #[.string d.name, .int .i64 (d.obj : Int), .int .i64 (d.sym : Int)] 60))
    have hR4 := (hb5.block (gb + 1) (by omega)).trans HR3.out
    have hw5 := HW3.out.trans (hb5.mono (by omega))
    have hsz5 : gb + 2 ≤ (w4.alloc (.cells #[.string d.name, .int .i64 (d.obj : Int), .int .i64 (d.sym : Int)] 60)).heap.size := Nat.le_trans hsz3 hb5.size
    generalize w4.alloc (.cells #[.string d.name, .int .i64 (d.obj : Int), .int .i64 (d.sym : Int)] 60) = w5 at *
    generalize w4.heap.size = g4 at *
    have his5 := HIS.out w5 (by first | exact hw5 | (rw [HGB.out]; exact hw5)) (d.obj : Int) (d.sym : Int)
    rw [HIY.out] at his5
    have HIS5 := Lib.hid his5
    have HR4 := Lib.hid hR4
    have HW5 := Lib.hid hw5
    clear his5 hR4 hw5 hb4 hb5 x0 x1 x2 x3 x4 x5 a0 a1 hJ hJ0 hJ' hJ2 hK hK0
    go_wp2_with fail
    refine HIS5.out.mono ?_
    rintro e w6 ⟨rfl, hb6⟩
    have hR6 := (hb6.block (gb + 1) (by omega)).trans HR4.out
    have hw6 := HW5.out.trans (hb6.mono (by omega))
    have hsz6 : gb + 2 ≤ w6.heap.size := Nat.le_trans hsz5 hb6.size
    have d0' := cell_later hb6 d0
    have d1' := cell_later hb6 d1
    have d2' := cell_later hb6 d2
    obtain ⟨b, off, p0, p1, p2, p4, c0, c1, c2, c4, hpe, e0, e1, e2, _, _, _, hsy, _, _, _⟩ := objs_at (HH.out.below EObj.keeps (show Below w.heap.size w w6 by rw [HGB.out]; exact hw6)) HOB2.out
    cases hpe
    have hyl : d.sym < ob2.syms.length := (List.getElem?_eq_some_iff.1 HY2.out).1
    obtain ⟨b1, off1, y', hpe1, hy', ⟨f0, _⟩, ⟨f1, _⟩, ⟨f2, _⟩, ⟨f3, _⟩, ⟨f4, _⟩, ⟨f5, _⟩⟩ := hsy.at_ hyl
    subst hpe1
    obtain rfl : y' = y := by rw [HY2.out] at hy'; cases hy'; rfl
    have hdl : d.obj < ln := by rw [← HLN.out]; exact (List.getElem?_eq_some_iff.1 HOB2.out).1
    have hyb2 := (HOK.out ob2 (List.mem_of_getElem? HOB2.out)).few.2.1
    generalize ob2.syms.length = yn2 at *
    have hM : (d.obj : Int) < (ln : Int) := by omega
    have hM0 : (0 : Int) ≤ (d.obj : Int) := by omega
    have hM1 : ¬ (ln : Int) ≤ (d.obj : Int) := by omega
    have hM2 : ¬ (d.obj : Int) < 0 := by omega
    have hN : (d.sym : Int) < (yn2 : Int) := by omega
    have hN0 : (0 : Int) ≤ (d.sym : Int) := by omega
    have hN1 : ¬ (yn2 : Int) ≤ (d.sym : Int) := by omega
    have hN2 : ¬ (d.sym : Int) < 0 := by omega
    have HPX := Lib.hid fun W => HPL.out W y' (d.obj : Int)
    generalize placeB y' (d.obj : Int) = pl at *
    have HR6 := Lib.hid hR6
    have HW6 := Lib.hid hw6
    clear hR6 hw6 hb6 d0 d1 d2 hy' hsy e0 e2 hdl hyl
    go_upto_region 10 with fail
    go_still_tail 12, (by kernel_rfl)
    go_wp2_with fail
    refine (HPX.out _).mono ?_
    rintro e w7 ⟨rfl, hb7⟩
    have hb7' : Below w6.heap.size w6 w7 := ((Below.refl _ w6).drew).trans hb7
    have hR7 := (hb7'.block (gb + 1) (by omega)).trans HR6.out
    have hw7 := HW6.out.trans (hb7'.mono (by omega))
    have hsz7 : gb + 2 ≤ w7.heap.size := Nat.le_trans hsz6 hb7'.size
    obtain ⟨⟨r0, r1, r2⟩, r3, r4, r5⟩ := three_cells _ _ _ _ _ _ hR7
    have hst := set_three (.int .i64 pl.obj) (.int .i64 pl.sec) (.int .i64 pl.at_) (by omega : gb ≤ gb + 1) hR7
    have HST := Lib.hid hst
    have HW7 := Lib.hid hw7
    clear hst hR7 hw7 hb7 hb7' d0' d1' d2' e1 f0 f1 f2 f3 f4 f5
    go_wp2_with fail
    exact nwhere_end (x := pl) (n := 0) (by rfl) (by rfl) HGB.out HST.out.1 (HW7.out.trans (HST.out.2.below (by omega))) hE.out rfl
end Go.Proofs.YteopgmieindojaaGreat

namespace Go.Proofs.YteopgmieindojaaGreat
open Go.RowKit
def SctsOK (l : List ObjD) (D : List (List Bool)) (S : List (List SctD)) : Prop := ∀ (i k : Nat) (o : ObjD) (s : SecD), l[i]? = some o → o.secs[k]? = some s → ∃ row x n, S[i]? = some row ∧ row[k]? = some x ∧ x.pcs = pcsAt D (i, k, s) ∧ PcsOK x.pcs n ∧ (0 ≤ x.first ∧ x.first ≤ 1000000000000) ∧ (x.pcs ≠ [] → x.first = (firstB l D i k : Int)) ∧ k ≤ 1000
abbrev edgeCs (x : EdgeD) : Array Value := #[.int .i64 x.off, .int .i64 x.type, .int .i64 x.add, .int .i64 x.to_, .int .i64 x.at_]
theorem findB_eq {l : List ObjD} {D : List (List Bool)} {i k : Nat} {at_ : Int} {o : ObjD} {s : SecD} {x : SctD} (hi : l[i]? = some o) (hk : o.secs[k]? = some s) (hp : x.pcs = pcsAt D (i, k, s)) (hf : x.pcs ≠ [] → x.first = (firstB l D i k : Int)) : findB l D ⟨(i : Int), (k : Int) + 1, at_⟩ = findPc x.pcs x.first.toNat at_ := by
 have e1 : obAt l i = o := by unfold obAt; rw [hi]; rfl
 unfold findB
 rw [if_neg (by simp only; omega)]
 simp only [Int.toNat_natCast, show ((k : Int) + 1 - 1).toNat = k by omega]
 rw [e1, hk]
 simp only
 rw [← hp]
 by_cases he : x.pcs = []
 ·rw [he]
  unfold findPc
  simp [inP, inStep]
 ·rw [hf he, Int.toNat_natCast]
theorem set_five {w : World} {g N : Nat} {v0 v1 v2 v3 v4 : Value} {T : TypeId} (u0 u1 u2 u3 u4 : Value) (hN : N ≤ g) (h : w.heap[g]? = some (.cells #[v0, v1, v2, v3, v4] T (0, 0))) :
  (((((w.setCell ⟨g, 0, none⟩ u0).setCell ⟨g, 1, none⟩ u1).setCell ⟨g, 2, none⟩ u2).setCell ⟨g, 3, none⟩ u3).setCell ⟨g, 4, none⟩ u4).heap[g]? = some (.cells #[u0, u1, u2, u3, u4] T (0, 0)) ∧ FrT N [T] w (((((w.setCell ⟨g, 0, none⟩ u0).setCell ⟨g, 1, none⟩ u1).setCell ⟨g, 2, none⟩ u2).setCell ⟨g, 3, none⟩ u3).setCell ⟨g, 4, none⟩ u4) := by
 have h0 := heap_setCell_same w g 0 _ _ u0 h
 have h1 := heap_setCell_same _ g 1 _ _ u1 h0
 have h2 := heap_setCell_same _ g 2 _ _ u2 h1
 have h3 := heap_setCell_same _ g 3 _ _ u3 h2
 have h4 := heap_setCell_same _ g 4 _ _ u4 h3
 exact ⟨h4, ((((FrT.set h (by simp) hN _).trans (FrT.set h0 (by simp) hN _)).trans (FrT.set h1 (by simp) hN _)).trans (FrT.set h2 (by simp) hN _)).trans (FrT.set h3 (by simp) hN _)⟩
theorem cells4q (w : World) (g : Nat) (v0 v1 v2 v3 : Value) (T : TypeId) (h : w.heap[g]? = some (.cells #[v0, v1, v2, v3] T (0, 0))) : w.cell? ⟨g, 0, none⟩ = some v0 ∧ w.cell? ⟨g, 1, none⟩ = some v1 ∧ w.cell? ⟨g, 2, none⟩ = some v2 ∧ w.cell? ⟨g, 3, none⟩ = some v3 := by
 refine ⟨?_, ?_, ?_, ?_⟩
 all_goals exact (cell_of_row w g _ _ _ (0, 0) h).trans rfl
theorem results_edge {fn : Func} {p u : Tmp} (h : fn.results = #[.cell p 92, .tmp u]) (tmps : Array Value) (w : World) (g : Nat) (v0 v1 v2 v3 v4 b : Value) (hp : tmps.getD p undef = .pointer (some ⟨g, 0, none⟩)) (hu : tmps.getD u undef = b)
  (hg : w.heap[g]? = some (.cells #[v0, v1, v2, v3, v4] 92 (0, 0))) : (results fn tmps).run Tryz.prog w = .ok (.tuple #[.agg #[v0, v1, v2, v3, v4], b]) w := by
 obtain ⟨⟨r0, r1, r2, r3, r4⟩, _⟩ := cells5 _ _ _ _ _ _ _ _ hg
 rw [results_cell_tmp h, hp, hu]
 go_simp
set_option maxRecDepth 100000 in
set_option maxHeartbeats 8000000 in
theorem gEdge_any (HPF : PFindOK) (po pd pf ps : Option Addr) (co nd cd nf cf cs i : Nat) (l : List ObjD) (D : List (List Bool)) (S : List (List SctD)) (r : RelD) (w : World)
    (hW : ∀ W, Below w.heap.size w W → Calls Tryz.prog 25 #[.slice po l.length co, .agg #[.slice pd nd cd, .slice pf nf cf], .int .i64 (i : Int), .int .i64 r.sym] W (GivesNPl (whereB l D i r.sym) W)) (hS : HasL 1 EScts w ps S) (hok : SctsOK l D S) (hpl : PlaceOK l (whereB l D i r.sym).1) :
    Calls Tryz.prog 198 #[.agg #[.slice po l.length co, .slice pd nd cd, .slice pf nf cf, .slice ps S.length cs], .int .i64 (i : Int), .agg #[.int .i64 r.off, .int .i64 r.type, .int .i64 r.sym, .int .i64 r.add]] w fun e w' => e = .returned (.tuple #[.agg (edgeCs (edgeB l D i r).1), errV (edgeB l D i r).2]) ∧ Below w.heap.size w w' := by
  obtain ⟨⟨P0, P1, P2⟩, cd1, hwb⟩ : ∃ (P : PlaceD) (n : Int), whereB l D i r.sym = (P, n) := ⟨_, _, rfl⟩
  obtain ⟨⟨E0, E1, E2, E3, E4⟩, en, heb⟩ : ∃ (E : EdgeD) (n : Int), edgeB l D i r = (E, n) := ⟨_, _, rfl⟩
  have hE : (⟨E0, E1, E2, E3, E4⟩, en) = (if cd1 ≠ 0 then (eZ, cd1) else if P1 < 1 then (⟨r.off, r.type, r.add, -1, P2⟩, 0) else match findB l D ⟨P0, P1, P2⟩ with
      | none => (eZ, 6)
      | some t => (⟨r.off, r.type, r.add, t.1, t.2⟩, 0)) := by rw [← heb]; unfold edgeB; rw [hwb]; rfl
  rw [hwb] at hW hpl
  rw [heb]
  have HE := Lib.hid hE
  have HW := Lib.hid hW
  have HS := Lib.hid fun W (hW : Below w.heap.size w W) => hS.below EScts.keeps hW
  have HPL := Lib.hid hpl
  have HOK := Lib.hid hok
  obtain ⟨r0, r1, r2, r3⟩ := r
  have hw0 : Below w.heap.size w (((w.alloc (.cells #[.slice po l.length co, .slice pd nd cd, .slice pf nf cf, .slice ps S.length cs] 154)).alloc (.cells #[.int .i64 r0, .int .i64 r1, .int .i64 r2, .int .i64 r3] 94)).alloc (.cells (edgeCs eZ) 92)) := (((Below.refl _ w).alloc (Nat.le_refl _) _).alloc (by simp) _).alloc (by simp; omega) _
  have hB : (((w.alloc (.cells #[.slice po l.length co, .slice pd nd cd, .slice pf nf cf, .slice ps S.length cs] 154)).alloc (.cells #[.int .i64 r0, .int .i64 r1, .int .i64 r2, .int .i64 r3] 94)).alloc (.cells (edgeCs eZ) 92)).heap[w.heap.size]? = some (.cells #[.slice po l.length co, .slice pd nd cd, .slice pf nf cf, .slice ps S.length cs] 154 (0, 0)) := by
    rw [Below.heap_alloc _ _ _ (by simp; omega), Below.heap_alloc _ _ _ (by simp)]; exact heap_alloc_new w _
  have hR : (((w.alloc (.cells #[.slice po l.length co, .slice pd nd cd, .slice pf nf cf, .slice ps S.length cs] 154)).alloc (.cells #[.int .i64 r0, .int .i64 r1, .int .i64 r2, .int .i64 r3] 94)).alloc (.cells (edgeCs eZ) 92)).heap[w.heap.size + 1]? = some (.cells #[.int .i64 r0, .int .i64 r1, .int .i64 r2, .int .i64 r3] 94 (0, 0)) := by
    rw [Below.heap_alloc _ _ _ (by simp)]
    have := heap_alloc_new (w.alloc (.cells #[.slice po l.length co, .slice pd nd cd, .slice pf nf cf, .slice ps S.length cs] 154)) (.cells #[.int .i64 r0, .int .i64 r1, .int .i64 r2, .int .i64 r3] 94)
    simpa using this
  have hZ : (((w.alloc (.cells #[.slice po l.length co, .slice pd nd cd, .slice pf nf cf, .slice ps S.length cs] 154)).alloc (.cells #[.int .i64 r0, .int .i64 r1, .int .i64 r2, .int .i64 r3] 94)).alloc (.cells (edgeCs eZ) 92)).heap[w.heap.size + 1 + 1]? = some (.cells (edgeCs eZ) 92 (0, 0)) := by
    have := heap_alloc_new ((w.alloc (.cells #[.slice po l.length co, .slice pd nd cd, .slice pf nf cf, .slice ps S.length cs] 154)).alloc (.cells #[.int .i64 r0, .int .i64 r1, .int .i64 r2, .int .i64 r3] 94)) (.cells (edgeCs eZ) 92)
    simpa using this
  obtain ⟨gb, hgb⟩ : ∃ gb, gb = w.heap.size := ⟨_, rfl⟩
  have HGB := Lib.hid hgb
  clear hE hW hS hpl hok heb hwb
  go_enter Tryz.func198, Tryz.ntmps198
  go_upto_region 1 with fail
  generalize (((w.alloc (.cells #[.slice po l.length co, .slice pd nd cd, .slice pf nf cf, .slice ps S.length cs] 154)).alloc (.cells #[.int .i64 r0, .int .i64 r1, .int .i64 r2, .int .i64 r3] 94)).alloc (.cells (edgeCs eZ) 92)) = w3 at *
  rw [← hgb] at hB hR hZ hw0 ⊢
  obtain ⟨x0, x1, x2, x3⟩ := cells4q _ _ _ _ _ _ _ hR
  have HW0 := Lib.hid hw0
  have HB := Lib.hid hB
  have HR := Lib.hid hR
  have HZ := Lib.hid hZ
  clear hB hR hZ hw0 hgb
  go_upto_region 2 with fail
  have hE3 := heap_alloc_new w3 (.cells #[.int .i64 r0, .int .i64 r1, .int .i64 r3, .int .i64 0, .int .i64 0] 92)
  have hb34 : Below w3.heap.size w3 (w3.alloc (.cells #[.int .i64 r0, .int .i64 r1, .int .i64 r3, .int .i64 0, .int .i64 0] 92)) := (Below.refl _ w3).alloc (Nat.le_refl _) _
  generalize w3.alloc (.cells #[.int .i64 r0, .int .i64 r1, .int .i64 r3, .int .i64 0, .int .i64 0] 92) = w4 at *
  have hB4 := (hb34.block gb (Array.getElem?_eq_some_iff.1 HB.out).1).trans HB.out
  have hR4 := (hb34.block (gb + 1) (Array.getElem?_eq_some_iff.1 HR.out).1).trans HR.out
  have hZ4 := (hb34.block (gb + 1 + 1) (Array.getElem?_eq_some_iff.1 HZ.out).1).trans HZ.out
  have hg3 : gb + 1 + 1 < w3.heap.size := (Array.getElem?_eq_some_iff.1 HZ.out).1
  have HW4 := Lib.hid (HW0.out.trans (hb34.mono (by omega)))
  generalize w3.heap.size = g3 at *
  obtain ⟨y0, y1, y2, y3⟩ := cells4q _ _ _ _ _ _ _ hB4
  obtain ⟨z0, z1, z2, z3⟩ := cells4q _ _ _ _ _ _ _ hR4
  have HE4 := Lib.hid hE3
  have HB4 := Lib.hid hB4
  have HZ4 := Lib.hid hZ4
  have hwh := HW.out w4 (by rw [← HGB.out]; exact HW4.out)
  clear x0 x1 x2 x3 hE3 hB4 hR4 hZ4 hb34
  by_cases hc : cd1 = 0
  · subst hc
    have HWX : Hid (Calls Tryz.prog 25 #[.slice po l.length co, .agg #[.slice pd nd cd, .slice pf nf cf], .int .i64 (i : Int), .int .i64 r2] w4 fun e w' => e = .returned (.tuple #[.agg #[.int .i64 P0, .int .i64 P1, .int .i64 P2], .nilIface]) ∧ Below w4.heap.size w4 w') := Lib.hid hwh
    clear hwh
    go_upto_region 3 with (first | (go_at_call 25
                                    refine HWX.out.mono ?_
                                    rintro e w5 ⟨rfl, hb5⟩) | fail)
    have hP := heap_alloc_new w5 (.cells #[.int .i64 P0, .int .i64 P1, .int .i64 P2] 67)
    have hb46 : Below w4.heap.size w4 (w5.alloc (.cells #[.int .i64 P0, .int .i64 P1, .int .i64 P2] 67)) := hb5.alloc hb5.size _
    generalize w5.alloc (.cells #[.int .i64 P0, .int .i64 P1, .int .i64 P2] 67) = w6 at *
    generalize w5.heap.size = g5 at *
    have hE6 := (hb46.block g3 (Array.getElem?_eq_some_iff.1 HE4.out).1).trans HE4.out
    have hZ6 := (hb46.block (gb + 1 + 1) (Array.getElem?_eq_some_iff.1 HZ4.out).1).trans HZ4.out
    have hB6 := (hb46.block gb (Array.getElem?_eq_some_iff.1 HB4.out).1).trans HB4.out
    have hb6 : Below gb w w6 := HW4.out.trans (hb46.mono (by have := (Array.getElem?_eq_some_iff.1 HB4.out).1; omega))
    obtain ⟨d0, d1, d2⟩ : w6.cell? ⟨g5, 0, none⟩ = some (.int .i64 P0) ∧ w6.cell? ⟨g5, 1, none⟩ = some (.int .i64 P1) ∧ w6.cell? ⟨g5, 2, none⟩ = some (.int .i64 P2) := by
      obtain ⟨⟨d0, d1, d2⟩, _⟩ := three_cells _ _ _ _ _ _ hP
      exact ⟨d0, d1, d2⟩
    have HE6 := Lib.hid hE6
    have HZ6 := Lib.hid hZ6
    have HB6c := Lib.hid hB6
    have HB6 := Lib.hid hb6
    have HP6 := Lib.hid hP
    clear y0 y1 y2 y3 z0 z1 z2 z3 hE6 hZ6 hB6 hb46 hb6 hP
    rcases HPL.out.2 with hp0 | ⟨pi, pk, po_, ps_, hpe, hpi, hpk⟩
    · have hp0' : P1 = 0 := hp0
      subst hp0'
      have hEn : Hid ((⟨E0, E1, E2, E3, E4⟩ : EdgeD) = ⟨r0, r1, r3, -1, P2⟩ ∧ en = 0) := Lib.hid (by
        have := HE.out
        rw [if_neg (by omega), if_pos (by omega)] at this
        exact Prod.mk.inj this)
      skip
      have k := HE6.out
      obtain ⟨⟨k0, k1, k2, k3, k4⟩, f0, f1, f2, f3, f4⟩ := cells5 _ _ _ _ _ _ _ _ k
      clear k
      have hne : g5 ≠ g3 := fun e => by
        have h1 := HP6.out
        rw [e, HE6.out] at h1
        simp at h1
      have hst : ∀ (W : World) (j : Nat) (v : Value), W.heap[g5]? = some (.cells #[.int .i64 P0, .int .i64 0, .int .i64 P2] 67 (0, 0)) → (W.setCell ⟨g3, j, none⟩ v).heap[g5]? = some (.cells #[.int .i64 P0, .int .i64 0, .int .i64 P2] 67 (0, 0)) := fun W j v h => (heap_setCell_other W ⟨g3, j, none⟩ g5 v hne).trans h
      have hcl : ∀ (W : World), W.heap[g5]? = some (.cells #[.int .i64 P0, .int .i64 0, .int .i64 P2] 67 (0, 0)) → W.cell? ⟨g5, 2, none⟩ = some (.int .i64 P2) := fun W h => (cell_of_row W g5 2 _ _ (0, 0) h).trans rfl
      have HST6 := Lib.hid hst
      have HCL6 := Lib.hid hcl
      clear hst hcl
      have e3 : (w6.setCell ⟨g3, 3, none⟩ (.int .i64 (-1))).drew.cell? ⟨g5, 2, none⟩ = some (.int .i64 P2) := HCL6.out _ (show (w6.setCell ⟨g3, 3, none⟩ (.int .i64 (-1))).heap[g5]? = _ from (HST6.out w6 3 (.int .i64 (-1)) HP6.out))
      have e4 : (w6.setCell ⟨g3, 4, none⟩ (.int .i64 P2)).drew.cell? ⟨g5, 2, none⟩ = some (.int .i64 P2) := HCL6.out _ (show (w6.setCell ⟨g3, 4, none⟩ (.int .i64 P2)).heap[g5]? = _ from (HST6.out w6 4 (.int .i64 P2) HP6.out))
      have e34 : ((w6.setCell ⟨g3, 3, none⟩ (.int .i64 (-1))).setCell ⟨g3, 4, none⟩ (.int .i64 P2)).drew.cell? ⟨g5, 2, none⟩ = some (.int .i64 P2) := HCL6.out _ (show ((w6.setCell ⟨g3, 3, none⟩ (.int .i64 (-1))).setCell ⟨g3, 4, none⟩ (.int .i64 P2)).heap[g5]? = _ from (HST6.out ((w6.setCell ⟨g3, 3, none⟩ (.int .i64 (-1)))) 4 (.int .i64 P2) (HST6.out w6 3 (.int .i64 (-1)) HP6.out)))
      have e43 : ((w6.setCell ⟨g3, 4, none⟩ (.int .i64 P2)).setCell ⟨g3, 3, none⟩ (.int .i64 (-1))).drew.cell? ⟨g5, 2, none⟩ = some (.int .i64 P2) := HCL6.out _ (show ((w6.setCell ⟨g3, 4, none⟩ (.int .i64 P2)).setCell ⟨g3, 3, none⟩ (.int .i64 (-1))).heap[g5]? = _ from (HST6.out ((w6.setCell ⟨g3, 4, none⟩ (.int .i64 P2))) 3 (.int .i64 (-1)) (HST6.out w6 4 (.int .i64 P2) HP6.out)))
      go_upto_region 6 with fail
      go_cut [] (fun wx => wx.heap[g3]? = some (.cells #[.int .i64 r0, .int .i64 r1, .int .i64 r3, .int .i64 (-1), .int .i64 P2] 92 (0, 0)) ∧ wx.heap[gb + 1 + 1]? = some (.cells (edgeCs eZ) 92 (0, 0)) ∧ Below gb w wx)
      case first =>
        go_region_held (fun W => W.cell? ⟨g5, 2, none⟩ = some (.int .i64 P2)) (first | exact d2 | go_keep | exact e3 | exact e4 | exact e34 | exact e43 | fail) (fail)
        all_goals go_wp2_with fail
        all_goals go_meet
        all_goals exact ⟨heap_setCell_same _ g3 4 _ _ (.int .i64 P2) (heap_setCell_same w6 g3 3 _ _ (.int .i64 (-1)) HE6.out), (heap_setCell_other _ ⟨g3, 4, none⟩ _ _ (show gb + 1 + 1 ≠ g3 by omega)).trans ((heap_setCell_other w6 ⟨g3, 3, none⟩ _ _ (show gb + 1 + 1 ≠ g3 by omega)).trans HZ6.out), ((HB6.out.setCell (by simp only; omega) _).setCell (by simp only; omega) _).drew⟩
      case rest =>
        obtain ⟨he, hz, hbx⟩ := hcut
        obtain ⟨⟨m0, m1, m2, m3, m4⟩, _⟩ := cells5 _ _ _ _ _ _ _ _ he
        obtain ⟨⟨n0, n1, n2, n3, n4⟩, l0, l1, l2, l3, l4⟩ := cells5 _ _ _ _ _ _ _ _ hz
        have hset := set_five (.int .i64 r0) (.int .i64 r1) (.int .i64 r3) (.int .i64 (-1)) (.int .i64 P2) (show gb ≤ gb + 1 + 1 by omega) hz
        have HST := Lib.hid hset
        have HB9 := Lib.hid (hbx.trans (hset.2.below (by have := (Array.getElem?_eq_some_iff.1 hz).1; omega)))
        clear hset he hz hbx k0 k1 k2 k3 k4 f0 f1 f2 f3 f4 d0 d1 d2
        go_wp2_with fail
        rw [hEn.out.1, hEn.out.2]
        exact bodyPost_ret (results_edge rfl _ _ _ _ _ _ _ _ _ (by rfl) (by rfl) HST.out.1) rfl ⟨rfl, by first | exact HB9.out | (rw [← HGB.out]; exact HB9.out)⟩
    · obtain ⟨rfl, rfl⟩ : P0 = (pi : Int) ∧ P1 = (pk : Int) + 1 := by
        simp only [PlaceD.mk.injEq] at hpe
        exact ⟨hpe.1, hpe.2.1⟩
      obtain ⟨row, x, n, hrow, hx, hxp, hxk, hxf, hxe, hkb⟩ := HOK.out pi pk po_ ps_ hpi hpk
      have hfb : findB l D ⟨(pi : Int), (pk : Int) + 1, P2⟩ = findPc x.pcs x.first.toNat P2 := findB_eq hpi hpk hxp hxe
      have hfind := gFind_any HPF po pd pf ps l.length co nd cd nf cf cs pi pk P2 n S row x w6 (HS.out w6 (by rw [← HGB.out]; exact HB6.out)) hrow hx hxk hxf HPL.out.1 hkb
      rw [← hfb] at hfind
      have HEE : Hid ((⟨E0, E1, E2, E3, E4⟩, en) = (match findB l D ⟨(pi : Int), (pk : Int) + 1, P2⟩ with
        | none => (eZ, 6)
        | some t => (⟨r0, r1, r3, t.1, t.2⟩, 0) : EdgeD × Int)) := Lib.hid (by
        have := HE.out
        rw [if_neg (by omega), if_neg (by omega)] at this
        exact this)
      generalize findB l D ⟨(pi : Int), (pk : Int) + 1, P2⟩ = fb at *
      obtain ⟨y0, y1, y2, y3⟩ := cells4q _ _ _ _ _ _ _ HB6c.out
      have j0 : ¬ (pk : Int) + 1 = 0 := by omega
      have j1 : ((pk : Int) + 1 == 0) = false := by simp; omega
      cases fb with
      | none =>
        have hEn : Hid ((⟨E0, E1, E2, E3, E4⟩ : EdgeD) = eZ ∧ en = 6) := Lib.hid (Prod.mk.inj HEE.out)
        have HFD : Hid (Calls Tryz.prog 116 #[.agg #[.slice po l.length co, .slice pd nd cd, .slice pf nf cf, .slice ps S.length cs], .agg #[.int .i64 (pi : Int), .int .i64 ((pk : Int) + 1), .int .i64 P2]] w6 fun e w' => e = .returned (.tuple #[.int .i64 0, .int .i64 0, .bool false]) ∧ Below w6.heap.size w6 w') := Lib.hid hfind
        clear hfind hpe hpi hpk hrow hx hxp hxk hxf hxe hfb
        go_upto_region 9 with fail
        go_upto_region 10 with (first | (go_at_call 116
                                         refine HFD.out.mono ?_
                                         rintro e w7 ⟨rfl, hb7⟩
                                         have hE7 := (hb7.block g3 (Array.getElem?_eq_some_iff.1 HE6.out).1).trans HE6.out
                                         have hZ7 := (hb7.block (gb + 1 + 1) (Array.getElem?_eq_some_iff.1 HZ6.out).1).trans HZ6.out
                                         have hb7w := HB6.out.trans (hb7.mono (by have := (Array.getElem?_eq_some_iff.1 HZ6.out).1; omega))
                                         obtain ⟨⟨k0, k1, k2, k3, k4⟩, f0, f1, f2, f3, f4⟩ := cells5 _ _ _ _ _ _ _ _ hE7) | fail)
        have hset7 := heap_setCell_same _ g3 4 _ _ (.int .i64 0) (heap_setCell_same w7 g3 3 _ _ (.int .i64 0) hE7)
        have hz7 : ((w7.setCell ⟨g3, 3, none⟩ (.int .i64 0)).setCell ⟨g3, 4, none⟩ (.int .i64 0)).heap[gb + 1 + 1]? = some (.cells (edgeCs eZ) 92 (0, 0)) := (heap_setCell_other _ ⟨g3, 4, none⟩ _ _ (show gb + 1 + 1 ≠ g3 by omega)).trans ((heap_setCell_other w7 ⟨g3, 3, none⟩ _ _ (show gb + 1 + 1 ≠ g3 by omega)).trans hZ7)
        have hbx : Below gb w ((w7.setCell ⟨g3, 3, none⟩ (.int .i64 0)).setCell ⟨g3, 4, none⟩ (.int .i64 0)) := (hb7w.setCell (by simp only; omega) _).setCell (by simp only; omega) _
        skip
        generalize (w7.setCell ⟨g3, 3, none⟩ (.int .i64 0)).setCell ⟨g3, 4, none⟩ (.int .i64 0) = w8 at *
        obtain ⟨⟨m0, m1, m2, m3, m4⟩, _⟩ := cells5 _ _ _ _ _ _ _ _ hset7
        obtain ⟨⟨n0, n1, n2, n3, n4⟩, l0, l1, l2, l3, l4⟩ := cells5 _ _ _ _ _ _ _ _ hz7
        have hset := set_five (.int .i64 0) (.int .i64 0) (.int .i64 0) (.int .i64 0) (.int .i64 0) (show gb ≤ gb + 1 + 1 by omega) hz7
        have HST := Lib.hid hset
        have HB9 := Lib.hid (hbx.trans (hset.2.below (by have := (Array.getElem?_eq_some_iff.1 hz7).1; omega)))
        clear hset hset7 hz7 hbx k0 k1 k2 k3 k4 f0 f1 f2 f3 f4 hE7 hZ7 hb7w
        go_wp2_with fail
        rw [hEn.out.1, hEn.out.2]
        exact bodyPost_ret (results_edge rfl _ _ _ _ _ _ _ _ _ (by rfl) (by rfl) HST.out.1) rfl ⟨rfl, by first | exact HB9.out | (rw [← HGB.out]; exact HB9.out)⟩
      | some t =>
        have hEn : Hid ((⟨E0, E1, E2, E3, E4⟩ : EdgeD) = ⟨r0, r1, r3, t.1, t.2⟩ ∧ en = 0) := Lib.hid (Prod.mk.inj HEE.out)
        have HFD : Hid (Calls Tryz.prog 116 #[.agg #[.slice po l.length co, .slice pd nd cd, .slice pf nf cf, .slice ps S.length cs], .agg #[.int .i64 (pi : Int), .int .i64 ((pk : Int) + 1), .int .i64 P2]] w6 fun e w' => e = .returned (.tuple #[.int .i64 t.1, .int .i64 t.2, .bool true]) ∧ Below w6.heap.size w6 w') := Lib.hid hfind
        clear hfind hpe hpi hpk hrow hx hxp hxk hxf hxe hfb
        go_upto_region 9 with fail
        go_upto_region 10 with (first | (go_at_call 116
                                         refine HFD.out.mono ?_
                                         rintro e w7 ⟨rfl, hb7⟩
                                         have hE7 := (hb7.block g3 (Array.getElem?_eq_some_iff.1 HE6.out).1).trans HE6.out
                                         have hZ7 := (hb7.block (gb + 1 + 1) (Array.getElem?_eq_some_iff.1 HZ6.out).1).trans HZ6.out
                                         have hb7w := HB6.out.trans (hb7.mono (by have := (Array.getElem?_eq_some_iff.1 HZ6.out).1; omega))
                                         obtain ⟨⟨k0, k1, k2, k3, k4⟩, f0, f1, f2, f3, f4⟩ := cells5 _ _ _ _ _ _ _ _ hE7) | fail)
        have hset7 := heap_setCell_same _ g3 4 _ _ (.int .i64 t.2) (heap_setCell_same w7 g3 3 _ _ (.int .i64 t.1) hE7)
        have hz7 : ((w7.setCell ⟨g3, 3, none⟩ (.int .i64 t.1)).setCell ⟨g3, 4, none⟩ (.int .i64 t.2)).heap[gb + 1 + 1]? = some (.cells (edgeCs eZ) 92 (0, 0)) := (heap_setCell_other _ ⟨g3, 4, none⟩ _ _ (show gb + 1 + 1 ≠ g3 by omega)).trans ((heap_setCell_other w7 ⟨g3, 3, none⟩ _ _ (show gb + 1 + 1 ≠ g3 by omega)).trans hZ7)
        have hbx : Below gb w ((w7.setCell ⟨g3, 3, none⟩ (.int .i64 t.1)).setCell ⟨g3, 4, none⟩ (.int .i64 t.2)) := (hb7w.setCell (by simp only; omega) _).setCell (by simp only; omega) _
        skip
        generalize (w7.setCell ⟨g3, 3, none⟩ (.int .i64 t.1)).setCell ⟨g3, 4, none⟩ (.int .i64 t.2) = w8 at *
        obtain ⟨⟨m0, m1, m2, m3, m4⟩, _⟩ := cells5 _ _ _ _ _ _ _ _ hset7
        obtain ⟨⟨n0, n1, n2, n3, n4⟩, l0, l1, l2, l3, l4⟩ := cells5 _ _ _ _ _ _ _ _ hz7
        have hset := set_five (.int .i64 r0) (.int .i64 r1) (.int .i64 r3) (.int .i64 t.1) (.int .i64 t.2) (show gb ≤ gb + 1 + 1 by omega) hz7
        have HST := Lib.hid hset
        have HB9 := Lib.hid (hbx.trans (hset.2.below (by have := (Array.getElem?_eq_some_iff.1 hz7).1; omega)))
        clear hset hset7 hz7 hbx k0 k1 k2 k3 k4 f0 f1 f2 f3 f4 hE7 hZ7 hb7w
        go_wp2_with fail
        rw [hEn.out.1, hEn.out.2]
        exact bodyPost_ret (results_edge rfl _ _ _ _ _ _ _ _ _ (by rfl) (by rfl) HST.out.1) rfl ⟨rfl, by first | exact HB9.out | (rw [← HGB.out]; exact HB9.out)⟩
  · have HWX : Hid (Calls Tryz.prog 25 #[.slice po l.length co, .agg #[.slice pd nd cd, .slice pf nf cf], .int .i64 (i : Int), .int .i64 r2] w4 fun e w' => e = .returned (.tuple #[.agg #[.int .i64 P0, .int .i64 P1, .int .i64 P2], .iface 36 (.int .i64 cd1)]) ∧ Below w4.heap.size w4 w') := Lib.hid (hwh.mono fun e w' ⟨h1, h2⟩ => ⟨by rw [h1]; unfold errV; rw [if_neg hc], h2⟩)
    have hEn : Hid ((⟨E0, E1, E2, E3, E4⟩ : EdgeD) = eZ ∧ en = cd1) := Lib.hid (by
      have := HE.out
      rw [if_pos hc] at this
      exact Prod.mk.inj this)
    clear hwh
    go_upto_region 3 with (first | (go_at_call 25
                                    refine HWX.out.mono ?_
                                    rintro e w5 ⟨rfl, hb5⟩) | fail)
    have hP := heap_alloc_new w5 (.cells #[.int .i64 P0, .int .i64 P1, .int .i64 P2] 67)
    have hb46 : Below w4.heap.size w4 (w5.alloc (.cells #[.int .i64 P0, .int .i64 P1, .int .i64 P2] 67)) := hb5.alloc hb5.size _
    generalize w5.alloc (.cells #[.int .i64 P0, .int .i64 P1, .int .i64 P2] 67) = w6 at *
    generalize w5.heap.size = g5 at *
    have hE6 := (hb46.block g3 (Array.getElem?_eq_some_iff.1 HE4.out).1).trans HE4.out
    have hZ6 := (hb46.block (gb + 1 + 1) (Array.getElem?_eq_some_iff.1 HZ4.out).1).trans HZ4.out
    have hB6 := (hb46.block gb (Array.getElem?_eq_some_iff.1 HB4.out).1).trans HB4.out
    have hb6 : Below gb w w6 := HW4.out.trans (hb46.mono (by have := (Array.getElem?_eq_some_iff.1 HB4.out).1; omega))
    have hset := set_five (.int .i64 0) (.int .i64 0) (.int .i64 0) (.int .i64 0) (.int .i64 0) (show gb ≤ gb + 1 + 1 by omega) hZ6
    obtain ⟨⟨k0, k1, k2, k3, k4⟩, f0, f1, f2, f3, f4⟩ := cells5 _ _ _ _ _ _ _ _ hZ6
    have HST := Lib.hid hset
    have HB6 := Lib.hid hb6
    clear hset y0 y1 y2 y3 z0 z1 z2 z3 hE6 hZ6 hB6 hb46 hb6
    go_wp2_with fail
    rw [hEn.out.1, hEn.out.2]
    exact bodyPost_ret (results_edge rfl _ _ _ _ _ _ _ _ _ (by rfl) (by rfl) HST.out.1) rfl ⟨by unfold errV; rw [if_neg hc]; rfl, by first | exact HB6.out.trans (HST.out.2.below (by have := HB6.out.size; omega)) | (rw [← HGB.out]; exact HB6.out.trans (HST.out.2.below (by have := HB6.out.size; rw [← HGB.out] at this; omega)))⟩
end Go.Proofs.YteopgmieindojaaGreat

namespace Go.Proofs.YteopgmieindojaaGreat
open Go.RowKit
theorem allTo_len {α : Type} {f : ObjD → List α} {l : List ObjD} {M : Nat} (h : ∀ o ∈ l, (f o).length ≤ M) : ∀ n, (allTo f l n).length ≤ n * M
 | 0 => by simp [allTo]
 | n + 1 => by
  have ih := allTo_len h n
  unfold allTo
  rw [List.length_append, Nat.succ_mul]
  cases ho : l[n]? with
  | none => simp; omega
  | some o =>
   simp only
   rw [tagged_length]
   have := h o (List.mem_of_getElem? ho)
   omega
theorem group_step {l : List ObjD} {i k : Nat} {o : ObjD} {n : Int} {g : GroupD} (hg : o.groups[k]? = some g) : groupTo l i o n (k + 1) = bif g.members.contains n then ((allTo ObjD.groups l i).length : Int) + (k : Int) + 1 else groupTo l i o n k := by
 conv => lhs; unfold groupTo
 rw [hg]
end Go.Proofs.YteopgmieindojaaGreat
