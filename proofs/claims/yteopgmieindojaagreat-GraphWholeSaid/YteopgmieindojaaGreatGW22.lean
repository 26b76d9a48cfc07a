/-
  Parts of a proof.
-/
import Derived.Test.YteopgmieindojaaGreatGW21
import Derived.Test.YteopgmieindojaaGreatGW07
import Derived.Test.YteopgmieindojaaGreatGW08
import Derived.Test.YteopgmieindojaaGreatGW02
namespace Go.Proofs.YteopgmieindojaaGreat
open Go.RowKit
theorem ownStep_len {D : List (List Bool)} {b : DefD → Int} {x : Sy} {m m' : List DefD} (h : ownStep D b x m = some m') : m'.length ≤ m.length + 1 := by
 unfold ownStep at h
 cases hd : definesB x.2.2 (drAt D x.1) with
 | false => rw [hd] at h; cases h; omega
 | true =>
  rw [hd] at h
  simp only [cond_true] at h
  cases hf : m.find? (fun e => sEq e.name x.2.2.name) with
  | none => rw [hf] at h; cases h; simp
  | some d =>
   rw [hf] at h
   simp only at h
   cases h1 : (b d == 1 && x.2.2.bind == 1) with
   | true => rw [h1] at h; cases h
   | false =>
    rw [h1] at h
    simp only [cond_false] at h
    cases h2 : (x.2.2.bind == 1) with
    | true => rw [h2] at h; cases h; simp
    | false => rw [h2] at h; cases h; omega
theorem ownGo_len {D : List (List Bool)} {b : DefD → Int} : ∀ {xs : List Sy} {m m' : List DefD}, ownGo D b xs m = some m' → m'.length ≤ m.length + xs.length
 | [], m, m', h => by cases h; simp
 | x :: xs, m, m', h => by
  have h : (match ownStep D b x m with | none => none | some m1 => ownGo D b xs m1) = some m' := h
  cases hs : ownStep D b x m with
  | none => rw [hs] at h; cases h
  | some m1 =>
   rw [hs] at h
   have h1 := ownStep_len hs
   have h2 := ownGo_len h
   simp only [List.length_cons]
   omega
theorem all_len {l : List ObjD} (hok : ∀ o ∈ l, OkD o) : ∀ n, (allTo ObjD.syms l n).length ≤ 1000 * n
 | 0 => Nat.le_refl _
 | n + 1 => by
  have ih := all_len hok n
  have e : allTo ObjD.syms l (n + 1) = allTo ObjD.syms l n ++ match l[n]? with | some o => tagged ObjD.syms n o | none => [] := rfl
  rw [e, List.length_append]
  cases ho : l[n]? with
  | none => simp; omega
  | some o =>
   have h2 := (hok o (List.mem_of_getElem? ho)).few.2.1
   simp only [tagged_length]
   omega
def GivesDefs (r : Option (List DefD)) (w : World) (e : Ending) (w' : World) : Prop :=
 (r = none ∧ e = .returned (.tuple #[.slice none 0 0, .bool false]) ∨ ∃ ms u defs, r = some ms ∧ e = .returned (.tuple #[u, .bool true]) ∧ (∀ W, Fr2 w.heap.size w' W → IsL 3 EDef W u defs) ∧ DSorted defs ∧ (∀ d, d ∈ defs ↔ d ∈ ms) ∧ defs.length = ms.length) ∧ Below w.heap.size w w'
def SortValsOK : Prop := ∀ (W : World) (B : Nat) (ms : List DefD), SMap W B (mDef ms) → Apart ms → ms.length ≤ 10000000 →
 Calls Tryz.prog 107 #[.map (some B)] W fun e w' => ∃ v, e = .returned v ∧ Below W.heap.size W w' ∧
  Calls Tryz.prog 106 #[v, .func (.func 108) #[] #[]] w' fun e w'' => ∃ u defs, e = .returned u ∧ (∀ W, Fr2 w'.heap.size w'' W → IsL 3 EDef W u defs) ∧ DSorted defs ∧ (∀ d, d ∈ defs ↔ d ∈ ms) ∧ defs.length = ms.length ∧ Below w'.heap.size w' w''
theorem zeroDef (w : World) : (zeroValue 60).run Tryz.prog w = .ok (.agg (defCs noDef)) w := by kernel_rfl
set_option maxRecDepth 100000 in
set_option maxHeartbeats 8000000 in
theorem define_any (HSV : SortValsOK) (p pd : Option Addr) (c cd : Nat) (l : List ObjD) (D : List (List Bool)) (w : World) (h : HasL 5 EObj w p l) (hok : ∀ o ∈ l, OkD o) (hlc : l.length ≤ 1000) (hD : DropOK w pd l D) :
  Calls Tryz.prog 54 #[.slice p l.length c, .slice pd D.length cd] w (GivesDefs (ownGo D (bindIn l) (allTo ObjD.syms l l.length) []) w) := by
 obtain ⟨R, hR⟩ : ∃ R, R = ownGo D (bindIn l) (allTo ObjD.syms l l.length) [] := ⟨_, rfl⟩
 rw [← hR]
 have hmm := @run_makeMap Tryz.prog
 have HR := Lib.hid hR
 have HH := Lib.hid fun W (hW : Below w.heap.size w W) => h.below EObj.keeps hW
 have HDD := Lib.hid fun W (hW : Below w.heap.size w W) => hD.below hW
 have HDR := Lib.hid hD.row
 have HDL := Lib.hid hD.len
 have HOK := Lib.hid hok
 have hsm0 := SMap.made w
 have hb0 : Below w.heap.size w (w.alloc (.map #[] 0)) := (Below.refl _ w).alloc (Nat.le_refl _) _
 generalize hdn : D.length = dn at *
 have HDN := Lib.hid hdn
 generalize hln : l.length = ln at *
 have HLN := Lib.hid hln
 have hdl : dn = ln := HDL.out
 subst hdl
 clear h hok hD hdn hln hR
 go_enter Tryz.func54, Tryz.ntmps54
 go_upto_region 2 with fail
 generalize w.alloc (.map #[] 0) = w1 at *
 generalize hgb : w.heap.size = gb at *
 have HGB := Lib.hid hgb
 clear hgb
 go_wp2_with fail
 go_loopw [17] (fun r17 wr => ∃ (i : Nat) (ms : List DefD), i ≤ dn ∧ r17 = .int .i64 (i : Int) ∧ ownGo D (bindIn l) (allTo ObjD.syms l i) [] = some ms ∧ SMap wr gb (mDef ms) ∧ Below gb w wr) (fun r17 _ => dn - (intOf r17).toNat)
 case atStart => exact ⟨0, [], Nat.zero_le _, rfl, rfl, hsm0, hb0⟩
 case round =>
  obtain ⟨i, ms, hi, rfl, hgo, hsm, hb⟩ := hrel
  have HGO := Lib.hid hgo
  have HSM := Lib.hid hsm
  clear hgo hsm
  by_cases hlt : i < dn
  ·obtain ⟨o, ho⟩ : ∃ o, l[i]? = some o := ⟨_, List.getElem?_eq_getElem (by rw [HLN.out]; exact hlt)⟩
   obtain ⟨b, off, p0, p1, p2, p4, c0, c1, c2, c4, hpe, e0', e1', e2', e3', e4', _, hsy, _⟩ := objs_at (HH.out w (by rw [← HGB.out]; exact Below.refl _ w)) ho
   subst hpe
   have hbW : Below w.heap.size w wr := by rw [HGB.out]; exact hb
   have e0 := cell_later hbW e0'
   have e1 := cell_later hbW e1'
   have e2 := cell_later hbW e2'
   have e3 := cell_later hbW e3'
   have e4 := cell_later hbW e4'
   have HSYM := Lib.hid hsy
   have HO := Lib.hid ho
   have hoo := HOK.out o (List.mem_of_getElem? ho)
   have hql := hoo.few.1
   have hyl := hoo.few.2.1
   have HOO := Lib.hid hoo
   have hI : (i : Int) < (dn : Int) := by omega
   have hI0 : (0 : Int) ≤ (i : Int) := by omega
   have hI1 : ¬ (dn : Int) ≤ (i : Int) := by omega
   have hI2 : ¬ (i : Int) < 0 := by omega
   have hgbs : gb ≤ wr.heap.size := by rw [← HGB.out]; exact hb.size
   have HGO0 : Hid (ownGo D (bindIn l) (atTo ObjD.syms l i 0) [] = some ms) := Lib.hid (by rw [atTo_zero]; exact HGO.out)
   clear ho hoo e0' e1' e2' e3' e4' hsy hbW
   go_upto_region 5 with fail
   have hsm2 : SMap (wr.alloc (.cells #[.slice p0 o.secs.length c0, .slice p1 o.syms.length c1, .slice p2 o.groups.length c2, .bool o.hasSig, .slice p4 o.sig.length c4] 27)) gb (mDef ms) := HSM.out.block ((World.grownBy_alloc wr _ none).block gb HSM.out.lt (by simp))
   have hb2 : Below gb w (wr.alloc (.cells #[.slice p0 o.secs.length c0, .slice p1 o.syms.length c1, .slice p2 o.groups.length c2, .bool o.hasSig, .slice p4 o.sig.length c4] 27)) := hb.alloc hgbs _
   obtain ⟨⟨_, u1, _, _, _⟩, _⟩ := cells5 _ _ _ _ _ _ _ _ (heap_alloc_new wr (.cells #[.slice p0 o.secs.length c0, .slice p1 o.syms.length c1, .slice p2 o.groups.length c2, .bool o.hasSig, .slice p4 o.sig.length c4] 27))
   generalize wr.alloc (.cells #[.slice p0 o.secs.length c0, .slice p1 o.syms.length c1, .slice p2 o.groups.length c2, .bool o.hasSig, .slice p4 o.sig.length c4] 27) = ws at *
   generalize wr.heap.size = go at *
   generalize hyn : o.syms.length = yn at *
   have HYN := Lib.hid hyn
   have HSM2 := Lib.hid hsm2
   have HB2 := Lib.hid hb2
   clear hyn hsm2 hb2 hb e0 e1 e2 e3 e4 HGO HSM
   go_wp2_with fail
   go_loopw [25] (fun r25 wr => ∃ (k : Nat) (ms : List DefD), k ≤ yn ∧ r25 = .int .i64 (k : Int) ∧ ownGo D (bindIn l) (atTo ObjD.syms l i k) [] = some ms ∧ SMap wr gb (mDef ms) ∧ Below gb w wr) (fun r25 _ => yn - (intOf r25).toNat)
   case atStart => exact ⟨0, ms, Nat.zero_le _, rfl, HGO0.out, HSM2.out, HB2.out⟩
   case round =>
    obtain ⟨k, ms, hk, rfl, hgo, hsm, hb⟩ := hrel
    have HGO := Lib.hid hgo
    have HSM := Lib.hid hsm
    clear hgo hsm
    by_cases hlt2 : k < yn
    ·have hbW : Below w.heap.size w wr := by rw [HGB.out]; exact hb
     obtain ⟨b1, off1, x, hpe1, hx1, ⟨f0, _⟩, ⟨f1, _⟩, ⟨f2, _⟩, ⟨f3, _⟩, ⟨f4, _⟩, ⟨f5, _⟩⟩ := (HSYM.out.below ESym.keeps hbW).at_ (i := k) (by rw [HYN.out]; exact hlt2)
     subst hpe1
     have hK : (k : Int) < (yn : Int) := by omega
     have hK0 : (0 : Int) ≤ (k : Int) := by omega
     have hK1 : ¬ (yn : Int) ≤ (k : Int) := by omega
     have HX := Lib.hid hx1
     have hstep := ownGo_snoc (D := D) (bindOf := bindIn l) (x := (i, k, x)) (ys := atTo ObjD.syms l i k) (m := [])
     rw [← atTo_step HO.out HX.out, HGO.out, Option.bind_some] at hstep
     have HSTEP := Lib.hid hstep
     have hgbs2 : gb ≤ wr.heap.size := by rw [← HGB.out]; exact hb.size
     clear hx1 hstep hbW
     go_upto_region 8 with fail
     have hb7 : Below wr.heap.size wr (wr.alloc (.cells #[.string x.name, .int .i64 x.bind, .int .i64 x.type, .int .i64 x.sec, .int .i64 x.value, .int .i64 x.size] 98)) := (Below.refl _ wr).alloc (Nat.le_refl _) _
     have hb7g : Below gb w (wr.alloc (.cells #[.string x.name, .int .i64 x.bind, .int .i64 x.type, .int .i64 x.sec, .int .i64 x.value, .int .i64 x.size] 98)) := hb.alloc hgbs2 _
     have hsm7 := HSM.out.below hb7
     obtain ⟨x0, x1, x2, x3, x4, x5⟩ := ncells6 _ _ _ _ _ _ _ _ _ (heap_alloc_new wr (.cells #[.string x.name, .int .i64 x.bind, .int .i64 x.type, .int .i64 x.sec, .int .i64 x.value, .int .i64 x.size] 98))
     generalize wr.alloc (.cells #[.string x.name, .int .i64 x.bind, .int .i64 x.type, .int .i64 x.sec, .int .i64 x.value, .int .i64 x.size] 98) = w7 at *
     generalize wr.heap.size = g7 at *
     have HSM7 := Lib.hid hsm7
     have HB7 := Lib.hid hb7g
     have hdd := HDD.out w7 (by first | exact hb7g | (rw [HGB.out]; exact hb7g))
     obtain ⟨bd, od, qd, cq, hpd, hdc, hdh⟩ := drops_at hdd.has (show i < D.length by rw [HDN.out]; exact hlt)
     subst hpd
     have hsec := HOO.out.sec x (List.mem_of_getElem? HX.out)
     have hrow := HDR.out i o HO.out
     rw [← hrow] at hsec hql
     have HDF := Lib.hid fun W (hW : Below w7.heap.size w7 W) => ndefines_any x qd (drAt D i).length cq (drAt D i) W (hdh.below EBool.keeps hW) rfl hsec (by omega)
     clear hb7 hb7g hsm7 hdd hdh hsec f0 f1 f2 f3 f4 f5 hb
     obtain ⟨df, hdf⟩ : ∃ df, df = definesB x (drAt D i) := ⟨_, rfl⟩
     rw [← hdf] at HDF
     have HDFE := Lib.hid hdf
     generalize (drAt D i).length = rn at *
     clear hdf hrow
     have hq : ownStep D (bindIn l) (i, k, x) ms = bif df then
       match ms.find? (fun e => sEq e.name x.name) with
       | some d => bif bindIn l d == 1 && x.bind == 1 then none else
        bif x.bind == 1 then some (ms.map fun e => bif sEq e.name x.name then ⟨x.name, i, k⟩ else e) else some ms
       | none => some (ms ++ [⟨x.name, i, k⟩])
      else some ms := by rw [HDFE.out]; rfl
     rw [hq] at HSTEP
     clear hq
     go_still_tail 5, (by kernel_rfl)
     go_wp2_with fail
     refine (HDF.out _ ((Below.refl _ w7).drew)).mono ?_
     rintro e w8 ⟨rfl, hb8⟩
     have hb8' : Below w7.heap.size w7 w8 := ((Below.refl _ w7).drew).trans hb8
     have hsm8 := HSM7.out.below hb8'
     have hb8g : Below gb w w8 := HB7.out.trans (hb8'.mono (by first | exact HB7.out.size | (rw [← HGB.out]; exact HB7.out.size)))
     have y0 := cell_later hb8' x0
     have y1 := cell_later hb8' x1
     have HSM8 := Lib.hid hsm8
     have HB8 := Lib.hid hb8g
     clear hsm8 hb8 hb8' hb8g x0 x1 x2 x3 x4 x5 hdc
     cases df with
     | false =>
      have hE : Hid (ownGo D (bindIn l) (atTo ObjD.syms l i (k + 1)) [] = some ms) := Lib.hid HSTEP.out
      go_wp2_with fail
      go_roundw
      case rel => exact ⟨k + 1, ms, hlt2, by go_num, hE.out, HSM8.out, HB8.out⟩
      case measure => simp [intOf]; omega
     | true =>
      rw [cond_true] at HSTEP
      have hmv := mVal_def x.name ms
      obtain ⟨fd, hfd⟩ : ∃ fd, fd = ms.find? fun e => sEq e.name x.name := ⟨_, rfl⟩
      rw [← hfd] at HSTEP hmv
      have hmv1 : (mVal x.name (mDef ms)).getD (.agg (defCs noDef)) = .agg (defCs (fd.getD noDef)) := by rw [hmv]; cases fd <;> rfl
      have hmv2 : (mVal x.name (mDef ms)).isSome = fd.isSome := by rw [hmv]; cases fd <;> rfl
      have HFD := Lib.hid hfd
      have HMV1 := Lib.hid hmv1
      have HMV2 := Lib.hid hmv2
      clear hmv hmv1 hmv2 hfd
      obtain ⟨d, hd⟩ : ∃ d, d = fd.getD noDef := ⟨_, rfl⟩
      obtain ⟨met, hmet⟩ : ∃ met, met = fd.isSome := ⟨_, rfl⟩
      rw [← hd] at HMV1
      rw [← hmet] at HMV2
      have HD' := Lib.hid hd
      have HMET := Lib.hid hmet
      clear hd hmet
      go_upto_region 10 with (at_lookup; refine wpList_lookup_str_ok _ rfl (.tmp 38) (.tmp 40) 200 rfl 9 60 Tryz.underlying200 Tryz.underlying9 (.agg (defCs noDef)) zeroDef gb (mDef ms) rfl HSM8.out x.name rfl ?_; rw [HMV1.out, HMV2.out])
      have hb9 : Below w8.heap.size w8 (w8.alloc (.cells #[.string d.name, .int .i64 (d.obj : Int), .int .i64 (d.sym : Int)] 60)) := (Below.refl _ w8).alloc (Nat.le_refl _) _
      obtain ⟨⟨d0, d1, d2⟩, _⟩ := three_cells _ _ _ _ _ _ (heap_alloc_new w8 (.cells #[.string d.name, .int .i64 (d.obj : Int), .int .i64 (d.sym : Int)] 60))
      have hsm9 := HSM8.out.below hb9
      have hb9g : Below gb w (w8.alloc (.cells #[.string d.name, .int .i64 (d.obj : Int), .int .i64 (d.sym : Int)] 60)) := HB8.out.trans (hb9.mono (by first | exact HB8.out.size | (rw [← HGB.out]; exact HB8.out.size)))
      have z0 := cell_later hb9 y0
      have z1 := cell_later hb9 y1
      generalize w8.alloc (.cells #[.string d.name, .int .i64 (d.obj : Int), .int .i64 (d.sym : Int)] 60) = w9 at *
      generalize w8.heap.size = g8 at *
      have HSM9 := Lib.hid hsm9
      have HB9 := Lib.hid hb9g
      clear hb9 hsm9 hb9g y0 y1 hI hI0 hI1 hI2 hK hK0 hK1
      obtain ⟨glob, hglob⟩ : ∃ glob, glob = (fd.isSome && bindIn l d == 1) := ⟨_, rfl⟩
      have HGL := Lib.hid hglob
      clear hglob
      have hten : ∀ Q : Prop, Q → Q := fun _ h => h
      cases hfc : fd with
      | none =>
       rw [hfc] at HFD
       obtain rfl : met = false := by rw [HMET.out, hfc]; rfl
       obtain rfl : glob = false := by rw [HGL.out, hfc]; rfl
       rw [hfc] at HSTEP
       clear hfc hten
       refine wp_region_below (by kernel_rfl) (by kernel_rfl) ?_
       repeat (go_big_quiet_step (first
        | (intro hWq; go_simp; first | done | rfl | exact ⟨rfl, rfl⟩ | fail)
        | fail))
       refine wpQuiet_nil ?_
       intro wa hwa
       have hza0 := cell_later hwa z0
       have hza1 := cell_later hwa z1
       have hsma := HSM9.out.below hwa
       have hba := HB9.out.trans (hwa.mono (by first | exact HB9.out.size | (rw [← HGB.out]; exact HB9.out.size)))
       have HSMA := Lib.hid hsma
       have HBA := Lib.hid hba
       have hput := mPut_def (ms := ms) (d := ⟨x.name, i, k⟩) (nown_at HOK.out HGO.out).1
       have HPUT := Lib.hid hput
       clear hsma hba hput hwa z0 z1 d0 d1 d2
       have hE : Hid (ownGo D (bindIn l) (atTo ObjD.syms l i (k + 1)) [] = some (dPut ms ⟨x.name, i, k⟩)) := Lib.hid (by rw [HSTEP.out]; unfold dPut; rw [← HFD.out])
       go_wp2_with (at_mapUpdate; refine wpList_mapUpdate_str _ rfl (.tmp 72) (.tmp 74) (.tmp 79) 200 rfl 9 60 Tryz.underlying200 Tryz.underlying9 gb (mDef ms) rfl HSMA.out x.name rfl (.agg (defCs ⟨x.name, i, k⟩)) rfl ?_)
       intro wb hsmb hgrb
       rw [HPUT.out] at hsmb
       have hbb := HBA.out.grown hgrb (by first | exact HBA.out.size | (rw [← HGB.out]; exact HBA.out.size)) (fun r e => by cases e; omega)
       have HSMB := Lib.hid hsmb
       clear hsmb hgrb
       go_wp2_with fail
       go_roundw
       case rel => exact ⟨k + 1, _, hlt2, by go_num, hE.out, HSMB.out, hbb⟩
       case measure => simp [intOf]; omega
      | some d' =>
       rw [hfc] at HFD
       obtain rfl : met = true := by rw [HMET.out, hfc]; rfl
       obtain rfl : d = d' := by rw [HD'.out, hfc]; rfl
       obtain ⟨ob, y, hob, hy, hbi⟩ := own_sym (nown_at HOK.out HGO.out) HFD.out.symm
       rw [hfc] at HSTEP
       simp only [hbi] at HSTEP
       obtain rfl : glob = (y.bind == 1) := by rw [HGL.out, hfc, hbi]; rfl
       have hb9w : Below w.heap.size w w9 := by first | exact HB9.out | (rw [HGB.out]; exact HB9.out)
       obtain ⟨b4, off4, q0, q1, q2, q4, k0, k1, k2, k4, hpe4, _, t1, _, _, _, _, hsy4, _⟩ := objs_at (HH.out w9 HB9.out) hob
       cases hpe4
       have hdl : d.sym < ob.syms.length := (List.getElem?_eq_some_iff.1 hy).1
       obtain ⟨b5, off5, y', hpe5, hy', _, ⟨v1, _⟩, _⟩ := hsy4.at_ hdl
       subst hpe5
       obtain rfl : y' = y := by rw [hy] at hy'; cases hy'; rfl
       have hol : d.obj < dn := by rw [← HLN.out]; exact (List.getElem?_eq_some_iff.1 hob).1
       have hyb2 := (HOK.out ob (List.mem_of_getElem? hob)).few.2.1
       generalize ob.syms.length = yn2 at *
       have hM : (d.obj : Int) < (dn : Int) := by omega
       have hM0 : (0 : Int) ≤ (d.obj : Int) := by omega
       have hM1 : ¬ (dn : Int) ≤ (d.obj : Int) := by omega
       have hM2 : ¬ (d.obj : Int) < 0 := by omega
       have hN : (d.sym : Int) < (yn2 : Int) := by omega
       have hN0 : (0 : Int) ≤ (d.sym : Int) := by omega
       have hN1 : ¬ (yn2 : Int) ≤ (d.sym : Int) := by omega
       have hN2 : ¬ (d.sym : Int) < 0 := by omega
       obtain ⟨yb, hyb⟩ : ∃ yb, yb = (y'.bind == 1) := ⟨_, rfl⟩
       have hyb' : (y'.bind == 1) = yb := hyb.symm
       rw [hyb'] at HSTEP
       clear hfc hten hob hy hbi hb9w hsy4 hdl hy' hol hyb HGL
       refine wp_region_below (by kernel_rfl) (by kernel_rfl) ?_
       repeat (go_big_quiet_step (first
        | (intro hWq; have w1' := cell_later hWq t1; have w2' := cell_later hWq v1; have w3' := cell_later hWq d0; have w4' := cell_later hWq d1; have w5' := cell_later hWq d2; go_simp; first | done | rfl | exact ⟨rfl, rfl⟩ | fail)
        | fail))
       refine wpQuiet_nil ?_
       intro wa hwa
       have hza0 := cell_later hwa z0
       have hza1 := cell_later hwa z1
       have hsma := HSM9.out.below hwa
       have hba := HB9.out.trans (hwa.mono (by first | exact HB9.out.size | (rw [← HGB.out]; exact HB9.out.size)))
       have HSMA := Lib.hid hsma
       have HBA := Lib.hid hba
       have hput := mPut_def (ms := ms) (d := ⟨x.name, i, k⟩) (nown_at HOK.out HGO.out).1
       have HPUT := Lib.hid hput
       clear hsma hba hput hwa z0 z1 d0 d1 d2
       cases hxb : (x.bind == 1) with
       | false =>
        have hE : Hid (ownGo D (bindIn l) (atTo ObjD.syms l i (k + 1)) [] = some ms) := Lib.hid (by rw [HSTEP.out, hxb]; cases yb <;> rfl)
        cases yb with
        | true =>
         go_wp2_with fail
         go_roundw
         case rel => exact ⟨k + 1, ms, hlt2, by go_num, hE.out, HSMA.out, HBA.out⟩
         case measure => simp [intOf]; omega
        | false =>
         go_wp2_with fail
         go_roundw
         case rel => exact ⟨k + 1, ms, hlt2, by go_num, hE.out, HSMA.out, HBA.out⟩
         case measure => simp [intOf]; omega
       | true =>
        cases yb with
        | true =>
         have hE : Hid (R = none) := Lib.hid (by
          have h1 : ownGo D (bindIn l) (atTo ObjD.syms l i (k + 1)) [] = none := by rw [HSTEP.out, hxb]; rfl
          obtain ⟨r, hr⟩ := atTo_pre (f := ObjD.syms) (k := k + 1) HO.out
          rw [HLN.out] at hr
          rw [HR.out, hr]
          exact ownGo_none h1)
         go_wp2_with fail
         exact bodyPost_ret (v := .tuple #[.slice none 0 0, .bool false]) (by simp [results, Tryz.results54, go_sem]) rfl ⟨.inl ⟨hE.out, rfl⟩, by rw [HGB.out]; exact HBA.out⟩
        | false =>
         have hE : Hid (ownGo D (bindIn l) (atTo ObjD.syms l i (k + 1)) [] = some (dPut ms ⟨x.name, i, k⟩)) := Lib.hid (by rw [HSTEP.out, hxb]; unfold dPut; rw [← HFD.out]; rfl)
         go_wp2_with (at_mapUpdate; refine wpList_mapUpdate_str _ rfl (.tmp 72) (.tmp 74) (.tmp 79) 200 rfl 9 60 Tryz.underlying200 Tryz.underlying9 gb (mDef ms) rfl HSMA.out x.name rfl (.agg (defCs ⟨x.name, i, k⟩)) rfl ?_)
         intro wb hsmb hgrb
         rw [HPUT.out] at hsmb
         have hbb := HBA.out.grown hgrb (by first | exact HBA.out.size | (rw [← HGB.out]; exact HBA.out.size)) (fun r e => by cases e; omega)
         have HSMB := Lib.hid hsmb
         clear hsmb hgrb
         go_wp2_with fail
         go_roundw
         case rel => exact ⟨k + 1, _, hlt2, by go_num, hE.out, HSMB.out, hbb⟩
         case measure => simp [intOf]; omega
    ·obtain rfl : k = yn := by omega
     have hK : ¬ (k : Int) < (k : Int) := by omega
     have hE : ownGo D (bindIn l) (allTo ObjD.syms l (i + 1)) [] = some ms := by rw [← atTo_end (k := k) HO.out (by rw [HYN.out]; exact Nat.le_refl _)]; exact HGO.out
     go_wp2_with fail
     go_roundw
     case rel => exact ⟨i + 1, ms, hlt, by go_num, hE, HSM.out, hb⟩
     case measure => simp [intOf]; omega
  ·obtain rfl : i = dn := by omega
   have hI : ¬ (i : Int) < (i : Int) := by omega
   have hE : Hid (R = some ms) := Lib.hid (by rw [HR.out]; exact HGO.out)
   have hap : Apart ms := by
    have h0 : ownGo D (bindIn l) (atTo ObjD.syms l i 0) [] = some ms := by rw [atTo_zero]; exact HGO.out
    exact (nown_at HOK.out h0).1
   have HAP := Lib.hid hap
   clear hap
   have hml : ms.length ≤ 10000000 := by
    have h1 := ownGo_len HGO.out
    have h2 := all_len HOK.out i
    simp only [List.length_nil] at h1
    omega
   have hv := HSV wr gb ms HSM.out HAP.out hml
   clear hml
   go_wp2_with fail
   refine hv.mono ?_
   rintro e w2 ⟨v, rfl, hb2, hs⟩
   go_wp2_with fail
   refine hs.mono ?_
   rintro e w3 ⟨u, defs, rfl, h1, h2, h3, h4, hb3⟩
   have hbe : Below gb w w3 := hb.trans ((hb2.trans (hb3.mono hb2.size)).mono (by first | exact hb.size | (rw [← HGB.out]; exact hb.size)))
   go_wp2_with fail
   exact bodyPost_ret (v := .tuple #[u, .bool true]) (by simp [results, Tryz.results54, go_sem]) rfl ⟨.inr ⟨ms, u, defs, hE.out, rfl, fun W hW => h1 W ⟨hW.1, fun g hg => hW.2 g (by have := hb.size; have := hb2.size; omega)⟩, h2, h3, h4⟩, by rw [HGB.out]; exact hbe⟩
end Go.Proofs.YteopgmieindojaaGreat

namespace Go.Proofs.YteopgmieindojaaGreat
open Go.RowKit
end Go.Proofs.YteopgmieindojaaGreat

namespace Go.Proofs.YteopgmieindojaaGreat
open Go.RowKit Go.Shelf Go.Sort Go.Lib
instance : Inhabited DefD := ⟨noDef⟩
theorem fn1_lays (d e : DefD) (w : World) : Calls Tryz.prog 108 #[.agg (defCs d), .agg (defCs e)] w fun en w' => en = .returned (.int .i64 (cmpS d.name e.name)) ∧ ∃ q os', w' = grow (w.drewN q) os' := by
 have HC := Lib.hid fun W => compare_any d.name e.name W
 obtain ⟨w1, hw1⟩ : ∃ w1, w1 = w.alloc (.cells (defCs d) 60) := ⟨_, rfl⟩
 obtain ⟨w2, hw2⟩ : ∃ w2, w2 = w1.alloc (.cells (defCs e) 60) := ⟨_, rfl⟩
 have hg := heap_alloc_new w (.cells (defCs d) 60)
 have s1 : w1.heap.size = w.heap.size + 1 := by rw [hw1]; simp
 rw [← hw1] at hg
 have hg2 := heap_alloc_new w1 (.cells (defCs e) 60)
 rw [← hw2, s1] at hg2
 have hg1 : w2.heap[w.heap.size]? = some (.cells (defCs d) 60 (0, 0)) := by
  rw [hw2]; exact (Below.heap_alloc w1 _ _ (by omega)).trans hg
 obtain ⟨⟨x0, x1, x2⟩, _⟩ := three_cells _ _ _ _ _ _ hg1
 obtain ⟨⟨y0, y1, y2⟩, _⟩ := three_cells _ _ _ _ _ _ hg2
 have hgr : w2 = grow (w.drewN 0) #[.cells (defCs d) 60, .cells (defCs e) 60] := by
  rw [hw2, hw1, alloc_eq_grow, alloc_eq_grow, grow_grow]; rfl
 have HW1 := Lib.hid hw1
 have HW2 := Lib.hid hw2
 have HGR := Lib.hid hgr
 clear hg hg2 hg1 hw1 hw2 s1 hgr
 go_enter Tryz.func108, Tryz.ntmps108
 go_upto_region 1 with fail
 rw [← HW1.out, ← HW2.out]
 clear HW1 HW2
 go_wp2_with fail
 refine (HC.out _).mono ?_
 rintro en w' ⟨rfl, rfl⟩
 go_wp2_with fail
 go_ret
 exact ⟨rfl, 0, _, HGR.out⟩
theorem fn1_cmpLays (blk off size : Nat) (w : World) : CmpLays Tryz.prog 108 #[] defL 3 (fun d e : DefD => cmpS d.name e.name) blk off size w :=
 fun _ _ _ _ x y => fn1_lays x y _
theorem def_swo : SWO (ltOf fun d e : DefD => cmpS d.name e.name) where
 irrefl x := by
  unfold ltOf
  have := cmpS_eq.2 (rfl : x.name = x.name)
  simp [this]
 trans x y z h1 h2 := by
  unfold ltOf at *
  simp only [decide_eq_true_eq, cmpS_lt, sLt_iff] at *
  exact List.lt_trans h1 h2
 ntrans x y z h1 h2 := by
  unfold ltOf at *
  simp only [decide_eq_false_iff_not, cmpS_lt, sLt_iff, List.not_lt] at *
  exact List.le_trans h2 h1
theorem isAgg_def : ∀ w, (isAgg 60).run Tryz.prog w = .ok true w := Tryz.isAgg60
theorem sizeOf_def : ∀ w, (Go.sizeOf 60).run Tryz.prog w = .ok 3 w := Tryz.sizeOf60
theorem enters_fn1 : ∀ args w, (callFunc 108 args).run Tryz.prog w = .ok (.enter 108 args) w := enters_of Tryz.func108 (by kernel_rfl) rfl
theorem sort_defs (blk off cap : Nat) (d : Array DefD) (w : World) (hH : HoldsK defL 3 w blk off d) (hblk : blk < w.heap.size) (hsz : d.size < 4611686018427387904) :
  Calls Tryz.prog 160 #[.slice (some ⟨blk, off, none⟩) d.size cap, .func (.func 108) #[] #[]] w fun e w' => e = .returned (.tuple #[]) ∧ ∃ d' n os, PermIn 0 d.size d d' ∧ SortedIn (ltOf fun d e : DefD => cmpS d.name e.name) 0 d.size d' ∧ w' = sortWorldK defL 3 w blk off n d' os :=
 AnyQ.slices_SortFunc Tryz.sortDef 3 isAgg_def sizeOf_def defL (fun _ => rfl) (fun x v hv => defL_one x v hv) (fun d e : DefD => cmpS d.name e.name) def_swo 108 #[] blk off cap d w enters_fn1 (fn1_cmpLays blk off d.size w) hH hblk hsz
theorem sort_nil (p : Option Addr) (cap : Nat) (fv : Value) (w : World) :
  Calls Tryz.prog 160 #[.slice p 0 cap, fv] w fun e w' => e = .returned (.tuple #[]) ∧ w' = w :=
 AnyF.slices_SortFunc_none Tryz.sortDef p cap fv w
end Go.Proofs.YteopgmieindojaaGreat

namespace Go.Proofs.YteopgmieindojaaGreat
open Go.RowKit Go.Shelf Go.Sort Go.Lib
def defOf : Value → DefD
 | .agg cs => match cs.toList with
  | [.string n, .int _ o, .int _ s] => ⟨n, o.toNat, s.toNat⟩
  | _ => noDef
 | _ => noDef
theorem defOf_defV (d : DefD) : defOf (defV d) = d := by
 cases d
 simp [defOf]
theorem perm_of_defV {a b : List DefD} (h : (a.map defV).Perm (b.map defV)) : a.Perm b := by
 have h2 := h.map defOf
 simp only [List.map_map] at h2
 have e : ∀ l : List DefD, l.map (defOf ∘ defV) = l := fun l => by
  rw [show (defOf ∘ defV) = id from funext defOf_defV, List.map_id]
 rwa [e, e] at h2
theorem perm_of_permIn {d d' : Array DefD} (h : PermIn 0 d.size d d') : d'.toList.Perm d.toList := by
 obtain ⟨hs, _, hp⟩ := h
 rw [Array.extract_eq_self_of_le (by omega), Array.extract_eq_self_of_le (Nat.le_refl _)] at hp
 exact hp
theorem sorted_of {d' : Array DefD} {n : Nat} (hn : d'.size = n) (h : SortedIn (ltOf fun d e : DefD => cmpS d.name e.name) 0 n d') (ha : Apart d'.toList) : DSorted d'.toList := by
 unfold DSorted
 rw [List.pairwise_iff_getElem]
 intro i j hi hj hij
 have hi' : i < d'.size := by simpa using hi
 have hj' : j < d'.size := by simpa using hj
 have h1 := h i j (Nat.zero_le _) hij (by omega)
 have h2 := (List.pairwise_iff_getElem.1 ha) i j hi hj hij
 rw [getElem!_pos d' i hi', getElem!_pos d' j hj'] at h1
 unfold ltOf at h1
 simp only [decide_eq_false_iff_not, cmpS_lt] at h1
 simp only [Array.getElem_toList] at h2 ⊢
 refine sLt_total ?_ (by simpa using h1)
 cases hq : sEq d'[j].name d'[i].name with
 | false => rfl
 | true => exact absurd (sEq_iff.1 hq).symm h2
theorem sortW_block {enc : DefD → List Value} {k : Nat} {w : World} {blk off n : Nat} {d : Array DefD} {os : Array Obj} {g : Nat} (hg : g ≠ blk) (hl : g < w.heap.size) : (sortWorldK enc k w blk off n d os).heap[g]? = w.heap[g]? := by
 unfold sortWorldK grow putRowK putRow mapBlock
 simp only
 rw [Array.getElem?_append_left (by simpa [Sort.ahead] using hl), Array.getElem?_modify]
 rw [if_neg (fun e => hg e.symm)]
 rfl
theorem sortW_size {enc : DefD → List Value} {k : Nat} {w : World} {blk off n : Nat} {d : Array DefD} {os : Array Obj} : w.heap.size ≤ (sortWorldK enc k w blk off n d os).heap.size := by
 unfold sortWorldK grow putRowK putRow mapBlock
 simp [Sort.ahead]
theorem sortW_below {enc : DefD → List Value} {k : Nat} {w : World} {blk off n N : Nat} {d : Array DefD} {os : Array Obj} (hN : N ≤ blk) (hs : N ≤ w.heap.size) : Go.RowKit.Below N w (sortWorldK enc k w blk off n d os) :=
 ⟨rfl, rfl, rfl, sortW_size, fun g hg => sortW_block (by omega) (by omega)⟩
theorem holds_of_owns {w : World} {N g cap : Nat} {defs : List DefD} (h : w.ownsRow N 60 3 (.slice (some ⟨g, 0, none⟩) defs.length cap) defs.length (defs.flatMap defL)) : HoldsK defL 3 w g 0 defs.toArray := fun j hj => by
 have hj' : j < defs.length * 3 := by simpa using hj
 have hdiv : j / 3 < defs.length := by omega
 have hx : defs[j / 3]? = some defs[j / 3] := List.getElem?_eq_getElem hdiv
 have hm : j % 3 < (defL defs[j / 3]).length := by rw [defL_length]; omega
 have hf := flat_get (k := 3) (f := defL) defL_length defs (j / 3) defs[j / 3] (j % 3) _ hx (List.getElem?_eq_getElem hm)
 rw [show j / 3 * 3 + j % 3 = j by omega] at hf
 have hgk := get_flatK defL 3 defs.toArray j (by simpa using hj')
 rw [getElem!_pos defs.toArray (j / 3) (by simpa using hdiv)] at hgk
 simp only [List.getElem_toArray] at hgk
 rw [getElem!_pos (defL defs[j / 3]) (j % 3) hm] at hgk
 rw [Nat.zero_add, hgk]
 exact ⟨(h.cellAt j hj').trans hf, h.frozenAt j⟩
theorem defs_of_holds {w : World} {g : Nat} {d : Array DefD} (h : HoldsK defL 3 w g 0 d) : HasL 3 EDef w (some ⟨g, 0, none⟩) d.toList := fun i x hx => by
 have hi : i < d.size := by simpa using (List.getElem?_eq_some_iff.1 hx).1
 have hxd : d[i]! = x := by
  rw [getElem!_pos d i hi]
  have := (List.getElem?_eq_some_iff.1 hx).2
  simpa using this
 have hc := fun c (hc : c < 3) => (h.cell (i := i) (c := c) hi hc).1
 rw [hxd] at hc
 exact ⟨g, 0, rfl, hc 0 (by omega), hc 1 (by omega), hc 2 (by omega)⟩
def Sorts (defs : List DefD) (N g : Nat) (w : World) (e : Ending) (w' : World) : Prop := e = .returned (.tuple #[]) ∧ ∃ ds : List DefD, ds.Perm defs ∧ (Apart ds → DSorted ds) ∧ HasL 3 EDef w' (some ⟨g, 0, none⟩) ds ∧ Go.RowKit.Below N w w' ∧ g < w'.heap.size
theorem sorts_any (N g cap dn : Nat) (defs : List DefD) (hdn : defs.length = dn) (w : World) (hown : w.ownsRow N 60 3 (.slice (some ⟨g, 0, none⟩) dn cap) dn (defs.flatMap defL)) (hN : N ≤ g) (hs : N ≤ w.heap.size) (hgl : g < w.heap.size) (hsz : dn ≤ 10000000) :
  Calls Tryz.prog 160 #[.slice (some ⟨g, 0, none⟩) dn cap, .func (.func 108) #[] #[]] w (Sorts defs N g w) := by
 subst hdn
 have hH := holds_of_owns hown
 have h := sort_defs g 0 cap defs.toArray w hH hgl (by simp; omega)
 rw [List.size_toArray] at h
 refine h.mono fun e w' hpost => ?_
 obtain ⟨he, d', n, os, hperm, hsort, hw⟩ := hpost
 have hpd : d'.toList.Perm defs := by
  have := perm_of_permIn (d := defs.toArray) (by rw [List.size_toArray]; exact hperm)
  simpa using this
 have hds : d'.size = defs.length := by have := hpd.length_eq; simpa using this
 have hH2 : HoldsK defL 3 (sortWorldK defL 3 w g 0 n d' os) g 0 d' :=
  holdsK_grow _ _ _ os g 0 d' (by simp [putRowK, putRow, mapBlock, Sort.ahead]; exact hgl) (holdsK_putRowK defL 3 (Sort.ahead w n) g 0 defs.toArray d' (holdsK_ahead defL 3 w n g 0 _ hH) (by rw [List.size_toArray]; exact hds))
 rw [← hw] at hH2
 exact ⟨he, d'.toList, hpd, fun ha => sorted_of hds hsort ha, defs_of_holds hH2, by rw [hw]; exact sortW_below hN hs, by rw [hw]; exact Nat.lt_of_lt_of_le hgl sortW_size⟩
set_option maxRecDepth 100000 in
set_option maxHeartbeats 2000000 in
theorem sortVals_ok : SortValsOK := fun W B ms hsm hap hlen => by
 refine (values_any B W).mono ?_
 rintro e w' ⟨rfl, hbox, hb⟩
 refine ⟨_, rfl, hb, ?_⟩
 have hcell : w'.cell? ⟨W.heap.size, 0, none⟩ = some (.map (some B)) := (cell_of_row _ _ _ _ _ (0, 0) hbox).trans rfl
 have hcol := collect_any W.heap.size B ms hlen w' (Array.getElem?_eq_some_iff.1 hbox).1 hcell (hsm.below hb)
 have HAP := Lib.hid hap
 have HLEN := Lib.hid hlen
 clear hbox hcell hb hsm hap hlen
 go_enter Tryz.func106, Tryz.ntmps106
 go_wp2_with fail
 refine hcol.mono ?_
 rintro e w1 ⟨u, defs, rfl, hown, hperm, hb1⟩
 have hp := perm_of_defV hperm
 have hpl := hp.length_eq
 have HP := Lib.hid hp
 clear hcol hperm hp
 obtain ⟨p, c, rfl, hc1, hc2, hc3⟩ := slice_form hown
 rcases Nat.eq_zero_or_pos defs.length with h0 | h0
 ·have hd0 : defs = [] := List.eq_nil_of_length_eq_zero h0
  have hm0 : ms = [] := List.eq_nil_of_length_eq_zero (by omega)
  subst hd0 hm0
  have hs := sort_nil p c (.func (.func 108) #[] #[]) w1
  go_wp2_with fail
  refine hs.mono ?_
  rintro e w2 ⟨rfl, rfl⟩
  go_wp2_with fail
  go_ret
  exact ⟨_, [], rfl, fun W2 _ => ⟨p, c, rfl, hc1, hc2, hc3, fun i x hx => by simp at hx⟩, List.Pairwise.nil, fun d => Iff.rfl, rfl, hb1⟩
 ·obtain ⟨g, rfl, hbg, hgl⟩ : ∃ g, p = some ⟨g, 0, none⟩ ∧ w'.heap.size ≤ g ∧ g < w1.heap.size := by
   rcases hown.2 with ⟨_, h⟩ | ⟨g, cap, cur, e, hbg, hgg, _⟩
   ·omega
   ·cases e
    exact ⟨g, rfl, hbg, (Array.getElem?_eq_some_iff.1 hgg).1⟩
  obtain ⟨dn, hdn⟩ : ∃ dn, dn = defs.length := ⟨_, rfl⟩
  rw [← hdn] at hown hc1 h0
  rw [← hdn]
  have hs := sorts_any w'.heap.size g c dn defs hdn.symm w1 hown hbg hb1.size hgl (by have := HLEN.out; omega)
  have HDN := Lib.hid hdn
  clear hown hdn
  go_wp2_with fail
  refine hs.mono ?_
  rintro e w2 ⟨rfl, ds, hpd, hsort, hh, hb2, hg2⟩
  have hpm := hpd.trans HP.out
  have hap : Apart ds := (hpm.pairwise_iff (fun {a b} h => Ne.symm h)).2 HAP.out
  have hlist : ds.length = dn := by rw [HDN.out]; exact hpd.length_eq
  have hbe := hb1.trans hb2
  have hdsort := hsort hap
  clear hs hpd hap hsort
  go_wp2_with fail
  go_ret
  refine ⟨_, ds, rfl, fun W2 hW2 => ⟨some ⟨g, 0, none⟩, c, by rw [hlist]; rfl, by rw [hlist]; exact hc1, hc2, fun h => (by cases h), ?_⟩, hdsort, fun d => hpm.mem_iff, by rw [hpm.length_eq], hbe⟩
  intro i x hx
  obtain ⟨b, off, e, h1, h2, h3⟩ := hh i x hx
  simp only [Option.some.injEq, Addr.mk.injEq, and_true] at e
  obtain ⟨rfl, rfl⟩ := e
  have hblk := hW2.2 g hbg hg2
  exact ⟨g, 0, rfl, (World.cell?_of_block hblk).trans h1, (World.cell?_of_block hblk).trans h2, (World.cell?_of_block hblk).trans h3⟩
end Go.Proofs.YteopgmieindojaaGreat

namespace Go.Proofs.YteopgmieindojaaGreat
open Go.RowKit
theorem results_ntab {fn : Func} {p u : Tmp} (h : fn.results = #[.cell p 49, .tmp u]) (tmps : Array Value) (w : World) (g : Nat) (v0 v1 b : Value) (hp : tmps.getD p undef = .pointer (some ⟨g, 0, none⟩)) (hu : tmps.getD u undef = b)
  (hg : w.heap[g]? = some (.cells #[v0, v1] 49 (0, 0))) : (results fn tmps).run Tryz.prog w = .ok (.tuple #[.agg #[v0, v1], b]) w := by
 obtain ⟨⟨r0, r1⟩, _⟩ := pair_cells _ _ _ _ _ hg
 rw [results_cell_tmp h, hp, hu]
 go_simp
theorem set_two {w : World} {g N : Nat} {v0 v1 : Value} {T : TypeId} (u0 u1 : Value) (hN : N ≤ g) (h : w.heap[g]? = some (.cells #[v0, v1] T (0, 0))) :
  ((w.setCell ⟨g, 0, none⟩ u0).setCell ⟨g, 1, none⟩ u1).heap[g]? = some (.cells #[u0, u1] T (0, 0)) ∧ FrT N [T] w ((w.setCell ⟨g, 0, none⟩ u0).setCell ⟨g, 1, none⟩ u1) := by
 have h0 := heap_setCell_same w g 0 _ _ u0 h
 have h1 := heap_setCell_same _ g 1 _ _ u1 h0
 exact ⟨h1, (FrT.set h (by simp) hN _).trans (FrT.set h0 (by simp) hN _)⟩
theorem Fr2.of_below {lo : Nat} {w w' : World} (h : Below w.heap.size w w') : Fr2 lo w w' := ⟨h.size, fun g _ hg => h.block g hg⟩
theorem Fr2.set {lo g : Nat} {w w' : World} (h : Fr2 lo w w') (hg : g < lo) (a b : Value) : Fr2 lo w ((w'.setCell ⟨g, 0, none⟩ a).setCell ⟨g, 1, none⟩ b) :=
 ⟨by simpa using h.1, fun k h1 h2 => by rw [heap_setCell_other _ _ _ _ (show k ≠ g by omega), heap_setCell_other _ _ _ _ (show k ≠ g by omega)]; exact h.2 k h1 h2⟩
abbrev nilV : Value := .slice none 0 0
def TabIs (l : List ObjD) (mb : Bool) (w' : World) (n : Int) (v0 v1 : Value) : Prop :=
 mb = false ∧ n = 1 ∧ v0 = nilV ∧ v1 = nilV ∨ mb = true ∧ (ownGo (dropsOf l) (bindIn l) (allTo ObjD.syms l l.length) [] = none ∧ n = 3 ∧ v0 = nilV ∧ v1 = nilV ∨
  ∃ ms defs, ownGo (dropsOf l) (bindIn l) (allTo ObjD.syms l l.length) [] = some ms ∧ DSorted defs ∧ (∀ d, d ∈ defs ↔ d ∈ ms) ∧
   ((allTo ObjD.syms l l.length).all (defdB defs) = false ∧ n = 4 ∧ v0 = nilV ∧ v1 = nilV ∨ (allTo ObjD.syms l l.length).all (defdB defs) = true ∧ n = 0 ∧ IsTab w' v0 v1 (dropsOf l) defs))
set_option maxRecDepth 100000 in
set_option maxHeartbeats 8000000 in
theorem nResolve_any (HSV : SortValsOK) (p : Option Addr) (c : Nat) (l : List ObjD) (w : World) (h : HasL 5 EObj w p l) (mb : Bool) (hyes : mb = true → (∀ o ∈ l, OkD o) ∧ l.length ≤ 8)
  (hmay : ∀ W, Below w.heap.size w W → Calls Tryz.prog 52 #[.slice p l.length c] W fun e w' => e = .returned (.bool mb) ∧ Below W.heap.size W w') :
  Calls Tryz.prog 19 #[.slice p l.length c] w fun e w' => ∃ n v0 v1, e = .returned (.tuple #[.agg #[v0, v1], errV n]) ∧ TabIs l mb w' n v0 v1 ∧ Below w.heap.size w w' := by
 have hb1 : Below w.heap.size w (w.alloc (.cells #[nilV, nilV] 49)) := (Below.refl _ w).alloc (Nat.le_refl _) _
 have hg1 := heap_alloc_new w (.cells #[nilV, nilV] 49)
 have s1 : (w.alloc (.cells #[nilV, nilV] 49)).heap.size = w.heap.size + 1 := by simp
 have HS1 := Lib.hid s1
 have HH := Lib.hid fun W (hW : Below w.heap.size w W) => h.below EObj.keeps hW
 have HM := Lib.hid hmay
 have HYES := Lib.hid hyes
 clear h hmay hyes s1
 go_enter Tryz.func19, Tryz.ntmps19
 go_upto_region 1 with fail
 generalize w.alloc (.cells #[nilV, nilV] 49) = w1 at *
 generalize hgb : w.heap.size = gb at *
 have HGB := Lib.hid hgb
 clear hgb
 have hm := HM.out w1 (by first | exact hb1 | (rw [HGB.out]; exact hb1))
 cases mb with
 | false =>
  go_wp2_with fail
  refine hm.mono ?_
  rintro e w2 ⟨rfl, hb2⟩
  have hR := (hb2.block gb (by have := HS1.out; omega)).trans hg1
  have hw := hb1.trans (hb2.mono (by first | exact hb1.size | (rw [← HGB.out]; exact hb1.size)))
  obtain ⟨⟨r0, r1⟩, r2, r3⟩ := pair_cells _ _ _ _ _ hR
  have hst := set_two nilV nilV (Nat.le_refl gb) hR
  have HST := Lib.hid hst
  have hsz : gb ≤ w2.heap.size := Nat.le_of_lt (Array.getElem?_eq_some_iff.1 hR).1
  clear hst
  go_wp2_with fail
  exact bodyPost_ret (results_ntab rfl _ _ _ _ _ _ (by rfl) (by rfl) HST.out.1) rfl ⟨1, nilV, nilV, rfl, .inl ⟨rfl, rfl, rfl, rfl⟩, by rw [HGB.out]; exact hw.trans (HST.out.2.below hsz)⟩
 | true =>
  obtain ⟨hok, hl8⟩ := HYES.out rfl
  have HOK := Lib.hid hok
  clear hok
  go_wp2_with fail
  refine hm.mono ?_
  rintro e w2 ⟨rfl, hb2⟩
  have hg2 := (hb2.block gb (by have := HS1.out; omega)).trans hg1
  have hw2 : Below gb w w2 := hb1.trans (hb2.mono (by first | exact hb1.size | (rw [← HGB.out]; exact hb1.size)))
  have hgs2 : gb < w2.heap.size := (Array.getElem?_eq_some_iff.1 hg2).1
  have hd := dropSecs_any p c l w2 (HH.out w2 (by first | exact hw2 | (rw [HGB.out]; exact hw2))) HOK.out (by omega)
  clear hb1 hb2 hg1 hm
  go_wp2_with fail
  refine hd.mono ?_
  rintro e w3 ⟨v, rfl, hD, hb3⟩
  have HALL := Lib.hid hD
  obtain ⟨pd, cd, rfl, n1, n2, n3, hDh⟩ := hD w3 (Fr2.refl _ _)
  clear hD
  have HNN := Lib.hid (And.intro n1 (And.intro n2 n3))
  clear n1 n2 n3
  have hDK : DropOK w3 pd l (dropsOf l) := ⟨hDh, by simp [dropsOf], fun i o ho => by
   have hi := (List.getElem?_eq_some_iff.1 ho).1
   have e1 : drAt (dropsOf l) i = dropOf l i := by
    unfold drAt dropsOf
    rw [List.getElem?_map, List.getElem?_range hi]
    rfl
   rw [e1]
   unfold dropOf
   rw [ho]
   exact dropTo_length l i o _⟩
  have hg3 := (hb3.block gb hgs2).trans hg2
  have hw3 : Below gb w w3 := hw2.trans (hb3.mono (by omega))
  have hgs3 : gb < w3.heap.size := (Array.getElem?_eq_some_iff.1 hg3).1
  have hdf := define_any HSV p pd c cd l (dropsOf l) w3 (HH.out w3 (by first | exact hw3 | (rw [HGB.out]; exact hw3))) HOK.out (by omega) hDK
  have HTI := Lib.hid fun (W : World) (n : Int) (v0 v1 : Value) (h : ownGo (dropsOf l) (bindIn l) (allTo ObjD.syms l l.length) [] = none ∧ n = 3 ∧ v0 = nilV ∧ v1 = nilV ∨
   ∃ ms defs, ownGo (dropsOf l) (bindIn l) (allTo ObjD.syms l l.length) [] = some ms ∧ DSorted defs ∧ (∀ d, d ∈ defs ↔ d ∈ ms) ∧
   ((allTo ObjD.syms l l.length).all (defdB defs) = false ∧ n = 4 ∧ v0 = nilV ∧ v1 = nilV ∨ (allTo ObjD.syms l l.length).all (defdB defs) = true ∧ n = 0 ∧ IsTab W v0 v1 (dropsOf l) defs)) => (show TabIs l true W n v0 v1 from .inr ⟨rfl, h⟩)
  have HDH := Lib.hid hDh
  have hms : ∀ ms, ownGo (dropsOf l) (bindIn l) (allTo ObjD.syms l l.length) [] = some ms → ms.length ≤ 100000 := fun ms hs => by
   have h1 := ownGo_len hs
   have h2 := all_len HOK.out l.length
   simp only [List.length_nil] at h1
   omega
  have HMS := Lib.hid hms
  clear hDK hDh hg2 hw2 hb3 hms
  go_wp2_with fail
  refine hdf.mono ?_
  rintro e w4 ⟨hcase, hb4⟩
  have hg4 := (hb4.block gb hgs3).trans hg3
  have HF4 : Hid (Fr2 w2.heap.size w3 w4) := Lib.hid (Fr2.of_below hb4)
  have hsz23 : gb < w3.heap.size := hgs3
  have hw4 : Below gb w w4 := hw3.trans (hb4.mono (by omega))
  have hgs4 : gb < w4.heap.size := (Array.getElem?_eq_some_iff.1 hg4).1
  have hDD4 := HDH.out.below EBools.keeps hb4
  have HDD4 := Lib.hid hDD4
  clear hb4 hdf hg3 hw3 hgs3 hDD4 HDH
  rcases hcase with ⟨hn, rfl⟩ | ⟨ms, u, defs, hs, rfl, hdef, hds, hmem, hlen⟩
  ·obtain ⟨⟨r0, r1⟩, r2, r3⟩ := pair_cells _ _ _ _ _ hg4
   have hst := set_two nilV nilV (Nat.le_refl gb) hg4
   have HST := Lib.hid hst
   have hsz : gb ≤ w4.heap.size := by omega
   have HN := Lib.hid hn
   clear hst hn
   go_wp2_with fail
   exact bodyPost_ret (results_ntab rfl _ _ _ _ _ _ (by rfl) (by rfl) HST.out.1) rfl ⟨3, nilV, nilV, rfl, HTI.out _ _ _ _ (.inl ⟨HN.out, rfl, rfl, rfl⟩), by rw [HGB.out]; exact hw4.trans (HST.out.2.below hsz)⟩
  ·have HALD := Lib.hid hdef
   obtain ⟨pf, cf, rfl, u1, u2, u3, hDf⟩ := hdef w4 (Fr2.refl _ _)
   clear hdef
   have hdl : defs.length ≤ 100000 := by rw [hlen]; exact HMS.out ms hs
   have HS := Lib.hid hs
   have HDS := Lib.hid hds
   have HMEM := Lib.hid hmem
   have HDF := Lib.hid hDf
   have HIS := Lib.hid (show IsL 3 EDef w4 (.slice pf defs.length cf) defs from ⟨pf, cf, rfl, u1, u2, u3, hDf⟩)
   clear hs hds hmem hDf hlen u1 u2 u3
   have hb5 : Below w4.heap.size w4 (w4.alloc (.cells #[.slice pd (dropsOf l).length cd, .slice pf defs.length cf] 49)) := (Below.refl _ w4).alloc (Nat.le_refl _) _
   have hgt := heap_alloc_new w4 (.cells #[.slice pd (dropsOf l).length cd, .slice pf defs.length cf] 49)
   go_upto_region 8 with fail
   generalize w4.alloc (.cells #[.slice pd (dropsOf l).length cd, .slice pf defs.length cf] 49) = w5 at *
   have hg5 := (hb5.block gb hgs4).trans hg4
   have HF5 : Hid (Fr2 w2.heap.size w4 w5 ∧ Fr2 w3.heap.size w4 w5) := Lib.hid ⟨Fr2.of_below hb5, Fr2.of_below hb5⟩
   have hw5 : Below gb w w5 := hw4.trans (hb5.mono (by omega))
   have hgs5 : gb < w5.heap.size := (Array.getElem?_eq_some_iff.1 hg5).1
   have HIS5 := Lib.hid (HIS.out.below EDef.keeps hb5)
   have HDD5 := Lib.hid (HDD4.out.below EBools.keeps hb5)
   have had := allDefined_any p pf c defs.length cf (.slice pd (dropsOf l).length cd) l defs w5 (HH.out w5 (by first | exact hw5 | (rw [HGB.out]; exact hw5))) HOK.out (by omega) (HDF.out.below EDef.keeps hb5) rfl hdl HDS.out
   obtain ⟨ab, hab⟩ : ∃ ab, ab = (allTo ObjD.syms l l.length).all (defdB defs) := ⟨_, rfl⟩
   rw [← hab] at had
   have HAB := Lib.hid hab
   have hgts : w4.heap.size < w5.heap.size := (Array.getElem?_eq_some_iff.1 hgt).1
   generalize w4.heap.size = g7 at *
   obtain ⟨⟨a0, a1⟩, _⟩ := pair_cells _ _ _ _ _ hgt
   clear hb5 hg4 hw4 hab
   go_wp2_with fail
   refine had.mono ?_
   rintro e w6 ⟨rfl, hb6⟩
   have hg6 := (hb6.block gb hgs5).trans hg5
   have HF6 : Hid (Fr2 w2.heap.size w3 w6 ∧ Fr2 w3.heap.size w4 w6) := Lib.hid ⟨HF4.out.trans (HF5.out.1.trans (Fr2.of_below hb6)), HF5.out.2.trans (Fr2.of_below hb6)⟩
   have hw6 : Below gb w w6 := hw5.trans (hb6.mono (by omega))
   have hgs6 : gb < w6.heap.size := (Array.getElem?_eq_some_iff.1 hg6).1
   have hgt6 := (hb6.block g7 hgts).trans hgt
   have HIS6 := Lib.hid (HIS5.out.below EDef.keeps hb6)
   have HDD6 := Lib.hid (HDD5.out.below EBools.keeps hb6)
   clear hb6 had a0 a1
   obtain ⟨⟨a0, a1⟩, _⟩ := pair_cells _ _ _ _ _ hgt6
   obtain ⟨⟨r0, r1⟩, r2, r3⟩ := pair_cells _ _ _ _ _ hg6
   cases ab with
   | false =>
    have hst := set_two nilV nilV (Nat.le_refl gb) hg6
    have HST := Lib.hid hst
    clear hst
    go_wp2_with fail
    exact bodyPost_ret (results_ntab rfl _ _ _ _ _ _ (by rfl) (by rfl) HST.out.1) rfl ⟨4, nilV, nilV, rfl, HTI.out _ _ _ _ (.inr ⟨ms, defs, HS.out, HDS.out, HMEM.out, .inl ⟨HAB.out.symm, rfl, rfl, rfl⟩⟩), by rw [HGB.out]; exact hw6.trans (HST.out.2.below (by omega))⟩
   | true =>
    have hst := set_two (.slice pd (dropsOf l).length cd) (.slice pf defs.length cf) (Nat.le_refl gb) hg6
    have HST := Lib.hid hst
    clear hst
    go_wp2_with fail
    exact bodyPost_ret (results_ntab rfl _ _ _ _ _ _ (by rfl) (by rfl) HST.out.1) rfl ⟨0, _, _, rfl, HTI.out _ _ _ _ (.inr ⟨ms, defs, HS.out, HDS.out, HMEM.out, .inr ⟨HAB.out.symm, rfl, HALL.out _ (HF6.out.1.set hgs2 _ _), HALD.out _ (HF6.out.2.set hsz23 _ _)⟩⟩), by rw [HGB.out]; exact hw6.trans (HST.out.2.below (by omega))⟩
end Go.Proofs.YteopgmieindojaaGreat

namespace Go.Proofs.YteopgmieindojaaGreat
open Go.RowKit
end Go.Proofs.YteopgmieindojaaGreat
