/-
  Contract of the project's readRels.
-/
import Derived.Test.YtenmcmnhiejbgaaGreatJg19
import Derived.Test.YtenmcmnhiejbgaaGreatJg16
namespace Go.Proofs.YtenmcmnhiejbgaaGreat
open Go.RowKit

/-- What readRels gives. -/
def GivesRels (N nb : Nat) (v0 : Value) (svs : List SecV) (l : List UInt8) (L : List Ten) (ns : List Int) (nm : List Bool) (sy : Int) (h : Ten) (w : World) (e : Ending) (w' : World) : Prop :=
  e = .returned (.bool (relsAt l L sy nm h).isSome) ∧ FrT N [48, 4] w w' ∧ ∀ rs, relsAt l L sy nm h = some rs → ∃ (x : Nat) (sv : SecV) (vr : Value), ns[h.h.toNat]? = some ((x + 1 : Nat) : Int) ∧ svs[x]? = some sv ∧
    w'.ownsRow N 4 1 (.slice (some ⟨nb, 0, none⟩) L.length L.length) L.length ((nm.set h.h.toNat true).map Value.bool) ∧ w'.ownsRow N 48 9 v0 svs.length ((svs.set x (sv.withRels rs vr)).flatMap SecV.cells) ∧
    w'.ownsRow w.heap.size 89 4 vr rs.length (rs.flatMap relC) ∧ ∀ r ∈ rs, r.bd
set_option maxRecDepth 100000 in
set_option maxHeartbeats 4000000 in
theorem readRels_any (N F G B B2 nb : Nat) (w0 : World) (l : List UInt8) (bp : Option Addr) (bc : Nat) (vh vn vs v0 v1 v2 v3 v4 : Value) (sy : Nat) (L : List Ten) (ns : List Int) (nm : List Bool) (svs : List SecV) (h : Ten) (w : World) (hN : w0.heap.size = N) (hw : Below N w0 w)
    (hF : w.heap[F]? = some (.cells #[.slice bp l.length bc, vh, vn, vs, .int .i64 (sy : Int)] 100 (0, 0))) (hG : w.heap[G]? = some (.cells #[v0, v1, v2, v3, v4] 27 (0, 0)))
    (hL : w.ownsRow B 104 10 vh L.length (tensV L)) (hn : w.ownsRow B2 3 1 vs ns.length (ns.map (Value.int .i64))) (hnm : w.ownsRow N 4 1 (.slice (some ⟨nb, 0, none⟩) L.length L.length) L.length (nm.map Value.bool))
    (hsv : w.ownsRow N 48 9 v0 svs.length (svs.flatMap SecV.cells)) (hnl : nm.length = L.length) (hnsl : ns.length = L.length) (hL2 : L.length ≤ 65535) (hsl : svs.length ≤ 65535)
    (hsx : ∀ t, L[h.h.toNat]? = some t → t.b = 1 → nm[h.h.toNat]? = some false → ∃ (x : Nat) (sv : SecV), ns[h.h.toNat]? = some ((x + 1 : Nat) : Int) ∧ svs[x]? = some sv ∧ sv.r = .slice none 0 0 ∧ sv.s.rels = [])
    (hmh : h.may) (ht : Has w0 bp l) (h1 : l.length ≤ bc) (h2 : bc ≤ maxLen) (hbig : l.length ≤ 100000) :
    Calls Tryz.prog 48 #[filP F, h.v, filP G, .slice (some ⟨nb, 0, none⟩) L.length L.length] w (GivesRels N nb v0 svs l L ns nm (sy : Int) h w) := by
  obtain ⟨i0, hi, hz0, hz1, hz2⟩ := info_parts Tryz.infoRel
  have HI := Lib.hid hi
  have H0 := Lib.hid hz0
  have H1 := Lib.hid hz1
  have H2 := Lib.hid hz2
  have hth := (fitsB_iff _).1 (hmh h.h (by simp [Ten.l]))
  have hte := (fitsB_iff _).1 (hmh h.e (by simp [Ten.l]))
  have htf := (fitsB_iff _).1 (hmh h.f (by simp [Ten.l]))
  obtain ⟨th, hth2⟩ := Int.eq_ofNat_of_zero_le hth.1
  obtain ⟨te, hte2⟩ := Int.eq_ofNat_of_zero_le hte.1
  obtain ⟨tf, htf2⟩ := Int.eq_ofNat_of_zero_le htf.1
  have htec : te ≤ 2147483647 ∧ tf ≤ 2147483647 := ⟨by omega, by omega⟩
  have hgv : GivesRels N nb v0 svs l L ns nm (sy : Int) h w = fun e w' => e = .returned (.bool (relsAt l L (sy : Int) nm h).isSome) ∧ FrT N [48, 4] w w' ∧ ∀ rs, relsAt l L (sy : Int) nm h = some rs → ∃ (x : Nat) (sv : SecV) (vr : Value), ns[th]? = some ((x + 1 : Nat) : Int) ∧ svs[x]? = some sv ∧
    w'.ownsRow N 4 1 (.slice (some ⟨nb, 0, none⟩) L.length L.length) L.length ((nm.set th true).map Value.bool) ∧ w'.ownsRow N 48 9 v0 svs.length ((svs.set x (sv.withRels rs vr)).flatMap SecV.cells) ∧
    w'.ownsRow w.heap.size 89 4 vr rs.length (rs.flatMap relC) ∧ ∀ r ∈ rs, r.bd := by unfold GivesRels; rw [hth2]; rfl
  rw [hgv]
  have hres : relsAt l L (sy : Int) nm h = bif (h.j == 24) && (h.f.tmod 24 == 0) then
    bif h.g != (sy : Int) then none else bif isTy L th 1 then bif nm[th]?.getD true then none else relGo l (te : Int) 0 (tf / 24) [] else none
    else none := by unfold relsAt; rw [hth2, hte2, htf2]; rfl
  rw [hth2] at hsx
  simp only [Int.toNat_natCast] at hsx
  clear hgv
  generalize relsAt l L (sy : Int) nm h = res at *
  have hFG : F ≠ G := fun e => by
    subst e
    rw [hF] at hG
    injection hG with h
    injection h with _ h2
    exact absurd h2 (by decide)
  have hb1 : Below w.heap.size w (w.alloc (.cells #[.int .i64 h.a, .int .i64 h.b, .int .i64 h.c, .int .i64 h.d, .int .i64 h.e, .int .i64 h.f, .int .i64 h.g, .int .i64 h.h, .int .i64 h.i, .int .i64 h.j] 104)) := (Below.refl _ w).alloc (Nat.le_refl _) _
  have hten := heap_new w (.cells #[.int .i64 h.a, .int .i64 h.b, .int .i64 h.c, .int .i64 h.d, .int .i64 h.e, .int .i64 h.f, .int .i64 h.g, .int .i64 h.h, .int .i64 h.i, .int .i64 h.j] 104)
  have hF1 := FrT.heap (N := N) (Ts := []) (FrT.of_below hb1) hF (by simp)
  have hG1 := FrT.heap (N := N) (Ts := []) (FrT.of_below hb1) hG (by simp)
  have HL1 := Lib.hid (owns_belowN hL hb1)
  have HN1 := Lib.hid (owns_belowN hn hb1)
  have HM1 := Lib.hid (owns_belowN hnm hb1)
  have HS1 := Lib.hid (owns_belowN hsv hb1)
  have HB1 := Lib.hid hb1
  have HF1 := Lib.hid hF1
  have HG1 := Lib.hid hG1
  have HTEN := Lib.hid hten
  have HRES := Lib.hid hres
  have HSX := Lib.hid hsx
  have HW := Lib.hid hw
  have HHAS := Lib.hid ht
  have HTH := Lib.hid hth2
  have HTE := Lib.hid hte2
  have HTF := Lib.hid htf2
  have hwN : N ≤ w.heap.size := by have := hw.size; omega
  generalize hln : L.length = ln at *
  have HLN := Lib.hid hln
  have HNL := Lib.hid hnl
  have HNSL := Lib.hid hnsl
  clear hi hz0 hz1 hz2 hb1 hten hF1 hG1 hL hn hnm hsv hF hG hres hsx hw ht hth hte htf hth2 hte2 htf2 hln hnl hnsl hmh
  go_enter Tryz.func48, Tryz.ntmps48
  go_upto_region 1 with fail
  generalize w.alloc (.cells #[.int .i64 h.a, .int .i64 h.b, .int .i64 h.c, .int .i64 h.d, .int .i64 h.e, .int .i64 h.f, .int .i64 h.g, .int .i64 h.h, .int .i64 h.i, .int .i64 h.j] 104) = W1 at *
  have hten := HTEN.out
  rw [HTH.out, HTE.out, HTF.out] at hten
  have HTEN := Lib.hid hten
  obtain ⟨d0, d1, d2, d3, d4, d5, d6, d7, d8, d9⟩ := cells_ten _ _ _ _ _ _ _ _ _ _ _ _ _ hten
  obtain ⟨⟨c0, c1, c2, c3, c4⟩, f0, f1, f2, f3, f4⟩ := cells5 _ _ _ _ _ _ _ _ HF1.out
  have HIL : Hid (∀ W, Calls Tryz.prog 89 #[.agg #[.int .i64 h.a, .int .i64 h.b, .int .i64 h.c, .int .i64 h.d, .int .i64 (te : Int), .int .i64 (tf : Int), .int .i64 h.g, .int .i64 (th : Int), .int .i64 h.i, .int .i64 h.j], .int .i64 24] W fun e w' => e = .returned (.bool ((h.j == 24) && (h.f.tmod 24 == 0))) ∧ Below W.heap.size W w') := Lib.hid fun W => by
    have := isListOf_any h 24 W (by decide) (by decide)
    rw [show h.v = .agg #[.int .i64 h.a, .int .i64 h.b, .int .i64 h.c, .int .i64 h.d, .int .i64 (te : Int), .int .i64 (tf : Int), .int .i64 h.g, .int .i64 (th : Int), .int .i64 h.i, .int .i64 h.j] by rw [← HTE.out, ← HTF.out, ← HTH.out]] at this
    exact this
  have HTY : Hid (∀ W, Below W1.heap.size W1 W → Calls Tryz.prog 85 #[filP F, .int .i64 (th : Int), .int .i64 1] W fun e w' => e = .returned (.bool (isTy L th 1)) ∧ w' = W) := Lib.hid fun W hW => by
    obtain ⟨⟨_, q1, _⟩, _⟩ := cells5 _ _ _ _ _ _ _ _ ((hW.block F (Array.getElem?_eq_some_iff.1 HF1.out).1).trans HF1.out)
    obtain ⟨p', c2, e, _, _, _, hte⟩ := tens_has (by rw [HLN.out]; exact owns_belowN HL1.out hW)
    rw [HLN.out] at e
    rw [e] at q1
    exact isType_any F th 1 _ _ L W (by rw [HLN.out]; exact q1) hte
  obtain ⟨ba, hba⟩ : ∃ ba, ba = ((h.j == 24) && (h.f.tmod 24 == 0)) := ⟨_, rfl⟩
  obtain ⟨bb, hbb⟩ : ∃ bb, bb = (h.g != (sy : Int)) := ⟨_, rfl⟩
  obtain ⟨bc2, hbc⟩ : ∃ bc2, bc2 = isTy L th 1 := ⟨_, rfl⟩
  obtain ⟨bd, hbd⟩ : ∃ bd, bd = nm[th]?.getD true := ⟨_, rfl⟩
  have hR1 := HRES.out
  rw [← hba, ← hbb, ← hbc, ← hbd] at hR1
  rw [← hba] at HIL
  rw [← hbc] at HTY
  have HR1 := Lib.hid hR1
  have HBA := Lib.hid hba
  have HBC := Lib.hid hbc
  have HBD := Lib.hid hbd
  have hbb2 := hbb.symm
  clear hR1 hba hbb hbc hbd hten HRES
  go_cut [38] (fun s38 wx => s38 = .bool (!(ba && (!bb && (bc2 && !bd)))) ∧ Below W1.heap.size W1 wx)
  case first =>
    cases ba with
    | false =>
      refine wp_region_below (by kernel_rfl) (by kernel_rfl) ?_
      repeat (go_big_quiet_step (first
        | (intro hWq; go_at_call 89; refine (HIL.out _).mono ?_; rintro e w' ⟨rfl, hb⟩; exact ⟨rfl, hWq.trans (hb.mono hWq.size)⟩)
        | (intro hWq; go_at_call 85; refine (HTY.out _ hWq).mono ?_; rintro e w' ⟨rfl, rfl⟩; exact ⟨rfl, hWq⟩)
        | (intro hWq; have e0 := cell_later hWq d0; have e1 := cell_later hWq d1; have e2 := cell_later hWq d2; have e3 := cell_later hWq d3; have e4 := cell_later hWq d4; have e5 := cell_later hWq d5; have e6 := cell_later hWq d6; have e7 := cell_later hWq d7; have e8 := cell_later hWq d8; have e9 := cell_later hWq d9; have e10 := cell_later hWq c4; go_simp; first | done | rfl | exact ⟨rfl, rfl⟩ | fail)
        | fail))
      refine wpQuiet_nil ?_
      intro wx hwx
      go_wp2_with fail
      go_meet
      exact ⟨rfl, hwx⟩
    | true =>
      cases bb with
      | true =>
        refine wp_region_below (by kernel_rfl) (by kernel_rfl) ?_
        repeat (go_big_quiet_step (first
          | (intro hWq; go_at_call 89; refine (HIL.out _).mono ?_; rintro e w' ⟨rfl, hb⟩; exact ⟨rfl, hWq.trans (hb.mono hWq.size)⟩)
          | (intro hWq; go_at_call 85; refine (HTY.out _ hWq).mono ?_; rintro e w' ⟨rfl, rfl⟩; exact ⟨rfl, hWq⟩)
          | (intro hWq; have e0 := cell_later hWq d0; have e1 := cell_later hWq d1; have e2 := cell_later hWq d2; have e3 := cell_later hWq d3; have e4 := cell_later hWq d4; have e5 := cell_later hWq d5; have e6 := cell_later hWq d6; have e7 := cell_later hWq d7; have e8 := cell_later hWq d8; have e9 := cell_later hWq d9; have e10 := cell_later hWq c4; go_simp; first | done | rfl | exact ⟨rfl, rfl⟩ | fail)
          | fail))
        refine wpQuiet_nil ?_
        intro wx hwx
        go_wp2_with fail
        go_meet
        exact ⟨rfl, hwx⟩
      | false =>
        cases bc2 with
        | false =>
          refine wp_region_below (by kernel_rfl) (by kernel_rfl) ?_
          repeat (go_big_quiet_step (first
            | (intro hWq; go_at_call 89; refine (HIL.out _).mono ?_; rintro e w' ⟨rfl, hb⟩; exact ⟨rfl, hWq.trans (hb.mono hWq.size)⟩)
            | (intro hWq; go_at_call 85; refine (HTY.out _ hWq).mono ?_; rintro e w' ⟨rfl, rfl⟩; exact ⟨rfl, hWq⟩)
            | (intro hWq; have e0 := cell_later hWq d0; have e1 := cell_later hWq d1; have e2 := cell_later hWq d2; have e3 := cell_later hWq d3; have e4 := cell_later hWq d4; have e5 := cell_later hWq d5; have e6 := cell_later hWq d6; have e7 := cell_later hWq d7; have e8 := cell_later hWq d8; have e9 := cell_later hWq d9; have e10 := cell_later hWq c4; go_simp; first | done | rfl | exact ⟨rfl, rfl⟩ | fail)
            | fail))
          refine wpQuiet_nil ?_
          intro wx hwx
          go_wp2_with fail
          go_meet
          exact ⟨rfl, hwx⟩
        | true =>
          have hlt : th < ln := by
            have h := HBC.out
            unfold isTy at h
            cases hq : L[th]? with
            | none => rw [hq] at h; cases h
            | some t => have := (List.getElem?_eq_some_iff.1 hq).1; rw [HLN.out] at this; exact this
          have k1 : (0 : Int) ≤ (th : Int) := by omega
          have k2 : (th : Int) < (ln : Int) := by omega
          obtain ⟨bv, hbv⟩ : ∃ bv, nm[th]? = some bv := ⟨_, List.getElem?_eq_getElem (by rw [HNL.out]; exact hlt)⟩
          have hbd2 : bd = bv := by rw [HBD.out, hbv]; rfl
          have cn : W1.cell? ⟨nb, th, none⟩ = some (.bool bd) := (HM1.out.cellAt th (by omega)).trans (by rw [List.getElem?_map, hbv, hbd2]; rfl)
          clear hbv hbd2 hlt
          refine wp_region_below (by kernel_rfl) (by kernel_rfl) ?_
          repeat (go_big_quiet_step (first
            | (intro hWq; go_at_call 89; refine (HIL.out _).mono ?_; rintro e w' ⟨rfl, hb⟩; exact ⟨rfl, hWq.trans (hb.mono hWq.size)⟩)
            | (intro hWq; go_at_call 85; refine (HTY.out _ hWq).mono ?_; rintro e w' ⟨rfl, rfl⟩; exact ⟨rfl, hWq⟩)
            | (intro hWq; have e0 := cell_later hWq d0; have e1 := cell_later hWq d1; have e2 := cell_later hWq d2; have e3 := cell_later hWq d3; have e4 := cell_later hWq d4; have e5 := cell_later hWq d5; have e6 := cell_later hWq d6; have e7 := cell_later hWq d7; have e8 := cell_later hWq d8; have e9 := cell_later hWq d9; have e10 := cell_later hWq c4; have e11 := cell_later hWq cn; go_simp; first | done | rfl | exact ⟨rfl, rfl⟩ | fail)
            | fail))
          refine wpQuiet_nil ?_
          intro wx hwx
          go_wp2_with fail
          go_meet
          exact ⟨by cases bd <;> rfl, hwx⟩
  case rest =>
    obtain ⟨rfl, hbx⟩ := hcut
    obtain ⟨q, hq⟩ : ∃ q, q = !(ba && (!bb && (bc2 && !bd))) := ⟨_, rfl⟩
    have hR2 := HR1.out
    have hFx := FrT.heap (N := N) (Ts := []) (FrT.of_below hbx) HF1.out (by simp)
    have hGx := FrT.heap (N := N) (Ts := []) (FrT.of_below hbx) HG1.out (by simp)
    have hTx := FrT.heap (N := N) (Ts := []) (FrT.of_below hbx) HTEN.out (by simp)
    have HLx := Lib.hid (owns_belowN HL1.out hbx)
    have HNx := Lib.hid (owns_belowN HN1.out hbx)
    have HMx := Lib.hid (owns_belowN HM1.out hbx)
    have HSx := Lib.hid (owns_belowN HS1.out hbx)
    have HBx := Lib.hid (HB1.out.trans (hbx.mono HB1.out.size))
    have HFx := Lib.hid hFx
    have HGx := Lib.hid hGx
    have HTx := Lib.hid hTx
    clear d0 d1 d2 d3 d4 d5 d6 d7 d8 d9 c0 c1 c2 c3 c4 f0 f1 f2 f3 f4 HF1 HG1 HTEN HL1 HN1 HM1 HS1 HB1 HIL HTY hbx hbb2
    rw [← hq]
    cases q with
    | true =>
      have hE : Hid (res = none) := Lib.hid (by
        rw [hR2]
        cases ba <;> cases bb <;> cases bc2 <;> cases bd <;> first | rfl | cases hq)
      clear hR2 hq
      go_wp2_with fail
      go_ret
      refine ⟨by rw [hE.out]; rfl, FrT.of_below HBx.out, fun rs hrs => ?_⟩
      rw [hE.out] at hrs
      cases hrs
    | false =>
      obtain ⟨rfl, rfl, rfl, rfl⟩ : ba = true ∧ bb = false ∧ bc2 = true ∧ bd = false := by
        cases ba <;> cases bb <;> cases bc2 <;> cases bd <;> first | exact ⟨rfl, rfl, rfl, rfl⟩ | cases hq
      have hR3 : res = relGo l (te : Int) 0 (tf / 24) [] := hR2
      obtain ⟨t, htL, hb1⟩ : ∃ t, L[th]? = some t ∧ t.b = 1 := by
        have h := HBC.out
        unfold isTy at h
        cases hq : L[th]? with
        | none => rw [hq] at h; cases h
        | some t => rw [hq] at h; exact ⟨t, rfl, by simpa using h.symm⟩
      have hlt : th < ln := by have := (List.getElem?_eq_some_iff.1 htL).1; rw [HLN.out] at this; exact this
      have hnmf : nm[th]? = some false := by
        have h := HBD.out
        obtain ⟨bv, hbv⟩ : ∃ bv, nm[th]? = some bv := ⟨_, List.getElem?_eq_getElem (by rw [HNL.out]; exact hlt)⟩
        rw [hbv] at h ⊢
        exact congrArg some h.symm
      obtain ⟨x, sv, hnx, hsx, hsr, hsrl⟩ := HSX.out t htL hb1 hnmf
      obtain ⟨m, hm⟩ : ∃ m, tf = 24 * m := by
        have h2 : (tf : Int).tmod 24 = 0 := by
          have h3 := HBA.out.symm
          simp only [Bool.and_eq_true, beq_iff_eq] at h3
          rw [← HTF.out]
          exact h3.2
        exact ⟨tf / 24, by have h5 : ((tf % 24 : Nat) : Int) = 0 := h2; omega⟩
      have HR4 : Hid (res = relGo l (te : Int) 0 m []) := Lib.hid (by rw [hR3, hm, Nat.mul_div_cancel_left m (by decide)])
      have HX := Lib.hid hsx
      have HXR := Lib.hid hsr
      have HXL := Lib.hid hsrl
      have HNXX := Lib.hid hnx
      have HTM := Lib.hid hm
      clear hR2 hq hR3 htL hb1 hnmf hsx hsr hsrl hnx hm HSX HBD HBC HBA HR1
      obtain ⟨b0, cap0, rfl, hb0, hb0s⟩ := HSx.out.form (by have := (List.getElem?_eq_some_iff.1 HX.out).1; omega)
      obtain ⟨bn, capn, rfl, hbn, hbns⟩ := HNx.out.form (by rw [HNSL.out]; omega)
      have hxl : x < svs.length := (List.getElem?_eq_some_iff.1 HX.out).1
      have hcn : wc.cell? ⟨bn, th, none⟩ = some (.int .i64 ((x + 1 : Nat) : Int)) := (HNx.out.cellAt th (by rw [HNSL.out]; omega)).trans (by rw [List.getElem?_map, HNXX.out]; rfl)
      have hFx := HFx.out
      rw [HNSL.out] at hFx
      have HFx := Lib.hid hFx
      obtain ⟨bv, hbv⟩ : ∃ bv, nm[th]? = some bv := ⟨_, List.getElem?_eq_getElem (by rw [HNL.out]; exact hlt)⟩
      have cm : wc.cell? ⟨nb, th, none⟩ = some (.bool bv) := (HMx.out.cellAt th (by omega)).trans (by rw [List.getElem?_map, hbv]; rfl)
      have fm := HMx.out.frozenAt th
      have hst := HMx.out.stored th (.bool true)
      rw [← show (nm.set th true).map Value.bool = (nm.map Value.bool).set th (.bool true) from List.map_set] at hst
      have hfr : FrT N [48, 4] wc (wc.setCell ⟨nb, th, none⟩ (.bool true)) := FrT.grown (N := N) HMx.out hst.2 (by simp) (Nat.le_refl _)
      have k1 : (0 : Int) ≤ (th : Int) := by omega
      have k2 : (th : Int) < (ln : Int) := by omega
      have HST := Lib.hid hst.1
      have HFR := Lib.hid hfr
      obtain ⟨d0, d1, d2, d3, d4, d5, d6, d7, d8, d9⟩ := cells_ten _ _ _ _ _ _ _ _ _ _ _ _ _ HTx.out
      clear hst hfr hFx hbv
      go_upto_region 4 with fail
      have hF2 := HFR.out.heap HFx.out (by decide)
      have hG2 := HFR.out.heap HGx.out (by decide)
      have hT2 := HFR.out.heap HTx.out (by decide)
      have hsb : FrT N [4] wc (wc.setCell ⟨nb, th, none⟩ (.bool true)) := FrT.grown (N := N) HMx.out (HMx.out.stored th (.bool true)).2 (by simp) (Nat.le_refl _)
      have hcn2 := (HFR.out.owns HNx.out (by decide)).cellAt th (by rw [HNSL.out]; omega)
      rw [show (ns.map (Value.int .i64))[th]? = some (.int .i64 ((x + 1 : Nat) : Int)) by rw [List.getElem?_map, HNXX.out]; rfl] at hcn2
      have HS2 := Lib.hid (hsb.owns HSx.out (by decide))
      have hbN2 : Below N w0 (wc.setCell ⟨nb, th, none⟩ (.bool true)) := HW.out.trans ((HBx.out.mono hwN).trans (hsb.below (by have := HBx.out.size; omega)))
      have HF2 := Lib.hid hF2
      have HG2 := Lib.hid hG2
      have HT2 := Lib.hid hT2
      have HBN2 := Lib.hid hbN2
      have HFR2 : Hid (FrT N [48, 4] w (wc.setCell ⟨nb, th, none⟩ (.bool true))) := Lib.hid ((FrT.of_below HBx.out).trans HFR.out)
      clear d0 d1 d2 d3 d4 d5 d6 d7 d8 d9 cm fm hcn hF2 hG2 hT2 hsb hbN2 HFR HFx HGx HTx HMx HSx
      generalize wc.setCell ⟨nb, th, none⟩ (.bool true) = W2 at *
      obtain ⟨⟨c0, c1, c2, c3, c4⟩, f0, f1, f2, f3, f4⟩ := cells5 _ _ _ _ _ _ _ _ HF2.out
      obtain ⟨⟨g0, g1, g2, g3, g4⟩, _⟩ := cells5 _ _ _ _ _ _ _ _ HG2.out
      obtain ⟨d0, d1, d2, d3, d4, d5, d6, d7, d8, d9⟩ := cells_ten _ _ _ _ _ _ _ _ _ _ _ _ _ HT2.out
      have k3 : IntKind.i64.wrap (((x + 1 : Nat) : Int) - 1) = (x : Int) := by rw [show ((x + 1 : Nat) : Int) - 1 = (x : Int) by omega]; exact IntWalk.i64_in _ (by omega)
      have k6 : IntKind.i64.wrap (x : Int) = (x : Int) := IntWalk.i64_in _ (by omega)
      have k4 : (0 : Int) ≤ (x : Int) := by omega
      have k5 : (x : Int) < (svs.length : Int) := by omega
      go_cut [9] (fun s9 wx => s9 = .pointer (some ⟨b0, x * 9, none⟩) ∧ Below W2.heap.size W2 wx)
      case first =>
        go_region
        go_wp2_with fail
        go_meet
        exact ⟨rfl, (Below.refl _ W2).drew⟩
      case rest =>
        obtain ⟨rfl, hbx⟩ := hcut
        have HFR3 := Lib.hid (HFR2.out.trans (FrT.of_below hbx))
        have HT3 := Lib.hid (FrT.heap (N := N) (Ts := []) (FrT.of_below hbx) HT2.out (by simp))
        have HF3 := Lib.hid (FrT.heap (N := N) (Ts := []) (FrT.of_below hbx) HF2.out (by simp))
        have HS3 := Lib.hid (owns_belowN HS2.out hbx)
        have HM3 := Lib.hid (owns_belowN HST.out hbx)
        have HBN3 := Lib.hid (HBN2.out.trans (hbx.mono (by have := HBN2.out.size; omega)))
        clear d0 d1 d2 d3 d4 d5 d6 d7 d8 d9 c0 c1 c2 c3 c4 f0 f1 f2 f3 f4 g0 g1 g2 g3 g4 hcn2 HT2 HF2 HG2 HS2 HST HFR2 HBN2 HNx HBx HLx hbx k1 k2 k3 k4 k5 k6
        generalize wc = W3 at *
        have hzg : ∀ W (p : Nat), FrT N [48, 4] W3 W → p ≤ 100000000000 → Calls Tryz.prog 91 #[.slice bp l.length bc, .int .i64 (p : Int)] W fun e w' => e = .returned (.tuple #[(relV (relAt l (p : Int))).1, .bool (relV (relAt l (p : Int))).2]) ∧ Below W.heap.size W w' := fun W p hW hp => by
          have hbW : Below w0.heap.size w0 W := by
            rw [hN]
            exact HBN3.out.trans (hW.below (by have := HBN3.out.size; omega))
          exact zget_ok bp l.length bc l (p : Int) W (HHAS.out.below hbW) rfl h1 h2 hbig (by omega) (by omega)
        have HZG := Lib.hid hzg
        have hfl : (svs.set x (sv.withRels [] (.slice none 0 0))) = svs := by
          have : sv.withRels [] (.slice none 0 0) = sv := by
            unfold SecV.withRels
            rw [← HXR.out, ← HXL.out]
          rw [this]
          exact set_same HX.out
        have HS4 : Hid (W3.ownsRow N 48 9 (.slice (some ⟨b0, 0, none⟩) svs.length cap0) svs.length ((svs.set x (sv.withRels [] (.slice none 0 0))).flatMap SecV.cells)) := Lib.hid (by rw [hfl]; exact HS3.out)
        obtain ⟨d0, d1, d2, d3, d4, d5, d6, d7, d8, d9⟩ := cells_ten _ _ _ _ _ _ _ _ _ _ _ _ _ HT3.out
        clear hzg hfl HS3
        go_wp2_with fail
        go_loopw [10] (fun r10 wr => ∃ (i p : Nat) (acc : List RelD) (vr : Value), i ≤ m ∧ r10 = .int .i64 (p : Int) ∧ p = te + 24 * i ∧ res = relGo l (te : Int) i (m - i) acc ∧
          wr.ownsRow N 48 9 (.slice (some ⟨b0, 0, none⟩) svs.length cap0) svs.length ((svs.set x (sv.withRels acc vr)).flatMap SecV.cells) ∧ wr.ownsRow W3.heap.size 89 4 vr acc.length (acc.flatMap relC) ∧ (∀ y ∈ acc, y.bd) ∧ FrT N [48] W3 wr ∧ acc.length = i) (fun r10 _ => (te + tf) - (intOf r10).toNat)
        case atStart => exact ⟨0, te, [], _, Nat.zero_le _, rfl, rfl, HR4.out, HS4.out, World.ownsRow_nil _ _ _ _, (fun y hy => by cases hy), FrT.refl _ _ _, rfl⟩
        case round =>
          obtain ⟨i, p, acc, vr, hi, rfl, hp, hgo, hsr, hown, hall, hfr, hal⟩ := hrel
          have HGO := Lib.hid hgo
          have HFR := Lib.hid hfr
          have HSR := Lib.hid hsr
          have HOWN := Lib.hid hown
          have HALL := Lib.hid hall
          have HP := Lib.hid hp
          have HAL := Lib.hid hal
          have hsz := hfr.size
          have htm := HTM.out
          have hg7 := hfr.heap HT3.out (by decide)
          have hF7 := hfr.heap HF3.out (by decide)
          have hpb : p ≤ 100000000000 := by omega
          have hpp : p < te + tf ↔ i < m := by omega
          clear d0 d1 d2 d3 d4 d5 d6 d7 d8 d9
          obtain ⟨d0, d1, d2, d3, d4, d5, d6, d7, d8, d9⟩ := cells_ten _ _ _ _ _ _ _ _ _ _ _ _ _ hg7
          obtain ⟨⟨c0, c1, c2, c3, c4⟩, f0, f1, f2, f3, f4⟩ := cells5 _ _ _ _ _ _ _ _ hF7
          have k7 : IntKind.i64.wrap ((te : Int) + (tf : Int)) = ((te + tf : Nat) : Int) := by rw [show (te : Int) + (tf : Int) = ((te + tf : Nat) : Int) by omega]; exact IntWalk.i64_in _ (by omega)
          have k8 : IntKind.i64.wrap ((p : Int) + 24) = ((p + 24 : Nat) : Int) := by rw [show (p : Int) + 24 = ((p + 24 : Nat) : Int) by omega]; exact IntWalk.i64_in _ (by omega)
          generalize hsum : te + tf = sum at *
          have HSUM := Lib.hid hsum
          clear hgo hfr hsr hown hall hp hg7 hF7 htm hsum hal
          by_cases hlt2 : i < m
          · have hJ : (p : Int) < (sum : Int) := by have := hpp.2 hlt2; omega
            have hst : Hid (res = match relAt l (p : Int) with
              | none => none
              | some t => relGo l (te : Int) (i + 1) (m - (i + 1)) (acc ++ [relOf t])) := Lib.hid (by
                rw [HGO.out, show m - i = (m - (i + 1)) + 1 by omega, relGo_step, show (te : Int) + 24 * (i : Int) = (p : Int) by have := HP.out; omega]
                rfl)
            have hz := HZG.out wr p (HFR.out.mono (by simp)) hpb
            obtain ⟨t, ok, hsv, hok1, hok0⟩ : ∃ (t : Fou) (ok : Bool), relV (relAt l (p : Int)) = (t.v, ok) ∧ (ok = true → relAt l (p : Int) = some t) ∧ (ok = false → relAt l (p : Int) = none) := by
              cases relAt l (p : Int) with
              | none => exact ⟨fou0, false, rfl, (fun h => by cases h), fun _ => rfl⟩
              | some t => exact ⟨t, true, rfl, (fun _ => rfl), fun h => by cases h⟩
            rw [hsv] at hz
            have HZ : Hid (Calls Tryz.prog 91 #[.slice bp l.length bc, .int .i64 (p : Int)] wr fun e w' => e = .returned (.tuple #[.agg #[.int .i64 t.a, .int .i64 t.b, .int .i64 t.c, .int .i64 t.d], .bool ok]) ∧ Below wr.heap.size wr w') := Lib.hid hz
            have HOK1 := Lib.hid hok1
            have HOK0 := Lib.hid hok0
            clear hz hsv hok1 hok0 hpp
            go_upto_region 8 with fail
            go_wp2_with fail
            refine HZ.out.mono ?_
            rintro e w7 ⟨rfl, hb7⟩
            go_upto_region 9 with fail
            have hb8 := hb7.alloc hb7.size (.cells #[.int .i64 t.a, .int .i64 t.b, .int .i64 t.c, .int .i64 t.d] 89)
            have hx8 := heap_alloc_new w7 (.cells #[.int .i64 t.a, .int .i64 t.b, .int .i64 t.c, .int .i64 t.d] 89)
            generalize w7.alloc (.cells #[.int .i64 t.a, .int .i64 t.b, .int .i64 t.c, .int .i64 t.d] 89) = w8 at *
            generalize w7.heap.size = gs at *
            have HB8 := Lib.hid hb8
            have HF8 : Hid (FrT N [48] W3 w8) := Lib.hid (HFR.out.trans (FrT.of_below hb8))
            have hs0 := (cell_of_row w8 gs 0 _ _ (0, 0) hx8).trans rfl
            have hs1 := (cell_of_row w8 gs 1 _ _ (0, 0) hx8).trans rfl
            have hs2 := (cell_of_row w8 gs 2 _ _ (0, 0) hx8).trans rfl
            have hs3 := (cell_of_row w8 gs 3 _ _ (0, 0) hx8).trans rfl
            clear d0 d1 d2 d3 d4 d5 d6 d7 d8 d9 c0 c1 c2 c3 c4 f0 f1 f2 f3 f4 hb7 hb8 hx8
            cases ok with
            | false =>
              have hE : Hid (res = none) := Lib.hid (by rw [hst.out, HOK0.out rfl])
              go_wp2_with fail
              go_ret
              refine ⟨by rw [hE.out]; rfl, HFR3.out.trans (HF8.out.mono (by simp)), fun rs hrs => ?_⟩
              rw [hE.out] at hrs
              cases hrs
            | true =>
              have hst2 : Hid (res = relGo l (te : Int) (i + 1) (m - (i + 1)) (acc ++ [relOf t])) := Lib.hid (by rw [hst.out, HOK1.out rfl])
              have hbd := Lib.hid (relAt_bd (HOK1.out rfl))
              have hss := owns_belowN HSR.out HB8.out
              have hoo := owns_belowN HOWN.out HB8.out
              have hxs : (svs.set x (sv.withRels acc vr))[x]? = some (sv.withRels acc vr) := List.getElem?_set_self hxl
              have hsl2 : (svs.set x (sv.withRels acc vr)).length = svs.length := List.length_set
              have c8 : w8.cell? ⟨b0, x * 9 + 8, none⟩ = some vr := row_cell (k := 9) (f := SecV.cells) (fun _ => rfl) hss hxs rfl hsl2
              have HSS := Lib.hid hss
              have HOO := Lib.hid hoo
              have hab : acc.length ≤ 2147483647 := by have := HTM.out; have := HAL.out; omega
              have hs8 := HF8.out.size
              have c8a := cell_later ((Below.refl _ w8).alloc (Nat.le_refl _) (.cells #[.int .i64 t.a, .int .i64 t.b, .int .i64 t.c, .int .i64 t.d] 89)) c8
              clear hss hoo hxs hsl2
              go_upto_region 11 with fail
              go_region_law (first
                | (refine step_append_lies _ (by rfl) _ _ _ (by rfl) W3.heap.size 89 i0 _ 4 32 Tryz.underlying46 HI.out H0.out H1.out H2.out rfl (by decide) _ acc.length _ (by rfl) ((HOO.out.alloc _).drew) ⟨w8.heap.size, 0, none⟩ 1 1 (relC (relOf t)) (by rfl) (by rfl) (ten_cell_at w8 #[.int .i64 t.a, .int .i64 t.b, .int .i64 t.c, .int .i64 t.d] 89) (rel_cells_one _) (by omega) (by unfold maxLen; omega) (by omega) (by simp; omega) _ rfl ?_
                   intro g3 cap3 w9 hown9 hgrow9 _ _
                   have hfg : FrT 0 [89] _ w9 := FrT.grown ((HOO.out.alloc _).drew) hgrow9 (by simp) (Nat.zero_le _)
                   have hsr9 := hfg.owns ((HSS.out.alloc (.cells #[.int .i64 t.a, .int .i64 t.b, .int .i64 t.c, .int .i64 t.d] 89)).drew) (by decide)
                   have hf9 : FrT N [48] W3 w9 := (HF8.out.trans (FrT.of_below (((Below.refl _ w8).alloc (Nat.le_refl _) (.cells #[.int .i64 t.a, .int .i64 t.b, .int .i64 t.c, .int .i64 t.d] 89)).drew))).grownNew hgrow9 (fun g hg => (HOO.out.lt g hg).1)
                   have z8 := hsr9.frozenAt (x * 9 + 8)
                   have y8 : w9.cell? ⟨b0, x * 9 + 8, none⟩ = some vr := row_cell (k := 9) (f := SecV.cells) (fun _ => rfl) hsr9 (List.getElem?_set_self hxl) rfl List.length_set
                   rw [← flat_snoc] at hown9)
                | fail)
              all_goals
                have hst9 := hsr9.stored (x * 9 + 8) (.slice (some ⟨g3, 0, none⟩) (acc.length + 1) cap3)
                have hset : ((svs.set x (sv.withRels acc vr)).flatMap SecV.cells).set (x * 9 + 8) (.slice (some ⟨g3, 0, none⟩) (acc.length + 1) cap3) = (svs.set x (sv.withRels (acc ++ [relOf t]) (.slice (some ⟨g3, 0, none⟩) (acc.length + 1) cap3))).flatMap SecV.cells := rels_set svs x sv _ _ _ _ hxl
                rw [hset] at hst9
                have hf7 : FrT N [48] w9 (w9.setCell ⟨b0, x * 9 + 8, none⟩ (.slice (some ⟨g3, 0, none⟩) (acc.length + 1) cap3)) := FrT.grown hsr9 hst9.2 (by simp) (Nat.le_refl _)
                have HS7 := Lib.hid hst9.1
                have HO7 := Lib.hid (hf7.owns hown9 (by decide))
                have HR7 : Hid (FrT N [48] W3 (w9.setCell ⟨b0, x * 9 + 8, none⟩ (.slice (some ⟨g3, 0, none⟩) (acc.length + 1) cap3))) := Lib.hid (hf9.trans hf7)
                clear hst9 hset hf7 hf9 hfg hsr9 hown9 hgrow9 c8 c8a hs0 hs1 hs2 hs3
                go_wp2_with fail
                go_roundw
                case rel => exact ⟨i + 1, p + 24, acc ++ [relOf t], _, hlt2, by go_num, (by have := HP.out; omega), hst2.out, HS7.out, by rw [List.length_append]; exact HO7.out, (fun y hy => by
                  rcases List.mem_append.1 hy with h | h
                  · exact HALL.out y h
                  · obtain rfl := List.mem_singleton.1 h
                    exact hbd.out), HR7.out, by rw [List.length_append, HAL.out]; rfl⟩
                case measure => simp [intOf]; omega
          · have hJ : ¬ (p : Int) < (sum : Int) := by have := hpp.1; omega
            obtain rfl : i = m := by omega
            have hE : Hid (res = some acc) := Lib.hid (by rw [HGO.out, Nat.sub_self]; rfl)
            go_wp2_with fail
            go_ret
            have hw3 : w.heap.size ≤ W3.heap.size := HFR3.out.size
            refine ⟨by rw [hE.out]; rfl, HFR3.out.trans (HFR.out.mono (by simp)), fun rs hrs => ?_⟩
            rw [hE.out] at hrs
            cases hrs
            exact ⟨x, HNXX.out, sv, HX.out, (by rw [← List.map_set]; exact HFR.out.owns HM3.out (by decide)), vr, HSR.out, owns_lower HOWN.out hw3, HALL.out⟩
end Go.Proofs.YtenmcmnhiejbgaaGreat
