/-
  Contract of the project's readGroup.
  What the project's read tells; an object as it lies while it is read. Nothing here walks the program.
  Contract of the reference's member.
-/
import Derived.Test.YtenmcmnhiejbgaaGreatJg19
import Derived.Test.YtenmcmnhiejbgaaGreatJg16
import Derived.Test.YtenmcmnhiejbgaaGreatJg12
import Derived.Test.YtenmcmnhiejbgaaGreatJg17
import Derived.Test.YtenmcmnhiejbgaaGreatJg20
import Derived.Test.YtenmcmnhiejbgaaGreatShapeA
namespace Go.Proofs.YtenmcmnhiejbgaaGreat
open Go.RowKit

/-- The members from number i on of the numbers behind a place, behind those that there are. -/
def mbrGo (l : List UInt8) (L : List Ten) (ns : List Int) (a : Nat) : Nat → Nat → List Int → Option (List Int)
  | _, 0, acc => some acc
  | i, m + 1, acc => bif isTy L (num (win l (a + 4 * i) 4)) 4 then mbrGo l L ns a (i + 1) m acc else
    bif ns[num (win l (a + 4 * i) 4)]?.getD 0 == 0 then none else mbrGo l L ns a (i + 1) m (acc ++ [ns[num (win l (a + 4 * i) 4)]?.getD 0])
theorem mbrGo_step {l : List UInt8} {L : List Ten} {ns : List Int} {a i m : Nat} {acc : List Int} : mbrGo l L ns a i (m + 1) acc = bif isTy L (num (win l (a + 4 * i) 4)) 4 then mbrGo l L ns a (i + 1) m acc else
    bif ns[num (win l (a + 4 * i) 4)]?.getD 0 == 0 then none else mbrGo l L ns a (i + 1) m (acc ++ [ns[num (win l (a + 4 * i) 4)]?.getD 0]) := rfl
/-- The group of a header, where the symbols' header has number sy. -/
def groupAt (l : List UInt8) (L : List Ten) (ns : List Int) (sy : Int) (h : Ten) : Option GroupD := bif (h.j == 4) && (h.f.tmod 4 == 0) then
    bif h.g != sy then none else bif h.f == 0 then none else bif ((num (win l h.e.toNat 4) : Nat) : Int) != 1 then none else
      (mbrGo l L ns (h.e.toNat + 4) 0 (h.f.toNat / 4 - 1) []).map fun ms => ⟨h.h, ms⟩
  else none
theorem group_cells_one (x : GroupV) (h : x.m.oneCell' = true) : ∀ u ∈ x.cells, u.oneCell' = true := fun u hu => by
  simp only [GroupV.cells, List.mem_cons, List.not_mem_nil, or_false] at hu
  rcases hu with rfl | rfl
  · rfl
  · exact h
theorem one_int (x : Int) : ∀ u ∈ [Value.int .i64 x], u.oneCell' = true := fun u hu => by simp at hu; subst hu; rfl
theorem int_snoc (l : List Int) (x : Int) : l.map (Value.int .i64) ++ [Value.int .i64 x] = (l ++ [x]).map (Value.int .i64) := by simp
theorem cell_one_at (ws : World) (T : TypeId) (x : Value) : ∀ j u, [x][j]? = some u → (ws.alloc (.cells #[x] T)).cell? ((⟨ws.heap.size, 0, none⟩ : Addr).add j) = some u := ten_cell_at ws #[x] T
theorem Tryz.infoGrp : (Tryz.prog.info? 50).map (fun i => (i.zero, i.size, i.bytes)) = some (some (.agg #[.int .i64 0, .slice none 0 0]), 2, 32) := by kernel_rfl
theorem two_cells (w : World) (g : Nat) (v0 v1 : Value) (T : TypeId) (h : w.heap[g]? = some (.cells #[v0, v1] T (0, 0))) :
    (w.cell? ⟨g, 0, none⟩ = some v0 ∧ w.cell? ⟨g, 1, none⟩ = some v1) ∧ (w.frozen? ⟨g, 0, none⟩ = false ∧ w.frozen? ⟨g, 1, none⟩ = false) := by
  refine ⟨⟨?_, ?_⟩, ?_, ?_⟩
  all_goals first | exact (cell_of_row w g _ _ _ (0, 0) h).trans rfl | exact frozen_of_row w g _ _ _ h | fail
/-- What readGroup gives. -/
def GivesGroup (G N : Nat) (v0 v1 v3 v4 : Value) (gvs : List GroupV) (r : Option GroupD) (w : World) (e : Ending) (w' : World) : Prop :=
  e = .returned (.bool r.isSome) ∧ FrT N [27, 50] w w' ∧ ∀ g, r = some g → ∃ (v2 m : Value), w'.heap[G]? = some (.cells #[v0, v1, v2, v3, v4] 27 (0, 0)) ∧
    w'.ownsRow N 50 2 v2 (gvs.length + 1) ((gvs ++ [(⟨g, m⟩ : GroupV)]).flatMap GroupV.cells) ∧ w'.ownsRow w.heap.size 3 1 m g.members.length (g.members.map (Value.int .i64)) ∧ i64bd g.sym ∧ ∀ y ∈ g.members, i64bd y
set_option maxRecDepth 100000 in
set_option maxHeartbeats 4000000 in
theorem readGroup_any (N F G B B2 : Nat) (w0 : World) (l : List UInt8) (bp : Option Addr) (bc : Nat) (vh vn vs v0 v1 v2 v3 v4 : Value) (sy : Nat) (L : List Ten) (ns : List Int) (gvs : List GroupV) (h : Ten) (w : World) (hN : w0.heap.size = N) (hw : Below N w0 w) (hNG : N ≤ G)
    (hF : w.heap[F]? = some (.cells #[.slice bp l.length bc, vh, vn, vs, .int .i64 (sy : Int)] 100 (0, 0))) (hG : w.heap[G]? = some (.cells #[v0, v1, v2, v3, v4] 27 (0, 0)))
    (hL : w.ownsRow B 104 10 vh L.length (tensV L)) (hn : w.ownsRow B2 3 1 vs ns.length (ns.map (Value.int .i64))) (hgv : w.ownsRow N 50 2 v2 gvs.length (gvs.flatMap GroupV.cells)) (hgl : gvs.length ≤ 65535)
    (hnb : ∀ n ∈ ns, 0 ≤ n ∧ n ≤ 100000) (hmh : h.may) (hef : h.e + h.f ≤ (l.length : Int)) (ht : Has w0 bp l) (h1 : l.length ≤ bc) (h2 : bc ≤ maxLen) (hbig : l.length ≤ 100000) :
    Calls Tryz.prog 49 #[filP F, h.v, filP G] w (GivesGroup G N v0 v1 v3 v4 gvs (groupAt l L ns (sy : Int) h) w) := by
  obtain ⟨i0, hi, hz0, hz1, hz2⟩ := info_parts Tryz.infoGrp
  have HI := Lib.hid hi
  have H0 := Lib.hid hz0
  have H1 := Lib.hid hz1
  have H2 := Lib.hid hz2
  obtain ⟨i1, gi, gz0, gz1, gz2⟩ := info_parts Tryz.infoInt
  have GI := Lib.hid gi
  have G0 := Lib.hid gz0
  have G1 := Lib.hid gz1
  have G2 := Lib.hid gz2
  have hth := (fitsB_iff _).1 (hmh h.h (by simp [Ten.l]))
  have hte := (fitsB_iff _).1 (hmh h.e (by simp [Ten.l]))
  have htf := (fitsB_iff _).1 (hmh h.f (by simp [Ten.l]))
  obtain ⟨te, hte2⟩ := Int.eq_ofNat_of_zero_le hte.1
  obtain ⟨tf, htf2⟩ := Int.eq_ofNat_of_zero_le htf.1
  have hl2 : te + tf ≤ l.length := by omega
  have hsb : i64bd h.h := fits_bd hth
  have hres : groupAt l L ns (sy : Int) h = bif (h.j == 4) && (h.f.tmod 4 == 0) then
    bif h.g != (sy : Int) then none else bif (tf : Int) == 0 then none else bif ((num (win l te 4) : Nat) : Int) != 1 then none else
      (mbrGo l L ns (te + 4) 0 (tf / 4 - 1) []).map fun ms => ⟨h.h, ms⟩
    else none := by unfold groupAt; rw [hte2, htf2]; rfl
  generalize groupAt l L ns (sy : Int) h = res at *
  have hb1 : Below w.heap.size w (w.alloc (.cells #[.int .i64 h.a, .int .i64 h.b, .int .i64 h.c, .int .i64 h.d, .int .i64 h.e, .int .i64 h.f, .int .i64 h.g, .int .i64 h.h, .int .i64 h.i, .int .i64 h.j] 104)) := (Below.refl _ w).alloc (Nat.le_refl _) _
  have hten := heap_new w (.cells #[.int .i64 h.a, .int .i64 h.b, .int .i64 h.c, .int .i64 h.d, .int .i64 h.e, .int .i64 h.f, .int .i64 h.g, .int .i64 h.h, .int .i64 h.i, .int .i64 h.j] 104)
  have hF1 := FrT.heap (N := N) (Ts := []) (FrT.of_below hb1) hF (by simp)
  have hG1 := FrT.heap (N := N) (Ts := []) (FrT.of_below hb1) hG (by simp)
  have HL1 := Lib.hid (owns_belowN hL hb1)
  have HN1 := Lib.hid (owns_belowN hn hb1)
  have HV1 := Lib.hid (owns_belowN hgv hb1)
  have HB1 := Lib.hid hb1
  have HF1 := Lib.hid hF1
  have HG1 := Lib.hid hG1
  have HTEN := Lib.hid hten
  have HRES := Lib.hid hres
  have HW := Lib.hid hw
  have HHAS := Lib.hid ht
  have HTE := Lib.hid hte2
  have HTF := Lib.hid htf2
  have HNB := Lib.hid hnb
  have HSB := Lib.hid hsb
  have hwN : N ≤ w.heap.size := by have := hw.size; omega
  clear hi hz0 hz1 hz2 gi gz0 gz1 gz2 hb1 hten hF1 hG1 hL hn hgv hF hG hres hw ht hth hte htf hte2 htf2 hmh hef hnb hsb
  go_enter Tryz.func49, Tryz.ntmps49
  go_upto_region 1 with fail
  generalize w.alloc (.cells #[.int .i64 h.a, .int .i64 h.b, .int .i64 h.c, .int .i64 h.d, .int .i64 h.e, .int .i64 h.f, .int .i64 h.g, .int .i64 h.h, .int .i64 h.i, .int .i64 h.j] 104) = W1 at *
  have hten := HTEN.out
  rw [HTE.out, HTF.out] at hten
  have HTEN := Lib.hid hten
  obtain ⟨d0, d1, d2, d3, d4, d5, d6, d7, d8, d9⟩ := cells_ten _ _ _ _ _ _ _ _ _ _ _ _ _ hten
  obtain ⟨⟨c0, c1, c2, c3, c4⟩, f0, f1, f2, f3, f4⟩ := cells5 _ _ _ _ _ _ _ _ HF1.out
  have HIL : Hid (∀ W, Calls Tryz.prog 89 #[.agg #[.int .i64 h.a, .int .i64 h.b, .int .i64 h.c, .int .i64 h.d, .int .i64 (te : Int), .int .i64 (tf : Int), .int .i64 h.g, .int .i64 h.h, .int .i64 h.i, .int .i64 h.j], .int .i64 4] W fun e w' => e = .returned (.bool ((h.j == 4) && (h.f.tmod 4 == 0))) ∧ Below W.heap.size W w') := Lib.hid fun W => by
    have := isListOf_any h 4 W (by decide) (by decide)
    rw [show h.v = .agg #[.int .i64 h.a, .int .i64 h.b, .int .i64 h.c, .int .i64 h.d, .int .i64 (te : Int), .int .i64 (tf : Int), .int .i64 h.g, .int .i64 h.h, .int .i64 h.i, .int .i64 h.j] by rw [← HTE.out, ← HTF.out]] at this
    exact this
  have hbN1 : Below w0.heap.size w0 W1 := by
    rw [hN]
    exact HW.out.trans (HB1.out.mono hwN)
  have HWA : Hid (∀ W (a : Nat), Below W1.heap.size W1 W → a + 4 ≤ l.length → Calls Tryz.prog 92 #[filP F, .int .i64 (a : Int)] W fun e w' => e = .returned (.int .i64 (num (win l a 4) : Int)) ∧ W = w') := Lib.hid fun W a hW ha => by
    exact word_any F a bp bc l W (cell_later hW c0) (HHAS.out.below (hbN1.trans (hW.mono (by have := hbN1.size; omega)))) h1 h2 ha
  obtain ⟨ba, hba⟩ : ∃ ba, ba = ((h.j == 4) && (h.f.tmod 4 == 0)) := ⟨_, rfl⟩
  obtain ⟨bb, hbb⟩ : ∃ bb, bb = (h.g != (sy : Int)) := ⟨_, rfl⟩
  obtain ⟨bc2, hbc⟩ : ∃ bc2, bc2 = ((tf : Int) == 0) := ⟨_, rfl⟩
  obtain ⟨nw, hnw⟩ : ∃ nw, nw = num (win l te 4) := ⟨_, rfl⟩
  obtain ⟨bd, hbd⟩ : ∃ bd, bd = ((nw : Int) != 1) := ⟨_, rfl⟩
  have hR1 := HRES.out
  rw [← hba, ← hbb, ← hbc, ← hnw, ← hbd] at hR1
  rw [← hba] at HIL
  have HR1 := Lib.hid hR1
  have HBA := Lib.hid hba
  have HNW := Lib.hid hnw
  have HBC := Lib.hid hbc
  have hbb2 := hbb.symm
  have hbc2 := hbc.symm
  have hbd2 := hbd.symm
  clear hR1 hba hbb hbc hnw hbd hten HRES
  go_cut [34] (fun s34 wx => s34 = .bool (!(ba && (!bb && (!bc2 && !bd)))) ∧ Below W1.heap.size W1 wx)
  case first =>
    cases ba with
    | false =>
      refine wp_region_below (by kernel_rfl) (by kernel_rfl) ?_
      repeat (go_big_quiet_step (first
        | (intro hWq; go_at_call 89; refine (HIL.out _).mono ?_; rintro e w' ⟨rfl, hb⟩; exact ⟨rfl, hWq.trans (hb.mono hWq.size)⟩)
        | (intro hWq; go_at_call 92; refine (HWA.out _ te hWq (by omega)).mono ?_; rintro e w' ⟨rfl, rfl⟩; exact ⟨rfl, hWq⟩)
        | (intro hWq; have e0 := cell_later hWq d0; have e1 := cell_later hWq d1; have e2 := cell_later hWq d2; have e3 := cell_later hWq d3; have e4 := cell_later hWq d4; have e5 := cell_later hWq d5; have e6 := cell_later hWq d6; have e7 := cell_later hWq d7; have e8 := cell_later hWq d8; have e9 := cell_later hWq d9; have e10 := cell_later hWq c4; go_simp; first | done | rfl | exact ⟨rfl, rfl⟩ | fail)
        | fail))
      refine wpQuiet_nil ?_
      intro wx hwx
      go_wp2_with fail
      go_meet
      exact ⟨rfl, hwx⟩
    | true =>
      cases bb with
      | true =>
        refine wp_region_below (by kernel_rfl) (by kernel_rfl) ?_
        repeat (go_big_quiet_step (first
          | (intro hWq; go_at_call 89; refine (HIL.out _).mono ?_; rintro e w' ⟨rfl, hb⟩; exact ⟨rfl, hWq.trans (hb.mono hWq.size)⟩)
          | (intro hWq; go_at_call 92; refine (HWA.out _ te hWq (by omega)).mono ?_; rintro e w' ⟨rfl, rfl⟩; exact ⟨rfl, hWq⟩)
          | (intro hWq; have e0 := cell_later hWq d0; have e1 := cell_later hWq d1; have e2 := cell_later hWq d2; have e3 := cell_later hWq d3; have e4 := cell_later hWq d4; have e5 := cell_later hWq d5; have e6 := cell_later hWq d6; have e7 := cell_later hWq d7; have e8 := cell_later hWq d8; have e9 := cell_later hWq d9; have e10 := cell_later hWq c4; go_simp; first | done | rfl | exact ⟨rfl, rfl⟩ | fail)
          | fail))
        refine wpQuiet_nil ?_
        intro wx hwx
        go_wp2_with fail
        go_meet
        exact ⟨rfl, hwx⟩
      | false =>
        cases bc2 with
        | true =>
          refine wp_region_below (by kernel_rfl) (by kernel_rfl) ?_
          repeat (go_big_quiet_step (first
            | (intro hWq; go_at_call 89; refine (HIL.out _).mono ?_; rintro e w' ⟨rfl, hb⟩; exact ⟨rfl, hWq.trans (hb.mono hWq.size)⟩)
            | (intro hWq; go_at_call 92; refine (HWA.out _ te hWq (by omega)).mono ?_; rintro e w' ⟨rfl, rfl⟩; exact ⟨rfl, hWq⟩)
            | (intro hWq; have e0 := cell_later hWq d0; have e1 := cell_later hWq d1; have e2 := cell_later hWq d2; have e3 := cell_later hWq d3; have e4 := cell_later hWq d4; have e5 := cell_later hWq d5; have e6 := cell_later hWq d6; have e7 := cell_later hWq d7; have e8 := cell_later hWq d8; have e9 := cell_later hWq d9; have e10 := cell_later hWq c4; go_simp; first | done | rfl | exact ⟨rfl, rfl⟩ | fail)
            | fail))
          refine wpQuiet_nil ?_
          intro wx hwx
          go_wp2_with fail
          go_meet
          exact ⟨rfl, hwx⟩
        | false =>
          have h4 : te + 4 ≤ l.length := by
            have h3 := HBA.out.symm
            simp only [Bool.and_eq_true, beq_iff_eq] at h3
            have h5 := h3.2
            rw [HTF.out] at h5
            have h6 : ((tf % 4 : Nat) : Int) = 0 := h5
            have h7 : ¬ (tf : Int) = 0 := by simpa using hbc2
            omega
          have hwd : ∀ W, Below W1.heap.size W1 W → Calls Tryz.prog 92 #[filP F, .int .i64 (te : Int)] W fun e w' => e = .returned (.int .i64 (nw : Int)) ∧ W = w' := fun W hW => by
            rw [HNW.out]
            exact HWA.out W te hW h4
          have HWD := Lib.hid hwd
          clear hwd h4
          refine wp_region_below (by kernel_rfl) (by kernel_rfl) ?_
          repeat (go_big_quiet_step (first
            | (intro hWq; go_at_call 89; refine (HIL.out _).mono ?_; rintro e w' ⟨rfl, hb⟩; exact ⟨rfl, hWq.trans (hb.mono hWq.size)⟩)
            | (intro hWq; go_at_call 92; refine (HWD.out _ hWq).mono ?_; rintro e w' ⟨rfl, rfl⟩; exact ⟨rfl, hWq⟩)
            | (intro hWq; have e0 := cell_later hWq d0; have e1 := cell_later hWq d1; have e2 := cell_later hWq d2; have e3 := cell_later hWq d3; have e4 := cell_later hWq d4; have e5 := cell_later hWq d5; have e6 := cell_later hWq d6; have e7 := cell_later hWq d7; have e8 := cell_later hWq d8; have e9 := cell_later hWq d9; have e10 := cell_later hWq c4; go_simp; first | done | rfl | exact ⟨rfl, rfl⟩ | fail)
            | fail))
          refine wpQuiet_nil ?_
          intro wx hwx
          go_wp2_with fail
          go_meet
          exact ⟨by cases bd <;> rfl, hwx⟩
  case rest =>
    obtain ⟨rfl, hbx⟩ := hcut
    obtain ⟨q, hq⟩ : ∃ q, q = !(ba && (!bb && (!bc2 && !bd))) := ⟨_, rfl⟩
    have hR2 := HR1.out
    have hFx := FrT.heap (N := N) (Ts := []) (FrT.of_below hbx) HF1.out (by simp)
    have hGx := FrT.heap (N := N) (Ts := []) (FrT.of_below hbx) HG1.out (by simp)
    have hTx := FrT.heap (N := N) (Ts := []) (FrT.of_below hbx) HTEN.out (by simp)
    have HLx := Lib.hid (owns_belowN HL1.out hbx)
    have HNx := Lib.hid (owns_belowN HN1.out hbx)
    have HVx := Lib.hid (owns_belowN HV1.out hbx)
    have HBx := Lib.hid (HB1.out.trans (hbx.mono HB1.out.size))
    have HWX : Hid (∀ W (a : Nat), Below wc.heap.size wc W → a + 4 ≤ l.length → Calls Tryz.prog 92 #[filP F, .int .i64 (a : Int)] W fun e w' => e = .returned (.int .i64 (num (win l a 4) : Int)) ∧ W = w') := Lib.hid fun W a hW ha => HWA.out W a (hbx.trans (hW.mono hbx.size)) ha
    have HFx := Lib.hid hFx
    have HGx := Lib.hid hGx
    have HTx := Lib.hid hTx
    clear d0 d1 d2 d3 d4 d5 d6 d7 d8 d9 c0 c1 c2 c3 c4 f0 f1 f2 f3 f4 HF1 HG1 HTEN HL1 HN1 HV1 HB1 HIL HWA hbx hbb2 hbd2 hbc2 hbN1
    rw [← hq]
    cases q with
    | true =>
      have hE : Hid (res = none) := Lib.hid (by
        rw [hR2]
        cases ba <;> cases bb <;> cases bc2 <;> cases bd <;> first | rfl | cases hq)
      clear hR2 hq
      go_wp2_with fail
      go_ret
      refine ⟨by rw [hE.out]; rfl, FrT.of_below HBx.out, fun g hg => ?_⟩
      rw [hE.out] at hg
      cases hg
    | false =>
      obtain ⟨rfl, rfl, rfl, rfl⟩ : ba = true ∧ bb = false ∧ bc2 = false ∧ bd = false := by
        cases ba <;> cases bb <;> cases bc2 <;> cases bd <;> first | exact ⟨rfl, rfl, rfl, rfl⟩ | cases hq
      obtain ⟨m, hm⟩ : ∃ m, tf = 4 + 4 * m := by
        have h2 : (tf : Int).tmod 4 = 0 := by
          have h3 := HBA.out.symm
          simp only [Bool.and_eq_true, beq_iff_eq] at h3
          rw [← HTF.out]
          exact h3.2
        have h5 : ((tf % 4 : Nat) : Int) = 0 := h2
        have h7 : ¬ (tf : Int) = 0 := by simpa using HBC.out.symm
        exact ⟨tf / 4 - 1, by omega⟩
      have HR4 : Hid (res = (mbrGo l L ns (te + 4) 0 m []).map fun ms => ⟨h.h, ms⟩) := Lib.hid (by
        rw [hR2, show tf / 4 - 1 = m by omega]
        rfl)
      have HTM := Lib.hid hm
      have HT2 := Lib.hid HTx.out
      clear hR2 hq hm HBC HBA HR1 HNW
      obtain ⟨d0, d1, d2, d3, d4, d5, d6, d7, d8, d9⟩ := cells_ten _ _ _ _ _ _ _ _ _ _ _ _ _ HTx.out
      have k0 : IntKind.i64.wrap ((te : Int) + 4) = ((te + 4 : Nat) : Int) := by rw [show (te : Int) + 4 = ((te + 4 : Nat) : Int) by omega]; exact IntWalk.i64_in _ (by omega)
      go_upto_region 4 with fail
      have hb3 : Below wc.heap.size wc (wc.alloc (.cells #[.int .i64 h.h, .slice none 0 0] 50)) := (Below.refl _ wc).alloc (Nat.le_refl _) _
      have hgb := heap_alloc_new wc (.cells #[.int .i64 h.h, .slice none 0 0] 50)
      have HGB := Lib.hid hgb
      have HB3 := Lib.hid hb3
      have HT3 := Lib.hid ((hb3.block _ (Array.getElem?_eq_some_iff.1 HTx.out).1).trans HTx.out)
      have hsz3 : wc.heap.size + 1 ≤ (wc.alloc (.cells #[.int .i64 h.h, .slice none 0 0] 50)).heap.size := by simp
      clear d0 d1 d2 d3 d4 d5 d6 d7 d8 d9 hgb hb3 HTx
      generalize wc.alloc (.cells #[.int .i64 h.h, .slice none 0 0] 50) = W3 at *
      obtain ⟨d0, d1, d2, d3, d4, d5, d6, d7, d8, d9⟩ := cells_ten _ _ _ _ _ _ _ _ _ _ _ _ _ HT3.out
      go_wp2_with fail
      go_loopw [8] (fun r8 wr => ∃ (i p : Nat) (acc : List Int) (vm : Value), i ≤ m ∧ r8 = .int .i64 (p : Int) ∧ p = te + 4 + 4 * i ∧ res = (mbrGo l L ns (te + 4) i (m - i) acc).map (fun ms => ⟨h.h, ms⟩) ∧
        wr.heap[wc.heap.size]? = some (.cells #[.int .i64 h.h, vm] 50 (0, 0)) ∧ wr.ownsRow (wc.heap.size + 1) 3 1 vm acc.length (acc.map (Value.int .i64)) ∧ (∀ y ∈ acc, i64bd y) ∧ Below wc.heap.size wc wr ∧ acc.length ≤ i ∧ wc.heap.size + 1 ≤ wr.heap.size) (fun r8 _ => (te + tf) - (intOf r8).toNat)
      case atStart => exact ⟨0, te + 4, [], _, Nat.zero_le _, rfl, rfl, HR4.out, HGB.out, World.ownsRow_nil _ _ _ _, (fun y hy => by cases hy), HB3.out, Nat.le_refl _, hsz3⟩
      case round =>
        obtain ⟨i, p, acc, vm, hi, rfl, hp, hgo, hgr, hown, hall, hbr, hal, hszr⟩ := hrel
        have HGO := Lib.hid hgo
        have HGR := Lib.hid hgr
        have HOWN := Lib.hid hown
        have HALL := Lib.hid hall
        have HP := Lib.hid hp
        have HBR := Lib.hid hbr
        have htm := HTM.out
        have hg7 := (hbr.block _ (Array.getElem?_eq_some_iff.1 HT2.out).1).trans HT2.out
        have hF7 := (hbr.block F (Array.getElem?_eq_some_iff.1 HFx.out).1).trans HFx.out
        have hpb : p ≤ 100000000000 := by omega
        have hpp : p < te + tf ↔ i < m := by omega
        have hpl : i < m → p + 4 ≤ l.length := by omega
        clear d0 d1 d2 d3 d4 d5 d6 d7 d8 d9
        obtain ⟨d0, d1, d2, d3, d4, d5, d6, d7, d8, d9⟩ := cells_ten _ _ _ _ _ _ _ _ _ _ _ _ _ hg7
        obtain ⟨⟨g0, g1⟩, y0, y1⟩ := two_cells _ _ _ _ _ hgr
        have k7 : IntKind.i64.wrap ((te : Int) + (tf : Int)) = ((te + tf : Nat) : Int) := by rw [show (te : Int) + (tf : Int) = ((te + tf : Nat) : Int) by omega]; exact IntWalk.i64_in _ (by omega)
        have k8 : IntKind.i64.wrap ((p : Int) + 4) = ((p + 4 : Nat) : Int) := by rw [show (p : Int) + 4 = ((p + 4 : Nat) : Int) by omega]; exact IntWalk.i64_in _ (by omega)
        generalize hsum : te + tf = sum at *
        have HSUM := Lib.hid hsum
        have HPL := Lib.hid hpl
        clear hgo hgr hown hall hp hg7 htm hsum hpl hbr
        by_cases hlt2 : i < m
        · have hJ : (p : Int) < (sum : Int) := by have := hpp.2 hlt2; omega
          have hwd := HWX.out wr p HBR.out (HPL.out hlt2)
          have hst : res = (bif isTy L (num (win l p 4)) 4 then mbrGo l L ns (te + 4) (i + 1) (m - (i + 1)) acc else
            bif ns[num (win l p 4)]?.getD 0 == 0 then none else mbrGo l L ns (te + 4) (i + 1) (m - (i + 1)) (acc ++ [ns[num (win l p 4)]?.getD 0])).map (fun ms => ⟨h.h, ms⟩) := by
            rw [HGO.out, show m - i = (m - (i + 1)) + 1 by omega, mbrGo_step, show te + 4 + 4 * i = p from HP.out.symm]
          generalize num (win l p 4) = n at *
          have hty : Calls Tryz.prog 85 #[filP F, .int .i64 (n : Int), .int .i64 4] wr fun e w' => e = .returned (.bool (isTy L n 4)) ∧ wr = w' := by
            obtain ⟨⟨_, q1, _⟩, _⟩ := cells5 _ _ _ _ _ _ _ _ hF7
            obtain ⟨p', c2, e, _, _, _, hte⟩ := tens_has (owns_belowN HLx.out HBR.out)
            rw [e] at q1
            exact (isType_any F n 4 _ _ L wr q1 hte).mono fun e w' h => ⟨h.1, h.2.symm⟩
          have hso : Calls Tryz.prog 93 #[filP F, .int .i64 (n : Int)] wr fun e w' => e = .returned (.int .i64 (ns[n]?.getD 0)) ∧ wr = w' := by
            obtain ⟨⟨_, _, _, q3, _⟩, _⟩ := cells5 _ _ _ _ _ _ _ _ hF7
            obtain ⟨pp, cc, e, _, _, _, hil⟩ := isL_ints (owns_belowN HNx.out HBR.out) (fun n hn => by have := HNB.out n hn; exact ⟨by omega, by omega⟩)
            rw [e] at q3
            exact sectionOf_any F n pp cc ns wr q3 hil
          have hmb : i64bd (ns[n]?.getD 0) := by
            cases hg : ns[n]? with
            | none => exact ⟨by decide, by decide⟩
            | some x => have := HNB.out x (List.mem_of_getElem? hg); exact ⟨by show _ ≤ x; omega, by show x ≤ _; omega⟩
          generalize ns[n]?.getD 0 = mb at *
          obtain ⟨bt, hbt⟩ : ∃ bt, bt = isTy L n 4 := ⟨_, rfl⟩
          rw [← hbt] at hst hty
          have HST := Lib.hid hst
          have HWD := Lib.hid hwd
          have HTY := Lib.hid hty
          have HSO := Lib.hid hso
          have HMB := Lib.hid hmb
          clear hst hwd hty hso hmb hbt hpp hF7
          cases bt with
          | true =>
            have hst2 : Hid (res = (mbrGo l L ns (te + 4) (i + 1) (m - (i + 1)) acc).map (fun ms => ⟨h.h, ms⟩)) := Lib.hid HST.out
            go_wp2_with (first | (go_at_call 92; refine HWD.out.mono ?_; rintro e w6 ⟨rfl, rfl⟩) | (go_at_call 85; refine HTY.out.mono ?_; rintro e w6 ⟨rfl, rfl⟩) | fail)
            go_roundw
            case rel => exact ⟨i + 1, p + 4, acc, vm, hlt2, by go_num, (by have := HP.out; omega), hst2.out, HGR.out, HOWN.out, HALL.out, HBR.out, by omega, hszr⟩
            case measure => simp [intOf]; omega
          | false =>
            have hst2 : Hid (res = (bif mb == 0 then none else mbrGo l L ns (te + 4) (i + 1) (m - (i + 1)) (acc ++ [mb])).map (fun ms => ⟨h.h, ms⟩)) := Lib.hid HST.out
            by_cases hm0 : mb = 0
            · subst hm0
              have hE : Hid (res = none) := Lib.hid hst2.out
              go_wp2_with (first | (go_at_call 92; refine HWD.out.mono ?_; rintro e w6 ⟨rfl, rfl⟩) | (go_at_call 85; refine HTY.out.mono ?_; rintro e w6 ⟨rfl, rfl⟩) | (go_at_call 93; refine HSO.out.mono ?_; rintro e w6 ⟨rfl, rfl⟩) | fail)
              go_ret
              refine ⟨by rw [hE.out]; rfl, FrT.of_below (HBx.out.trans (HBR.out.mono HBx.out.size)), fun g hg => ?_⟩
              rw [hE.out] at hg
              cases hg
            · have hm1 : (mb == 0) = false := by simpa using hm0
              have hst3 : Hid (res = (mbrGo l L ns (te + 4) (i + 1) (m - (i + 1)) (acc ++ [mb])).map (fun ms => ⟨h.h, ms⟩)) := Lib.hid (by rw [hst2.out, hm1]; rfl)
              clear hm0
              go_upto_region 12 with (first | (go_at_call 92; refine HWD.out.mono ?_; rintro e w6 ⟨rfl, rfl⟩) | (go_at_call 85; refine HTY.out.mono ?_; rintro e w6 ⟨rfl, rfl⟩) | (go_at_call 93; refine HSO.out.mono ?_; rintro e w6 ⟨rfl, rfl⟩) | fail)
              have hab : acc.length ≤ 2147483647 := by have := HTM.out; have := HSUM.out; omega
              go_wp2_with (at_builtin; refine wpList_append_own _ rfl (.tmp 62) (.tmp 64) 25 rfl (wc.heap.size + 1) 3 i1 _ 1 8 Tryz.underlying25 GI.out G0.out G1.out G2.out rfl (by decide) _ acc.length _ rfl (HOWN.out.alloc _) ⟨wr.heap.size, 0, none⟩ 1 1 [.int .i64 mb] rfl rfl (cell_one_at wr _ _) (one_int _) (by unfold maxLen; omega) (by omega) (by simp; omega) ?_)
              intro v3' w4 hown4 hg4 _
              obtain ⟨p3, c3', rfl, _, _, _⟩ := slice_form hown4
              have hba : Below wr.heap.size wr (wr.alloc (.cells #[.int .i64 mb] 3)) := (Below.refl _ wr).alloc (Nat.le_refl _) _
              have hfi : FrT 0 [3] _ w4 := FrT.grown (HOWN.out.alloc (.cells #[.int .i64 mb] 3)) hg4 (by simp) (Nat.zero_le _)
              have hgr4 := hfi.heap ((hba.block _ (Array.getElem?_eq_some_iff.1 HGR.out).1).trans HGR.out) (by decide)
              have hb4 : Below wc.heap.size wc w4 := (HBR.out.trans (hba.mono HBR.out.size)).grown hg4 (by have := HBR.out.size; have := hba.size; omega) (fun k hk => by have := (HOWN.out.lt k hk).1; omega)
              obtain ⟨⟨x0, x1⟩, z0, z1⟩ := two_cells _ _ _ _ _ hgr4
              rw [int_snoc] at hown4
              have hf5 : FrT N [50] w4 (w4.setCell ⟨wc.heap.size, 1, none⟩ (.slice p3 (acc.length + 1) c3')) := FrT.set hgr4 (by simp) (by have := HBx.out.size; omega) _
              have HG5 := Lib.hid (heap_setCell_same w4 wc.heap.size 1 _ _ (.slice p3 (acc.length + 1) c3') hgr4)
              have HO5 := Lib.hid (hf5.owns hown4 (by decide))
              have HB5 : Hid (Below wc.heap.size wc (w4.setCell ⟨wc.heap.size, 1, none⟩ (.slice p3 (acc.length + 1) c3'))) := Lib.hid (hb4.setCell (Nat.le_refl _) _)
              have hs5 : wc.heap.size + 1 ≤ w4.heap.size := (Array.getElem?_eq_some_iff.1 hgr4).1
              clear hown4 hg4 hfi hf5 hb4 hgr4 hba d0 d1 d2 d3 d4 d5 d6 d7 d8 d9 g0 g1 y0 y1
              go_wp2_with fail
              go_roundw
              case rel => exact ⟨i + 1, p + 4, acc ++ [mb], _, hlt2, by go_num, (by have := HP.out; omega), hst3.out, HG5.out, by rw [List.length_append]; exact HO5.out, (fun y hy => by
                rcases List.mem_append.1 hy with h | h
                · exact HALL.out y h
                · obtain rfl := List.mem_singleton.1 h
                  exact HMB.out), HB5.out, by rw [List.length_append]; simp; omega, by simpa using hs5⟩
              case measure => simp [intOf]; omega
        · have hJ : ¬ (p : Int) < (sum : Int) := by have := hpp.1; omega
          obtain rfl : i = m := by omega
          have hE : Hid (res = some ⟨h.h, acc⟩) := Lib.hid (by rw [HGO.out, Nat.sub_self]; rfl)
          go_upto_region 13 with fail
          obtain ⟨vp, vc, rfl, _, _, _⟩ := slice_form HOWN.out
          have hGr := (HBR.out.block G (Array.getElem?_eq_some_iff.1 HGx.out).1).trans HGx.out
          have HGr := Lib.hid hGr
          have HVr := Lib.hid (owns_belowN HVx.out HBR.out)
          have hbr : Below w.heap.size w wr := HBx.out.trans (HBR.out.mono HBx.out.size)
          have HBRW := Lib.hid hbr
          have hNr : N ≤ wr.heap.size := by have := hbr.size; omega
          clear d0 d1 d2 d3 d4 d5 d6 d7 d8 d9 g0 g1 y0 y1 hF7 hpp
          obtain ⟨⟨g0, g1⟩, y0, y1⟩ := two_cells _ _ _ _ _ HGR.out
          obtain ⟨⟨c0, c1, c2, c3, c4⟩, f0, f1, f2, f3, f4⟩ := cells5 _ _ _ _ _ _ _ _ hGr
          have c2a := cell_later ((Below.refl _ wr).alloc (Nat.le_refl _) (.cells #[.int .i64 h.h, .slice vp acc.length vc] 50)) c2
          have HGA := Lib.hid (FrT.heap (N := N) (Ts := []) (FrT.of_below (((Below.refl _ wr).alloc (Nat.le_refl _) (.cells #[.int .i64 h.h, .slice vp acc.length vc] 50)).drew)) HGr.out (by simp))
          clear hGr hbr
          go_region_law (first
            | (refine step_append_lies _ (by rfl) _ _ _ (by rfl) N 50 i0 _ 2 32 Tryz.underlying24 HI.out H0.out H1.out H2.out rfl (by decide) _ gvs.length _ (by rfl) ((HVr.out.alloc _).drew) ⟨wr.heap.size, 0, none⟩ 1 1 (GroupV.cells ⟨⟨h.h, acc⟩, .slice vp acc.length vc⟩) (by rfl) (by rfl) (ten_cell_at wr #[.int .i64 h.h, .slice vp acc.length vc] 50) (group_cells_one _ rfl) (by omega) (by unfold maxLen; omega) (by omega) (by simp; omega) _ rfl ?_
               intro g3 cap3 w9 hown9 hgrow9 _ _
               have hfg : FrT N [50] _ w9 := FrT.grown ((HVr.out.alloc (.cells #[.int .i64 h.h, .slice vp acc.length vc] 50)).drew) hgrow9 (by simp) (Nat.le_refl _)
               have hG9 := hfg.heap HGA.out (by decide)
               have hm9 := hfg.owns ((HOWN.out.alloc (.cells #[.int .i64 h.h, .slice vp acc.length vc] 50)).drew) (by decide)
               obtain ⟨⟨e0, e1, e2, e3, e4⟩, z0, z1, z2, z3, z4⟩ := cells5 _ _ _ _ _ _ _ _ hG9
               rw [← flat_snoc] at hown9)
            | fail)
          all_goals
            have hf7 : FrT N [27] w9 (w9.setCell ⟨G, 2, none⟩ (.slice (some ⟨g3, 0, none⟩) (gvs.length + 1) cap3)) := FrT.set hG9 (by simp) hNG _
            have HG7 := Lib.hid (heap_setCell_same w9 G 2 _ _ (.slice (some ⟨g3, 0, none⟩) (gvs.length + 1) cap3) hG9)
            have HO7 := Lib.hid (hf7.owns hown9 (by decide))
            have HM7 := Lib.hid (hf7.owns hm9 (by decide))
            have HR7 : Hid (FrT N [27, 50] w (w9.setCell ⟨G, 2, none⟩ (.slice (some ⟨g3, 0, none⟩) (gvs.length + 1) cap3))) := Lib.hid (((FrT.of_below (HBRW.out.trans ((((Below.refl _ wr).alloc (Nat.le_refl _) (.cells #[.int .i64 h.h, .slice vp acc.length vc] 50)).drew).mono HBRW.out.size))).trans (hfg.mono (by simp))).trans (hf7.mono (by simp)))
            clear hf7 hfg hG9 hm9 hown9 hgrow9 c2a c0 c1 c2 c3 c4 f0 f1 f2 f3 f4 e0 e1 e2 e3 e4 z0 z1 z2 z3 z4 g0 g1 y0 y1
            go_wp2_with fail
            go_ret
            refine ⟨by rw [hE.out]; rfl, HR7.out, fun g hg => ?_⟩
            rw [hE.out] at hg
            cases hg
            exact ⟨_, _, HG7.out, HO7.out, owns_lower HM7.out (by have := HBx.out.size; omega), HSB.out, HALL.out⟩
end Go.Proofs.YtenmcmnhiejbgaaGreat

namespace Go.Proofs.YtenmcmnhiejbgaaGreat
open Go.RowKit

/-- What is known of an object while its headers are gone through: sections, groups, Sig; of which headers relocations were read. -/
structure StD where
  (secs : List SecD)
  (groups : List GroupD)
  (hasSig : Bool)
  (sig : List Int)
  (nm : List Bool)
def setRels (ss : List SecD) (x : Nat) (rs : List RelD) : List SecD := match ss[x]? with
  | none => ss
  | some s => ss.set x { s with rels := rs }
def stepB (l : List UInt8) (L : List Ten) (ns : List Int) (sy : Int) (t : Ten) (st : StD) : Option StD :=
  bif t.b == 4 then (relsAt l L sy st.nm t).map fun rs => { st with secs := setRels st.secs (ns[t.h.toNat]?.getD 0 - 1).toNat rs, nm := st.nm.set t.h.toNat true }
  else bif t.b == 17 then (groupAt l L ns sy t).map fun g => { st with groups := st.groups ++ [g] }
  else bif t.b == 1879002115 then (sigGo l st.hasSig sy t).map fun xs => { st with hasSig := true, sig := xs }
  else some st
def restGo (l : List UInt8) (L : List Ten) (ns : List Int) (sy : Int) : List Ten → StD → Option StD
  | [], st => some st
  | t :: r, st => match stepB l L ns sy t st with
    | none => none
    | some st' => restGo l L ns sy r st'
theorem restGo_step {l : List UInt8} {L : List Ten} {ns : List Int} {sy : Int} {st : StD} {k : Nat} {t : Ten} (h : L[k]? = some t) : restGo l L ns sy (L.drop k) st = match stepB l L ns sy t st with
    | none => none
    | some st' => restGo l L ns sy (L.drop (k + 1)) st' := by
  have hl := (List.getElem?_eq_some_iff.1 h).1
  rw [List.drop_eq_getElem_cons hl, (List.getElem?_eq_some_iff.1 h).2]
  rfl
/-- The object that the bytes tell, if it may be read; it hasn't been asked yet whether it may be. -/
def readB (l : List UInt8) : Option ObjD := match filB l with
  | none => none
  | some (L, names) => match secsB l L names with
    | none => none
    | some ss => match symsB l L (numGo 0 L) with
      | none => none
      | some ys => match restGo l L (numGo 0 L) ((last2 L L.length : Nat) : Int) L ⟨ss, [], false, [], List.replicate L.length false⟩ with
        | none => none
        | some st => some ⟨st.secs, ys, st.groups, st.hasSig, st.sig⟩

/-! ## Numbers of sections -/
theorem numGo_get : ∀ (L : List Ten) (m j : Nat) (t : Ten), L[j]? = some t → (numGo m L)[j]? = some (bif isSecT t then ((m + cntS (L.take j) + 1 : Nat) : Int) else 0)
  | [], _, j, t, h => by simp at h
  | x :: r, m, 0, t, h => by
    simp at h
    subst h
    unfold numGo
    cases isSecT x <;> rfl
  | x :: r, m, j + 1, t, h => by
    have h1 := fun m => numGo_get r m j t (by simpa using h)
    unfold numGo
    rw [List.take_succ_cons, cntS_cons]
    cases isSecT x with
    | true =>
      show (_ :: numGo (m + 1) r)[j + 1]? = _
      rw [List.getElem?_cons_succ, h1]
      simp only [cond_true, show m + 1 + cntS (List.take j r) + 1 = m + (1 + cntS (List.take j r)) + 1 by omega]
    | false =>
      show (_ :: numGo m r)[j + 1]? = _
      rw [List.getElem?_cons_succ, h1]
      simp only [cond_false, Nat.zero_add]
theorem cntS_take_lt {L : List Ten} {j k : Nat} {t : Ten} (h : L[j]? = some t) (hs : isSecT t = true) (hk : j < k) : cntS (L.take j) + 1 ≤ cntS (L.take k) := by
  have h1 : cntS (L.take (j + 1)) = cntS (L.take j) + 1 := by rw [take_snoc h, cntS_snoc, hs]; rfl
  have h2 : L.take k = L.take (j + 1) ++ (L.drop (j + 1)).take (k - (j + 1)) := by
    rw [← List.take_add, show j + 1 + (k - (j + 1)) = k by omega]
  rw [h2]
  unfold cntS at *
  rw [List.filter_append, List.length_append]
  omega
theorem secGo_len {l : List UInt8} {L0 : List Ten} {names : List ByteArray} : ∀ (L : List Ten) (i : Nat) (acc ss : List SecD), L0.drop i = L → secGo l (numGo 0 L0) names i L acc = some ss → ss.length = acc.length + cntS L
  | [], _, acc, ss, _, h => by cases h; rfl
  | t :: r, i, acc, ss, hd, h => by
    have ht : L0[i]? = some t := by
      have := congrArg (·[0]?) hd
      simpa using this
    have hr : L0.drop (i + 1) = r := by
      have h1 : L0.drop (i + 1) = (L0.drop i).drop 1 := by rw [List.drop_drop]
      rw [h1, hd]
      rfl
    unfold secGo at h
    rw [numGo_get L0 0 i t ht] at h
    rw [cntS_cons]
    cases hs : isSecT t with
    | false =>
      rw [hs] at h
      have := secGo_len r (i + 1) acc ss hr h
      simpa using this
    | true =>
      rw [hs] at h
      have hz : (((((0 + cntS (L0.take i) + 1 : Nat) : Int)) == 0) = false) := by simp; omega
      cases hb : secB l (numGo 0 L0) t with
      | none => simp only [cond_true, Option.getD_some, hz, cond_false, hb] at h; cases h
      | some s =>
        simp only [cond_true, Option.getD_some, hz, cond_false, hb] at h
        have := secGo_len r (i + 1) _ ss hr h
        simp at this ⊢
        omega
theorem secsB_len {l : List UInt8} {L : List Ten} {names : List ByteArray} {ss : List SecD} (h : secsB l L names = some ss) : ss.length = cntS L := by
  have := secGo_len L 0 [] ss rfl h
  simpa using this

/-! ## An object while it is read -/
structure Rd (N F G nb : Nat) (vb vh vn vs v0 v1 v2 v4 : Value) (sy : Int) (hs : Bool) (L : List Ten) (ns : List Int) (ys : List SymD) (svs : List SecV) (gvs : List GroupV) (sig : List Int) (nm : List Bool) (w : World) : Prop where
  f : w.heap[F]? = some (.cells #[vb, vh, vn, vs, .int .i64 sy] 100 (0, 0))
  g : w.heap[G]? = some (.cells #[v0, v1, v2, .bool hs, v4] 27 (0, 0))
  heads : w.ownsRow N 104 10 vh L.length (tensV L)
  ints : w.ownsRow N 3 1 vs ns.length (ns.map (Value.int .i64))
  named : w.ownsRow N 4 1 (.slice (some ⟨nb, 0, none⟩) L.length L.length) L.length (nm.map Value.bool)
  secs : w.ownsRow N 48 9 v0 svs.length (svs.flatMap SecV.cells)
  secok : ∀ x ∈ svs, x.ok N w
  syms : w.ownsRow N 45 6 v1 ys.length (ys.flatMap symC)
  grps : w.ownsRow N 50 2 v2 gvs.length (gvs.flatMap GroupV.cells)
  grpok : ∀ x ∈ gvs, x.ok N w
  sg : w.ownsRow N 3 1 v4 sig.length (sig.map (Value.int .i64))
section
variable {N F G nb : Nat} {vb vh vn vs v0 v1 v2 v4 : Value} {sy : Int} {hs : Bool} {L : List Ten} {ns : List Int} {ys : List SymD} {svs : List SecV} {gvs : List GroupV} {sig : List Int} {nm : List Bool} {w w' : World}
theorem Rd.below (h : Rd N F G nb vb vh vn vs v0 v1 v2 v4 sy hs L ns ys svs gvs sig nm w) (hb : Below w.heap.size w w') : Rd N F G nb vb vh vn vs v0 v1 v2 v4 sy hs L ns ys svs gvs sig nm w' := by
  have hf : FrT N [] w w' := FrT.of_below hb
  exact ⟨hf.heap h.f (by simp), hf.heap h.g (by simp), hf.owns h.heads (by simp), hf.owns h.ints (by simp), hf.owns h.named (by simp), hf.owns h.secs (by simp), fun x hx => (h.secok x hx).fr hf (by simp) (by simp), hf.owns h.syms (by simp), hf.owns h.grps (by simp), fun x hx => (h.grpok x hx).fr hf (by simp), hf.owns h.sg (by simp)⟩
theorem Rd.rels (h : Rd N F G nb vb vh vn vs v0 v1 v2 v4 sy hs L ns ys svs gvs sig nm w) (hf : FrT N [48, 4] w w') {x j : Nat} {sv : SecV} {rs : List RelD} {vr : Value} (hx : svs[x]? = some sv) (hN : N ≤ w.heap.size)
    (h1 : w'.ownsRow N 4 1 (.slice (some ⟨nb, 0, none⟩) L.length L.length) L.length ((nm.set j true).map Value.bool)) (h2 : w'.ownsRow N 48 9 v0 svs.length ((svs.set x (sv.withRels rs vr)).flatMap SecV.cells))
    (h3 : w'.ownsRow w.heap.size 89 4 vr rs.length (rs.flatMap relC)) (h4 : ∀ r ∈ rs, r.bd) : Rd N F G nb vb vh vn vs v0 v1 v2 v4 sy hs L ns ys (svs.set x (sv.withRels rs vr)) gvs sig (nm.set j true) w' := by
  refine ⟨hf.heap h.f (by decide), hf.heap h.g (by decide), hf.owns h.heads (by decide), hf.owns h.ints (by decide), h1, by rw [List.length_set]; exact h2, fun y hy => ?_, hf.owns h.syms (by decide), hf.owns h.grps (by decide), fun y hy => (h.grpok y hy).fr hf (by decide), hf.owns h.sg (by decide)⟩
  rcases List.mem_or_eq_of_mem_set hy with hy | rfl
  · exact (h.secok y hy).fr hf (by decide) (by decide)
  · obtain ⟨o1, o2, b0, b1, b2, b3, b4, b5, b6, b7⟩ := (h.secok sv (List.mem_of_getElem? hx)).fr hf (by decide) (by decide)
    exact ⟨o1, owns_lower h3 hN, b0, b1, b2, b3, b4, b5, b6, h4⟩
theorem Rd.group (h : Rd N F G nb vb vh vn vs v0 v1 v2 v4 sy hs L ns ys svs gvs sig nm w) (hf : FrT N [27, 50] w w') {g : GroupD} {m v2' : Value} (hN : N ≤ w.heap.size)
    (h1 : w'.heap[G]? = some (.cells #[v0, v1, v2', .bool hs, v4] 27 (0, 0))) (h2 : w'.ownsRow N 50 2 v2' (gvs.length + 1) ((gvs ++ [(⟨g, m⟩ : GroupV)]).flatMap GroupV.cells)) (h3 : w'.ownsRow w.heap.size 3 1 m g.members.length (g.members.map (Value.int .i64)))
    (h4 : i64bd g.sym) (h5 : ∀ y ∈ g.members, i64bd y) : Rd N F G nb vb vh vn vs v0 v1 v2' v4 sy hs L ns ys svs (gvs ++ [(⟨g, m⟩ : GroupV)]) sig nm w' := by
  refine ⟨hf.heap h.f (by decide), h1, hf.owns h.heads (by decide), hf.owns h.ints (by decide), hf.owns h.named (by decide), hf.owns h.secs (by decide), fun y hy => (h.secok y hy).fr hf (by decide) (by decide), hf.owns h.syms (by decide), by rw [List.length_append]; exact h2, fun y hy => ?_, hf.owns h.sg (by decide)⟩
  rcases List.mem_append.1 hy with hy | hy
  · exact (h.grpok y hy).fr hf (by decide)
  · obtain rfl := List.mem_singleton.1 hy
    exact ⟨owns_lower h3 hN, h4, h5⟩
theorem Rd.sigs (h : Rd N F G nb vb vh vn vs v0 v1 v2 v4 sy hs L ns ys svs gvs sig nm w) (hf : FrT N [27] w w') {xs : List Int} {v : Value} (hN : N ≤ w.heap.size)
    (h1 : w'.heap[G]? = some (.cells #[v0, v1, v2, .bool true, v] 27 (0, 0))) (h2 : w'.ownsRow w.heap.size 3 1 v xs.length (xs.map (Value.int .i64))) : Rd N F G nb vb vh vn vs v0 v1 v2 v sy true L ns ys svs gvs xs nm w' :=
  ⟨hf.heap h.f (by decide), h1, hf.owns h.heads (by decide), hf.owns h.ints (by decide), hf.owns h.named (by decide), hf.owns h.secs (by decide), fun y hy => (h.secok y hy).fr hf (by decide) (by decide), hf.owns h.syms (by decide), hf.owns h.grps (by decide), fun y hy => (h.grpok y hy).fr hf (by decide), owns_lower h2 hN⟩
/-- What is read is an object. -/
theorem Rd.parts (h : Rd N F G nb vb vh vn vs v0 v1 v2 v4 sy hs L ns ys svs gvs sig nm w) (hy : ∀ y ∈ ys, y.bd) (hx : ∀ x ∈ sig, i64bd x) : ObjParts w v0 v1 v2 v4 ⟨svs.map SecV.s, ys, gvs.map GroupV.g, hs, sig⟩ :=
  ⟨isL_secs h.secs h.secok, isL_syms h.syms hy, isL_groups h.grps h.grpok, isL_ints h.sg hx⟩
end
/-- Which sections have no relocations yet. -/
def Fresh (L : List Ten) (ns : List Int) (nm : List Bool) (svs : List SecV) : Prop := ∀ (j : Nat) (t : Ten), L[j]? = some t → t.b = 1 → nm[j]? = some false → ∃ (x : Nat) (sv : SecV), ns[j]? = some ((x + 1 : Nat) : Int) ∧ svs[x]? = some sv ∧ sv.r = .slice none 0 0 ∧ sv.s.rels = []
theorem fresh_start {L : List Ten} {svs : List SecV} {nm : List Bool} (hl : svs.length = cntS L) (h : ∀ x ∈ svs, x.r = .slice none 0 0 ∧ x.s.rels = []) : Fresh L (numGo 0 L) nm svs := fun j t ht hb _ => by
  have hs : isSecT t = true := by unfold isSecT; rw [hb]; rfl
  have hlt := (List.getElem?_eq_some_iff.1 ht).1
  have h1 := cntS_take_lt ht hs hlt
  rw [List.take_length] at h1
  obtain ⟨sv, hsv⟩ : ∃ sv, svs[cntS (L.take j)]? = some sv := ⟨_, List.getElem?_eq_getElem (by omega)⟩
  refine ⟨cntS (L.take j), sv, ?_, hsv, h sv (List.mem_of_getElem? hsv)⟩
  rw [numGo_get L 0 j t ht, hs]
  simp
theorem fresh_set {L : List Ten} {nm : List Bool} {svs : List SecV} {i x : Nat} {t : Ten} {sv : SecV} (h : Fresh L (numGo 0 L) nm svs) (ht : L[i]? = some t) (hb : t.b = 1) (hx : (numGo 0 L)[i]? = some ((x + 1 : Nat) : Int)) : Fresh L (numGo 0 L) (nm.set i true) (svs.set x sv) := fun j u hu hub hn => by
  have hij : i ≠ j := fun e => by
    subst e
    rw [List.getElem?_set_self' ] at hn
    cases hq : nm[i]? with
    | none => rw [hq] at hn; cases hn
    | some b => rw [hq] at hn; cases hn
  rw [List.getElem?_set_ne hij] at hn
  obtain ⟨y, sw, h1, h2, h3⟩ := h j u hu hub hn
  have hst : isSecT t = true := by unfold isSecT; rw [hb]; rfl
  have hsu : isSecT u = true := by unfold isSecT; rw [hub]; rfl
  have e1 := numGo_get L 0 i t ht
  have e2 := numGo_get L 0 j u hu
  rw [hst, hx] at e1
  rw [hsu, h1] at e2
  simp only [cond_true, Option.some.injEq] at e1 e2
  have hxy : x ≠ y := fun e => by
    rcases Nat.lt_or_gt_of_ne hij with hlt | hlt
    · have := cntS_take_lt ht hst hlt
      omega
    · have := cntS_take_lt hu hsu hlt
      omega
  exact ⟨y, sw, h1, by rw [List.getElem?_set_ne hxy]; exact h2, h3⟩
theorem map_setRels {svs : List SecV} {x : Nat} {sv : SecV} {rs : List RelD} {vr : Value} (hx : svs[x]? = some sv) : (svs.set x (sv.withRels rs vr)).map SecV.s = setRels (svs.map SecV.s) x rs := by
  unfold setRels
  rw [List.getElem?_map, hx, List.map_set]
  rfl
end Go.Proofs.YtenmcmnhiejbgaaGreat

namespace Go.Proofs.YtenmcmnhiejbgaaGreat
open Go.RowKit

/-- An object's value: its five cells. -/
abbrev objV (v0 v1 v2 : Value) (sig : Bool) (v4 : Value) : Value := .agg #[v0, v1, v2, .bool sig, v4]
def memberN (gs : List GroupD) (n : Int) : Nat := (gs.map fun g => g.members.count n).sum
theorem member_step {gs : List GroupD} {g : GroupD} {i : Nat} (n : Int) (h : gs[i]? = some g) : memberN (gs.take (i + 1)) n = memberN (gs.take i) n + g.members.count n := by
  unfold memberN
  rw [List.take_add_one, h]
  simp
theorem count_step {l : List Int} {x : Int} {k : Nat} (n : Int) (h : l[k]? = some x) : (l.take (k + 1)).count n = (l.take k).count n + (if x == n then 1 else 0) := by
  rw [List.take_add_one, h]
  simp [List.count_append, List.count_cons]

set_option maxRecDepth 100000 in
set_option maxHeartbeats 1000000 in
theorem member_any (v0 v1 v2 : Value) (sig : Bool) (v4 : Value) (gs : List GroupD) (n : Int) (w : World) (hg : IsL 2 EGroup w v2 gs) (hgl : gs.length ≤ 1000000) (hml : ∀ g ∈ gs, g.members.length ≤ 1000000) :
    Calls Tryz.prog 67 #[objV v0 v1 v2 sig v4, .int .i64 n] w fun e w' => e = .returned (.int .i64 (memberN gs n : Int)) ∧ Below w.heap.size w w' := by
  have hb : Below w.heap.size w (w.alloc (.cells #[v0, v1, v2, .bool sig, v4] 27)) := (Below.refl _ w).alloc (Nat.le_refl _) _
  have hg1 := hg.below EGroup.keeps hb
  have hc2 : (w.alloc (.cells #[v0, v1, v2, .bool sig, v4] 27)).cell? ⟨w.heap.size, 2, none⟩ = some v2 := by simp
  obtain ⟨p, c, rfl, _, _, _, hgs⟩ := hg1
  generalize hm : gs.length = m at *
  have HG := Lib.hid hgs
  have HML := Lib.hid hml
  have HM := Lib.hid hm
  clear hg hgs hml hm
  go_enter Tryz.func67, Tryz.ntmps67
  go_wp2_with fail
  generalize w.alloc (.cells #[v0, v1, .slice p m c, .bool sig, v4] 27) = w1 at *
  generalize hgb : w.heap.size = gb at *
  go_loop [5, 6] (fun r5 r6 => ∃ (i q : Nat), i ≤ m ∧ r6 = .int .i64 (i : Int) ∧ r5 = .int .i64 (q : Int) ∧ q = memberN (gs.take i) n ∧ q ≤ i * 1000000) (fun _ r6 => m - (intOf r6).toNat)
  case atStart => exact ⟨0, 0, Nat.zero_le _, rfl, rfl, rfl, Nat.le_refl _⟩
  case round =>
    obtain ⟨i, q, hi, rfl, rfl, hq, hqb⟩ := hrel
    have HQ := Lib.hid hq
    clear hq
    by_cases hlt : i < m
    · obtain ⟨b, off, g, rfl, hgi, hge⟩ := HG.out.at_ (i := i) (by rw [HM.out]; exact hlt)
      obtain ⟨⟨hsym, _⟩, vm, hvm, pm, cm, rfl, hl1, hl2, hl3, hms⟩ := hge
      have hlb := HML.out g (List.mem_of_getElem? hgi)
      have HGI := Lib.hid hgi
      have HMS := Lib.hid hms
      generalize hml : g.members.length = ml at *
      have HL := Lib.hid hml
      have hI : (i : Int) < (m : Int) := by omega
      have hI0 : (0 : Int) ≤ (i : Int) := by omega
      clear hgi hms hml hsym hl3
      go_wp2_with fail
      go_loop [5, 7] (fun r5 r7 => ∃ (k q2 : Nat), k ≤ ml ∧ r7 = .int .i64 (k : Int) ∧ r5 = .int .i64 (q2 : Int) ∧ q2 = q + (g.members.take k).count n ∧ q2 ≤ q + k) (fun _ r7 => ml - (intOf r7).toNat)
      case atStart => exact ⟨0, q, Nat.zero_le _, rfl, rfl, by simp, Nat.le_refl _⟩
      case round =>
        obtain ⟨k, q2, hk, rfl, rfl, hq2, hqb2⟩ := hrel
        have HQ2 := Lib.hid hq2
        clear hq2
        by_cases hkl : k < ml
        · obtain ⟨b2, off2, x, rfl, hx, hxe⟩ := HMS.out.at_ (i := k) (by rw [HL.out]; exact hkl)
          have hcx := hxe.1
          rw [Nat.mul_one] at hcx
          have HST := Lib.hid (count_step n hx)
          have hJ : (k : Int) < (ml : Int) := by omega
          have hJ0 : (0 : Int) ≤ (k : Int) := by omega
          clear hx hxe
          cases hxn : (x == n) with
          | true =>
            rw [hxn] at HST
            go_wp2_with fail
            go_round
            case rel => exact ⟨k + 1, q2 + 1, hkl, by go_num, by go_num, by rw [HST.out, HQ2.out]; simp; omega, by omega⟩
            case measure => simp [intOf]; omega
          | false =>
            rw [hxn] at HST
            go_wp2_with fail
            go_round
            case rel => exact ⟨k + 1, q2, hkl, by go_num, rfl, by rw [HST.out, HQ2.out]; simp, by omega⟩
            case measure => simp [intOf]; omega
        · have hJ : ¬ (k : Int) < (ml : Int) := by omega
          have HE : Hid (q2 = memberN (gs.take (i + 1)) n) := Lib.hid (by
            rw [member_step n HGI.out, ← HQ.out, HQ2.out, List.take_of_length_le (by rw [HL.out]; omega)])
          go_wp2_with fail
          go_round
          case rel => exact ⟨i + 1, q2, hlt, by go_num, rfl, HE.out, by omega⟩
          case measure => simp [intOf]; omega
    · have hI : ¬ (i : Int) < (m : Int) := by omega
      have HE : Hid (memberN gs n = q) := Lib.hid (by rw [HQ.out, List.take_of_length_le (by rw [HM.out]; omega)])
      subst hgb
      go_wp2_with fail
      go_ret
      exact ⟨by rw [HE.out]; rfl, hb⟩

end Go.Proofs.YtenmcmnhiejbgaaGreat
