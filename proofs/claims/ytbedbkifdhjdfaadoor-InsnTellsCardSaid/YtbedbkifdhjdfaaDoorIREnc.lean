/-
  Contract of the document's answer for layer insn: Encode.
-/
import Derived.Test.YtbedbkifdhjdfaaDoorIRHeads
import Derived.Test.YtbedbkifdhjdfaaDoorIRDec
import Derived.Test.YtbedbkifdhjdfaaDoorInsnRef
import Derived.Test.YtbedbkifdhjdfaaDoorAppend
import Derived.Deep.RegionHeld3
import Derived.Deep.AppendLies
import Derived.Test.YtbedbkifdhjdfaaDoorIUp
namespace Go.Proofs.YtbedbkifdhjdfaaDoor
open Go.RowKit

theorem u8_byte (z : Int) : IntKind.u8.wrap z = ((byteI z).toNat : Int) := by
  unfold byteI
  rw [UInt8.toNat_ofNat']
  simp [IntKind.wrap, IntKind.signed, IntKind.bits]
  omega
theorem rimm_wrap (x : Int) : IntKind.u64.wrap x = (immN x : Int) := by
  unfold immN
  simp [IntKind.wrap, IntKind.signed, IntKind.bits]
  omega
theorem ite_w {c : Prop} [Decidable c] {a b : List UInt8 × Nat} (ha : a.2 = 0 ∨ a.2 = 4 ∨ a.2 = 8) (hb : b.2 = 0 ∨ b.2 = 4 ∨ b.2 = 8) : (if c then a else b).2 = 0 ∨ (if c then a else b).2 = 4 ∨ (if c then a else b).2 = 8 := by
  split <;> assumption
theorem rhead_w (x : Ins) : (rhead x).2 = 0 ∨ (rhead x).2 = 4 ∨ (rhead x).2 = 8 := by
  unfold rhead
  repeat' apply ite_w
  all_goals first | exact .inl rfl | exact .inr (.inl rfl) | exact .inr (.inr rfl)
theorem rput_any (x : Int) (wd : Nat) (w : World) (hw : wd = 0 ∨ wd = 4 ∨ wd = 8) : Calls Tryd.prog 17 #[.int .u64 (immN x : Int), .int .i64 (wd : Int)] w fun e w' =>
    ∃ p c, e = .returned (.slice p wd c) ∧ (leB wd (immN x)).length = wd ∧ Has w' p (leB wd (immN x)) ∧ (p = none → c = 0) ∧ Below w.heap.size w w' := by
  rcases hw with rfl | hw
  · exact (refPut_no (immN x) 0 w rfl).mono fun e w' h => by
      obtain ⟨rfl, rfl⟩ := h
      exact ⟨none, 0, rfl, rfl, Has.none_ _ _, fun _ => rfl, Below.refl _ _⟩
  · have hv : immN x < 18446744073709551616 := by unfold immN; omega
    have hwid : wid (wd : Int) = true := (wid_iff _).2 (by omega)
    have h0 : 0 < wd := by omega
    exact (refPut_yes (immN x) wd w hv hwid).mono fun e w' h => by
      obtain ⟨v, rfl, ho, hb⟩ := h
      rw [leB_length] at ho
      obtain ⟨g, c, cur, rfl, _⟩ := owns_form ho h0
      obtain ⟨p, c', he, h1, h2, h3, h4⟩ := Has.of_owns ho
      injection he with e1 e2 e3
      subst e1 e3
      exact ⟨_, _, rfl, h3, h4, (fun h => by simp at h), hb⟩

/-- What Encode gives of any instruction. -/
def REncOK (x : Ins) (w : World) : Prop := Calls Tryd.prog 10 #[x.v] w (GivesH (enc x).length (enc x) w)

set_option maxRecDepth 100000 in
set_option maxHeartbeats 80000000 in
theorem rencode_fit (hlong : RLongOK) (op r m ln fd wd im : Int) (w : World) (hr : 0 ≤ r ∧ r ≤ 7) (hm : 0 ≤ m ∧ m ≤ 7) : Calls Tryd.prog 10 #[.agg #[.int .i64 op, .int .i64 r, .int .i64 m, .int .i64 ln, .int .i64 fd, .int .i64 wd, .int .i64 im]] w (GivesH (renc ⟨op, r, m, ln, fd, wd, im⟩).length (renc ⟨op, r, m, ln, fd, wd, im⟩) w) := by
  obtain ⟨r1, r2⟩ := hr
  obtain ⟨m1, m2⟩ := hm
  have q1 : ¬ r < 0 := by omega
  have q2 : ¬ 7 < r := by omega
  have q3 : ¬ m < 0 := by omega
  have q4 : ¬ 7 < m := by omega
  have hb1 : Below w.heap.size w (w.alloc (.cells #[.int .i64 op, .int .i64 r, .int .i64 m, .int .i64 ln, .int .i64 fd, .int .i64 wd, .int .i64 im] 28)) := (Below.refl _ w).alloc (Nat.le_refl _) _
  have hr1 : (w.alloc (.cells #[.int .i64 op, .int .i64 r, .int .i64 m, .int .i64 ln, .int .i64 fd, .int .i64 wd, .int .i64 im] 28)).heap[w.heap.size]? = some (.cells #[.int .i64 op, .int .i64 r, .int .i64 m, .int .i64 ln, .int .i64 fd, .int .i64 wd, .int .i64 im] 28 (0, 0)) := heap_alloc_new w _
  have HB1 := Lib.hid hb1
  have RX := Lib.hid hr1
  have HLONG := Lib.hid hlong
  clear hb1 hr1 hlong
  go_enter Tryd.func10, Tryd.ntmps10
  go_upto_region 1 with fail
  generalize (w.alloc (.cells #[.int .i64 op, .int .i64 r, .int .i64 m, .int .i64 ln, .int .i64 fd, .int .i64 wd, .int .i64 im] 28)) = w1 at *
  obtain ⟨⟨x0, x1, x2, x3, x4, x5, x6⟩, _⟩ := seven_cells RX.out
  go_upto_region 4 with fail
  go_cut [4] (fun s4 wx => s4 = .int .i64 0 ∧ wx = w1)
  case first =>
    go_wp2_with fail
    go_meet
    exact ⟨rfl, rfl⟩
  case rest =>
  obtain ⟨rfl, hwc⟩ := hcut
  have hwc2 := hwc.symm
  clear hwc
  subst hwc2
  refine (by assumption : ∀ (a : Act) (w : World), Code.wp Tryd.prog _ _ a w → _) _ _ ?_
  apply wp_seq_k
  intro _ _
  go_cut [3, 4] (fun s3 s4 wx => ∃ n, wx.ownsRow (w.heap.size + 1) 5 1 s3 n ((rhead ⟨op, r, m, ln, fd, wd, im⟩).1.map u8v) ∧ n ≤ 4 ∧ s4 = .int .i64 ((rhead ⟨op, r, m, ln, fd, wd, im⟩).2 : Int) ∧ wx.heap[w.heap.size]? = some (.cells #[.int .i64 op, .int .i64 r, .int .i64 m, .int .i64 ln, .int .i64 fd, .int .i64 wd, .int .i64 im] 28 (0, 0)) ∧ Below w.heap.size w wx)
  case first =>
    by_cases c1 : op = 1
    · subst c1
      as_aux_lemma =>
      obtain ⟨i0, hi, hz0, hz1, hz2⟩ := info_parts Tryd.infoU8
      have HI := Lib.hid hi
      have H0 := Lib.hid hz0
      have H1 := Lib.hid hz1
      have H2 := Lib.hid hz2
      clear hi hz0 hz1 hz2
      have a1 : IntKind.i64.wrap (192 + m) = 192 + m := IntWalk.i64_in _ (by omega)
      have hb : IntKind.u8.wrap (192 + m) = ((byteI (192 + m)).toNat : Int) := u8_byte _
      obtain ⟨b0, hb0⟩ : ∃ b, b = byteI (192 + m) := ⟨_, rfl⟩
      rw [← hb0] at hb
      have HHD := Lib.hid fun W => rheads_any 1 W (by simp)
      rw [show headsL 1 = [72, 199] from rfl] at HHD
      have HB0 := Lib.hid hb0
      have hsz1 := HB1.out.size
      have hgl : w.heap.size < w1.heap.size := (Array.getElem?_eq_some_iff.1 RX.out).1
      clear hb0
      obtain ⟨⟨x0, x1, x2, x3, x4, x5, x6⟩, _⟩ := seven_cells RX.out
      go_upto_region 8 with fail
      go_region_held3 (fun W => W.cell? ⟨w.heap.size, 0, none⟩ = some (.int .i64 1) ∧ W.cell? ⟨w.heap.size, 2, none⟩ = some (.int .i64 m)) (first | go_keep | exact ⟨x0, x2⟩ | exact ⟨e0, e2⟩ | exact ⟨f0, f2⟩ | fail)
        ((first
          | (go_at_call 16
             refine (HHD.out _).mono ?_
             rintro e w2 ⟨v2, rfl, hown2, hb2⟩
             first
               | (have HQ := Lib.hid ((lit_has w1 [b0] #[.int .u8 (b0.toNat : Int)] 5 rfl).below ((Below.refl (w1.alloc (.cells #[.int .u8 (b0.toNat : Int)] 5)).heap.size (w1.alloc (.cells #[.int .u8 (b0.toNat : Int)] 5))).drew.trans hb2)))
               | skip
             have hbz : Below w1.heap.size w1 w2 := by
               first
                 | exact (Below.refl w1.heap.size w1).drew.trans hb2
                 | with_reducible exact hb2
                 | exact ((Below.refl w1.heap.size w1).alloc (Nat.le_refl _) _).drew.trans (hb2.mono (by simp))
                 | exact ((Below.refl w1.heap.size w1).drew.alloc (Nat.le_refl _) _).trans (hb2.mono (by simp))
             have e0 := cell_later hbz x0
             have e2 := cell_later hbz x2
             have HO2 := Lib.hid (owns_lower hown2 (show w.heap.size + 1 ≤ _ by first | exact hgl | (simp; omega)))
             have HB2 := Lib.hid (HB1.out.trans (hbz.mono HB1.out.size))
             have RX2 := Lib.hid (row_later hbz RX.out)
             have hsz2 := HB2.out.size
             have hsz3 : w.heap.size + 1 ≤ w2.heap.size := Nat.le_trans hgl hbz.size
             clear hown2 hb2 hbz)
          | (refine step_append_lies _ (by rfl) _ _ _ (by rfl) (w.heap.size + 1) 5 i0 (.int .u8 0) 1 1 Tryd.underlying22 HI.out H0.out H1.out H2.out rfl (by decide) _ 2 _ (by rfl) (HO2.out.alloc _) ⟨w2.heap.size, 0, none⟩ 1 1 [u8v b0] (by rfl) rfl (lit_has w2 [b0] #[.int .u8 (b0.toNat : Int)] 5 rfl).cells (map_oneCell [b0]) (by decide) (by unfold maxLen; decide) (by decide) (by have := HB2.out.size; simp; omega) _ rfl ?_
             intro g3 cap3 w3 hown3 hgrow3 _ _
             have hne3 : some w.heap.size ≠ v2.ownBlock := fun e => by have := (HO2.out.lt _ e.symm).1; omega
             have hal3 := (Below.refl w2.heap.size w2).alloc (Nat.le_refl _) (.cells #[.int .u8 (b0.toNat : Int)] 5)
             have f0 : w3.cell? ⟨w.heap.size, 0, none⟩ = some (.int .i64 1) := World.grownBy.cell hgrow3 (cell_later hal3 e0) hne3
             have f2 : w3.cell? ⟨w.heap.size, 2, none⟩ = some (.int .i64 m) := World.grownBy.cell hgrow3 (cell_later hal3 e2) hne3
             have HO3 := Lib.hid hown3
             have RX3 : Hid (w3.heap[w.heap.size]? = some (.cells #[.int .i64 1, .int .i64 r, .int .i64 m, .int .i64 ln, .int .i64 fd, .int .i64 wd, .int .i64 im] 28 (0, 0))) := Lib.hid ((hgrow3.block _ (Array.getElem?_eq_some_iff.1 (row_later hal3 RX2.out)).1 hne3).trans (row_later hal3 RX2.out))
             have HB3 : Hid (Below w.heap.size w w3) := Lib.hid ((HB2.out.alloc HB2.out.size (.cells #[.int .u8 (b0.toNat : Int)] 5)).grown hgrow3 (HB2.out.alloc HB2.out.size (.cells #[.int .u8 (b0.toNat : Int)] 5)).size (fun g hg => by have := (HO2.out.lt g hg).1; omega))
             clear hown3 hgrow3 hal3)
          | (refine step_append_lies _ (by rfl) _ _ _ (by rfl) (w.heap.size + 1) 5 i0 (.int .u8 0) 1 1 Tryd.underlying22 HI.out H0.out H1.out H2.out rfl (by decide) _ 2 _ (by rfl) HO2.out ⟨w1.heap.size, 0, none⟩ 1 1 [u8v b0] (by rfl) rfl HQ.out.cells (map_oneCell [b0]) (by decide) (by unfold maxLen; decide) (by decide) hsz3 _ rfl ?_
             intro g3 cap3 w3 hown3 hgrow3 _ _
             have hne3 : some w.heap.size ≠ v2.ownBlock := fun e => by have := (HO2.out.lt _ e.symm).1; omega
             have f0 : w3.cell? ⟨w.heap.size, 0, none⟩ = some (.int .i64 1) := World.grownBy.cell hgrow3 e0 hne3
             have f2 : w3.cell? ⟨w.heap.size, 2, none⟩ = some (.int .i64 m) := World.grownBy.cell hgrow3 e2 hne3
             have HO3 := Lib.hid hown3
             have RX3 : Hid (w3.heap[w.heap.size]? = some (.cells #[.int .i64 1, .int .i64 r, .int .i64 m, .int .i64 ln, .int .i64 fd, .int .i64 wd, .int .i64 im] 28 (0, 0))) := Lib.hid ((hgrow3.block _ (Array.getElem?_eq_some_iff.1 RX2.out).1 hne3).trans RX2.out)
             have HB3 : Hid (Below w.heap.size w w3) := Lib.hid (HB2.out.grown hgrow3 HB2.out.size (fun g hg => by have := (HO2.out.lt g hg).1; omega))
             clear hown3 hgrow3)
          | fail))
      all_goals
        go_wp2_with fail
        go_meet
        exact ⟨2 + 1, by have h := HO3.out; rw [HB0.out] at h; exact h, by decide, rfl, RX3.out, HB3.out⟩
    by_cases c2 : op = 2
    · subst c2
      as_aux_lemma =>
      have hgl : w.heap.size < w1.heap.size := (Array.getElem?_eq_some_iff.1 RX.out).1
      have a1 : IntKind.i64.wrap (184 + m) = 184 + m := IntWalk.i64_in _ (by omega)
      have hb : IntKind.u8.wrap (184 + m) = ((byteI (184 + m)).toNat : Int) := u8_byte _
      obtain ⟨b0, hb0⟩ : ∃ b, b = byteI (184 + m) := ⟨_, rfl⟩
      rw [← hb0] at hb
      have HB0 := Lib.hid hb0
      clear hb0
      obtain ⟨⟨x0, x1, x2, x3, x4, x5, x6⟩, _⟩ := seven_cells RX.out
      go_wp2_with fail
      go_meet
      exact ⟨2, by have h := owns_lower (lit_ownsB w1 [72, b0] 2 _ rfl rfl (by unfold maxLen; decide)) (show w.heap.size + 1 ≤ w1.heap.size from hgl); rw [HB0.out] at h ⊢; exact h, by decide, rfl, row_later ((Below.refl w1.heap.size w1).alloc (Nat.le_refl _) _) RX.out, HB1.out.alloc HB1.out.size _⟩
    by_cases c3 : op = 3
    · subst c3
      as_aux_lemma =>
      obtain ⟨i0, hi, hz0, hz1, hz2⟩ := info_parts Tryd.infoU8
      have HI := Lib.hid hi
      have H0 := Lib.hid hz0
      have H1 := Lib.hid hz1
      have H2 := Lib.hid hz2
      clear hi hz0 hz1 hz2
      have a0 : IntKind.i64.wrap (8 * r) = 8 * r := IntWalk.i64_in _ (by omega)
      have a1 : IntKind.i64.wrap (5 + 8 * r) = 5 + 8 * r := IntWalk.i64_in _ (by omega)
      have hb : IntKind.u8.wrap (5 + 8 * r) = ((byteI (5 + 8 * r)).toNat : Int) := u8_byte _
      obtain ⟨b0, hb0⟩ : ∃ b, b = byteI (5 + 8 * r) := ⟨_, rfl⟩
      rw [← hb0] at hb
      have HHD := Lib.hid fun W => rheads_any 3 W (by simp)
      rw [show headsL 3 = [72, 141] from rfl] at HHD
      have HB0 := Lib.hid hb0
      have hsz1 := HB1.out.size
      have hgl : w.heap.size < w1.heap.size := (Array.getElem?_eq_some_iff.1 RX.out).1
      clear hb0
      obtain ⟨⟨x0, x1, x2, x3, x4, x5, x6⟩, _⟩ := seven_cells RX.out
      go_upto_region 14 with fail
      go_region_held3 (fun W => W.cell? ⟨w.heap.size, 0, none⟩ = some (.int .i64 3) ∧ W.cell? ⟨w.heap.size, 1, none⟩ = some (.int .i64 r)) (first | go_keep | exact ⟨x0, x1⟩ | exact ⟨e0, e1⟩ | exact ⟨f0, f1⟩ | fail)
        ((first
          | (go_at_call 16
             refine (HHD.out _).mono ?_
             rintro e w2 ⟨v2, rfl, hown2, hb2⟩
             first
               | (have HQ := Lib.hid ((lit_has w1 [b0] #[.int .u8 (b0.toNat : Int)] 5 rfl).below ((Below.refl (w1.alloc (.cells #[.int .u8 (b0.toNat : Int)] 5)).heap.size (w1.alloc (.cells #[.int .u8 (b0.toNat : Int)] 5))).drew.trans hb2)))
               | skip
             have hbz : Below w1.heap.size w1 w2 := by
               first
                 | exact (Below.refl w1.heap.size w1).drew.trans hb2
                 | with_reducible exact hb2
                 | exact ((Below.refl w1.heap.size w1).alloc (Nat.le_refl _) _).drew.trans (hb2.mono (by simp))
                 | exact ((Below.refl w1.heap.size w1).drew.alloc (Nat.le_refl _) _).trans (hb2.mono (by simp))
             have e0 := cell_later hbz x0
             have e1 := cell_later hbz x1
             have HO2 := Lib.hid (owns_lower hown2 (show w.heap.size + 1 ≤ _ by first | exact hgl | (simp; omega)))
             have HB2 := Lib.hid (HB1.out.trans (hbz.mono HB1.out.size))
             have RX2 := Lib.hid (row_later hbz RX.out)
             have hsz2 := HB2.out.size
             have hsz3 : w.heap.size + 1 ≤ w2.heap.size := Nat.le_trans hgl hbz.size
             clear hown2 hb2 hbz)
          | (refine step_append_lies _ (by rfl) _ _ _ (by rfl) (w.heap.size + 1) 5 i0 (.int .u8 0) 1 1 Tryd.underlying22 HI.out H0.out H1.out H2.out rfl (by decide) _ 2 _ (by rfl) (HO2.out.alloc _) ⟨w2.heap.size, 0, none⟩ 1 1 [u8v b0] (by rfl) rfl (lit_has w2 [b0] #[.int .u8 (b0.toNat : Int)] 5 rfl).cells (map_oneCell [b0]) (by decide) (by unfold maxLen; decide) (by decide) (by have := HB2.out.size; simp; omega) _ rfl ?_
             intro g3 cap3 w3 hown3 hgrow3 _ _
             have hne3 : some w.heap.size ≠ v2.ownBlock := fun e => by have := (HO2.out.lt _ e.symm).1; omega
             have hal3 := (Below.refl w2.heap.size w2).alloc (Nat.le_refl _) (.cells #[.int .u8 (b0.toNat : Int)] 5)
             have f0 : w3.cell? ⟨w.heap.size, 0, none⟩ = some (.int .i64 3) := World.grownBy.cell hgrow3 (cell_later hal3 e0) hne3
             have f1 : w3.cell? ⟨w.heap.size, 1, none⟩ = some (.int .i64 r) := World.grownBy.cell hgrow3 (cell_later hal3 e1) hne3
             have HO3 := Lib.hid hown3
             have RX3 : Hid (w3.heap[w.heap.size]? = some (.cells #[.int .i64 3, .int .i64 r, .int .i64 m, .int .i64 ln, .int .i64 fd, .int .i64 wd, .int .i64 im] 28 (0, 0))) := Lib.hid ((hgrow3.block _ (Array.getElem?_eq_some_iff.1 (row_later hal3 RX2.out)).1 hne3).trans (row_later hal3 RX2.out))
             have HB3 : Hid (Below w.heap.size w w3) := Lib.hid ((HB2.out.alloc HB2.out.size (.cells #[.int .u8 (b0.toNat : Int)] 5)).grown hgrow3 (HB2.out.alloc HB2.out.size (.cells #[.int .u8 (b0.toNat : Int)] 5)).size (fun g hg => by have := (HO2.out.lt g hg).1; omega))
             clear hown3 hgrow3 hal3)
          | (refine step_append_lies _ (by rfl) _ _ _ (by rfl) (w.heap.size + 1) 5 i0 (.int .u8 0) 1 1 Tryd.underlying22 HI.out H0.out H1.out H2.out rfl (by decide) _ 2 _ (by rfl) HO2.out ⟨w1.heap.size, 0, none⟩ 1 1 [u8v b0] (by rfl) rfl HQ.out.cells (map_oneCell [b0]) (by decide) (by unfold maxLen; decide) (by decide) hsz3 _ rfl ?_
             intro g3 cap3 w3 hown3 hgrow3 _ _
             have hne3 : some w.heap.size ≠ v2.ownBlock := fun e => by have := (HO2.out.lt _ e.symm).1; omega
             have f0 : w3.cell? ⟨w.heap.size, 0, none⟩ = some (.int .i64 3) := World.grownBy.cell hgrow3 e0 hne3
             have f1 : w3.cell? ⟨w.heap.size, 1, none⟩ = some (.int .i64 r) := World.grownBy.cell hgrow3 e1 hne3
             have HO3 := Lib.hid hown3
             have RX3 : Hid (w3.heap[w.heap.size]? = some (.cells #[.int .i64 3, .int .i64 r, .int .i64 m, .int .i64 ln, .int .i64 fd, .int .i64 wd, .int .i64 im] 28 (0, 0))) := Lib.hid ((hgrow3.block _ (Array.getElem?_eq_some_iff.1 RX2.out).1 hne3).trans RX2.out)
             have HB3 : Hid (Below w.heap.size w w3) := Lib.hid (HB2.out.grown hgrow3 HB2.out.size (fun g hg => by have := (HO2.out.lt g hg).1; omega))
             clear hown3 hgrow3)
          | fail))
      all_goals
        go_wp2_with fail
        go_meet
        exact ⟨2 + 1, by have h := HO3.out; rw [HB0.out] at h; exact h, by decide, rfl, RX3.out, HB3.out⟩
    by_cases c4 : op = 4
    · subst c4
      as_aux_lemma =>
      obtain ⟨i0, hi, hz0, hz1, hz2⟩ := info_parts Tryd.infoU8
      have HI := Lib.hid hi
      have H0 := Lib.hid hz0
      have H1 := Lib.hid hz1
      have H2 := Lib.hid hz2
      clear hi hz0 hz1 hz2
      have a0 : IntKind.i64.wrap (8 * r) = 8 * r := IntWalk.i64_in _ (by omega)
      have a1 : IntKind.i64.wrap (128 + 8 * r) = 128 + 8 * r := IntWalk.i64_in _ (by omega)
      have a2 : IntKind.i64.wrap (128 + 8 * r + m) = 128 + 8 * r + m := IntWalk.i64_in _ (by omega)
      have hb : IntKind.u8.wrap (128 + 8 * r + m) = ((byteI (128 + 8 * r + m)).toNat : Int) := u8_byte _
      obtain ⟨b0, hb0⟩ : ∃ b, b = byteI (128 + 8 * r + m) := ⟨_, rfl⟩
      rw [← hb0] at hb
      have HHD := Lib.hid fun W => rheads_any 4 W (by simp)
      rw [show headsL 4 = [72, 139] from rfl] at HHD
      have HB0 := Lib.hid hb0
      have hsz1 := HB1.out.size
      have hgl : w.heap.size < w1.heap.size := (Array.getElem?_eq_some_iff.1 RX.out).1
      clear hb0
      obtain ⟨⟨x0, x1, x2, x3, x4, x5, x6⟩, _⟩ := seven_cells RX.out
      go_upto_region 20 with fail
      go_region_held3 (fun W => W.cell? ⟨w.heap.size, 0, none⟩ = some (.int .i64 4) ∧ W.cell? ⟨w.heap.size, 1, none⟩ = some (.int .i64 r) ∧ W.cell? ⟨w.heap.size, 2, none⟩ = some (.int .i64 m)) (first | go_keep | exact ⟨x0, x1, x2⟩ | exact ⟨e0, e1, e2⟩ | exact ⟨f0, f1, f2⟩ | fail)
        ((first
          | (go_at_call 16
             refine (HHD.out _).mono ?_
             rintro e w2 ⟨v2, rfl, hown2, hb2⟩
             first
               | (have HQ := Lib.hid ((lit_has w1 [b0] #[.int .u8 (b0.toNat : Int)] 5 rfl).below ((Below.refl (w1.alloc (.cells #[.int .u8 (b0.toNat : Int)] 5)).heap.size (w1.alloc (.cells #[.int .u8 (b0.toNat : Int)] 5))).drew.trans hb2)))
               | skip
             have hbz : Below w1.heap.size w1 w2 := by
               first
                 | exact (Below.refl w1.heap.size w1).drew.trans hb2
                 | with_reducible exact hb2
                 | exact ((Below.refl w1.heap.size w1).alloc (Nat.le_refl _) _).drew.trans (hb2.mono (by simp))
                 | exact ((Below.refl w1.heap.size w1).drew.alloc (Nat.le_refl _) _).trans (hb2.mono (by simp))
             have e0 := cell_later hbz x0
             have e1 := cell_later hbz x1
             have e2 := cell_later hbz x2
             have HO2 := Lib.hid (owns_lower hown2 (show w.heap.size + 1 ≤ _ by first | exact hgl | (simp; omega)))
             have HB2 := Lib.hid (HB1.out.trans (hbz.mono HB1.out.size))
             have RX2 := Lib.hid (row_later hbz RX.out)
             have hsz2 := HB2.out.size
             have hsz3 : w.heap.size + 1 ≤ w2.heap.size := Nat.le_trans hgl hbz.size
             clear hown2 hb2 hbz)
          | (refine step_append_lies _ (by rfl) _ _ _ (by rfl) (w.heap.size + 1) 5 i0 (.int .u8 0) 1 1 Tryd.underlying22 HI.out H0.out H1.out H2.out rfl (by decide) _ 2 _ (by rfl) (HO2.out.alloc _) ⟨w2.heap.size, 0, none⟩ 1 1 [u8v b0] (by rfl) rfl (lit_has w2 [b0] #[.int .u8 (b0.toNat : Int)] 5 rfl).cells (map_oneCell [b0]) (by decide) (by unfold maxLen; decide) (by decide) (by have := HB2.out.size; simp; omega) _ rfl ?_
             intro g3 cap3 w3 hown3 hgrow3 _ _
             have hne3 : some w.heap.size ≠ v2.ownBlock := fun e => by have := (HO2.out.lt _ e.symm).1; omega
             have hal3 := (Below.refl w2.heap.size w2).alloc (Nat.le_refl _) (.cells #[.int .u8 (b0.toNat : Int)] 5)
             have f0 : w3.cell? ⟨w.heap.size, 0, none⟩ = some (.int .i64 4) := World.grownBy.cell hgrow3 (cell_later hal3 e0) hne3
             have f1 : w3.cell? ⟨w.heap.size, 1, none⟩ = some (.int .i64 r) := World.grownBy.cell hgrow3 (cell_later hal3 e1) hne3
             have f2 : w3.cell? ⟨w.heap.size, 2, none⟩ = some (.int .i64 m) := World.grownBy.cell hgrow3 (cell_later hal3 e2) hne3
             have HO3 := Lib.hid hown3
             have RX3 : Hid (w3.heap[w.heap.size]? = some (.cells #[.int .i64 4, .int .i64 r, .int .i64 m, .int .i64 ln, .int .i64 fd, .int .i64 wd, .int .i64 im] 28 (0, 0))) := Lib.hid ((hgrow3.block _ (Array.getElem?_eq_some_iff.1 (row_later hal3 RX2.out)).1 hne3).trans (row_later hal3 RX2.out))
             have HB3 : Hid (Below w.heap.size w w3) := Lib.hid ((HB2.out.alloc HB2.out.size (.cells #[.int .u8 (b0.toNat : Int)] 5)).grown hgrow3 (HB2.out.alloc HB2.out.size (.cells #[.int .u8 (b0.toNat : Int)] 5)).size (fun g hg => by have := (HO2.out.lt g hg).1; omega))
             clear hown3 hgrow3 hal3)
          | (refine step_append_lies _ (by rfl) _ _ _ (by rfl) (w.heap.size + 1) 5 i0 (.int .u8 0) 1 1 Tryd.underlying22 HI.out H0.out H1.out H2.out rfl (by decide) _ 2 _ (by rfl) HO2.out ⟨w1.heap.size, 0, none⟩ 1 1 [u8v b0] (by rfl) rfl HQ.out.cells (map_oneCell [b0]) (by decide) (by unfold maxLen; decide) (by decide) hsz3 _ rfl ?_
             intro g3 cap3 w3 hown3 hgrow3 _ _
             have hne3 : some w.heap.size ≠ v2.ownBlock := fun e => by have := (HO2.out.lt _ e.symm).1; omega
             have f0 : w3.cell? ⟨w.heap.size, 0, none⟩ = some (.int .i64 4) := World.grownBy.cell hgrow3 e0 hne3
             have f1 : w3.cell? ⟨w.heap.size, 1, none⟩ = some (.int .i64 r) := World.grownBy.cell hgrow3 e1 hne3
             have f2 : w3.cell? ⟨w.heap.size, 2, none⟩ = some (.int .i64 m) := World.grownBy.cell hgrow3 e2 hne3
             have HO3 := Lib.hid hown3
             have RX3 : Hid (w3.heap[w.heap.size]? = some (.cells #[.int .i64 4, .int .i64 r, .int .i64 m, .int .i64 ln, .int .i64 fd, .int .i64 wd, .int .i64 im] 28 (0, 0))) := Lib.hid ((hgrow3.block _ (Array.getElem?_eq_some_iff.1 RX2.out).1 hne3).trans RX2.out)
             have HB3 : Hid (Below w.heap.size w w3) := Lib.hid (HB2.out.grown hgrow3 HB2.out.size (fun g hg => by have := (HO2.out.lt g hg).1; omega))
             clear hown3 hgrow3)
          | fail))
      all_goals
        go_wp2_with fail
        go_meet
        exact ⟨2 + 1, by have h := HO3.out; rw [HB0.out] at h; exact h, by decide, rfl, RX3.out, HB3.out⟩
    by_cases c5 : op = 5
    · subst c5
      as_aux_lemma =>
      obtain ⟨i0, hi, hz0, hz1, hz2⟩ := info_parts Tryd.infoU8
      have HI := Lib.hid hi
      have H0 := Lib.hid hz0
      have H1 := Lib.hid hz1
      have H2 := Lib.hid hz2
      clear hi hz0 hz1 hz2
      have a0 : IntKind.i64.wrap (8 * r) = 8 * r := IntWalk.i64_in _ (by omega)
      have a1 : IntKind.i64.wrap (128 + 8 * r) = 128 + 8 * r := IntWalk.i64_in _ (by omega)
      have a2 : IntKind.i64.wrap (128 + 8 * r + m) = 128 + 8 * r + m := IntWalk.i64_in _ (by omega)
      have hb : IntKind.u8.wrap (128 + 8 * r + m) = ((byteI (128 + 8 * r + m)).toNat : Int) := u8_byte _
      obtain ⟨b0, hb0⟩ : ∃ b, b = byteI (128 + 8 * r + m) := ⟨_, rfl⟩
      rw [← hb0] at hb
      have HHD := Lib.hid fun W => rheads_any 5 W (by simp)
      rw [show headsL 5 = [72, 137] from rfl] at HHD
      have HB0 := Lib.hid hb0
      have hsz1 := HB1.out.size
      have hgl : w.heap.size < w1.heap.size := (Array.getElem?_eq_some_iff.1 RX.out).1
      clear hb0
      obtain ⟨⟨x0, x1, x2, x3, x4, x5, x6⟩, _⟩ := seven_cells RX.out
      go_upto_region 20 with fail
      go_region_held3 (fun W => W.cell? ⟨w.heap.size, 0, none⟩ = some (.int .i64 5) ∧ W.cell? ⟨w.heap.size, 1, none⟩ = some (.int .i64 r) ∧ W.cell? ⟨w.heap.size, 2, none⟩ = some (.int .i64 m)) (first | go_keep | exact ⟨x0, x1, x2⟩ | exact ⟨e0, e1, e2⟩ | exact ⟨f0, f1, f2⟩ | fail)
        ((first
          | (go_at_call 16
             refine (HHD.out _).mono ?_
             rintro e w2 ⟨v2, rfl, hown2, hb2⟩
             first
               | (have HQ := Lib.hid ((lit_has w1 [b0] #[.int .u8 (b0.toNat : Int)] 5 rfl).below ((Below.refl (w1.alloc (.cells #[.int .u8 (b0.toNat : Int)] 5)).heap.size (w1.alloc (.cells #[.int .u8 (b0.toNat : Int)] 5))).drew.trans hb2)))
               | skip
             have hbz : Below w1.heap.size w1 w2 := by
               first
                 | exact (Below.refl w1.heap.size w1).drew.trans hb2
                 | with_reducible exact hb2
                 | exact ((Below.refl w1.heap.size w1).alloc (Nat.le_refl _) _).drew.trans (hb2.mono (by simp))
                 | exact ((Below.refl w1.heap.size w1).drew.alloc (Nat.le_refl _) _).trans (hb2.mono (by simp))
             have e0 := cell_later hbz x0
             have e1 := cell_later hbz x1
             have e2 := cell_later hbz x2
             have HO2 := Lib.hid (owns_lower hown2 (show w.heap.size + 1 ≤ _ by first | exact hgl | (simp; omega)))
             have HB2 := Lib.hid (HB1.out.trans (hbz.mono HB1.out.size))
             have RX2 := Lib.hid (row_later hbz RX.out)
             have hsz2 := HB2.out.size
             have hsz3 : w.heap.size + 1 ≤ w2.heap.size := Nat.le_trans hgl hbz.size
             clear hown2 hb2 hbz)
          | (refine step_append_lies _ (by rfl) _ _ _ (by rfl) (w.heap.size + 1) 5 i0 (.int .u8 0) 1 1 Tryd.underlying22 HI.out H0.out H1.out H2.out rfl (by decide) _ 2 _ (by rfl) (HO2.out.alloc _) ⟨w2.heap.size, 0, none⟩ 1 1 [u8v b0] (by rfl) rfl (lit_has w2 [b0] #[.int .u8 (b0.toNat : Int)] 5 rfl).cells (map_oneCell [b0]) (by decide) (by unfold maxLen; decide) (by decide) (by have := HB2.out.size; simp; omega) _ rfl ?_
             intro g3 cap3 w3 hown3 hgrow3 _ _
             have hne3 : some w.heap.size ≠ v2.ownBlock := fun e => by have := (HO2.out.lt _ e.symm).1; omega
             have hal3 := (Below.refl w2.heap.size w2).alloc (Nat.le_refl _) (.cells #[.int .u8 (b0.toNat : Int)] 5)
             have f0 : w3.cell? ⟨w.heap.size, 0, none⟩ = some (.int .i64 5) := World.grownBy.cell hgrow3 (cell_later hal3 e0) hne3
             have f1 : w3.cell? ⟨w.heap.size, 1, none⟩ = some (.int .i64 r) := World.grownBy.cell hgrow3 (cell_later hal3 e1) hne3
             have f2 : w3.cell? ⟨w.heap.size, 2, none⟩ = some (.int .i64 m) := World.grownBy.cell hgrow3 (cell_later hal3 e2) hne3
             have HO3 := Lib.hid hown3
             have RX3 : Hid (w3.heap[w.heap.size]? = some (.cells #[.int .i64 5, .int .i64 r, .int .i64 m, .int .i64 ln, .int .i64 fd, .int .i64 wd, .int .i64 im] 28 (0, 0))) := Lib.hid ((hgrow3.block _ (Array.getElem?_eq_some_iff.1 (row_later hal3 RX2.out)).1 hne3).trans (row_later hal3 RX2.out))
             have HB3 : Hid (Below w.heap.size w w3) := Lib.hid ((HB2.out.alloc HB2.out.size (.cells #[.int .u8 (b0.toNat : Int)] 5)).grown hgrow3 (HB2.out.alloc HB2.out.size (.cells #[.int .u8 (b0.toNat : Int)] 5)).size (fun g hg => by have := (HO2.out.lt g hg).1; omega))
             clear hown3 hgrow3 hal3)
          | (refine step_append_lies _ (by rfl) _ _ _ (by rfl) (w.heap.size + 1) 5 i0 (.int .u8 0) 1 1 Tryd.underlying22 HI.out H0.out H1.out H2.out rfl (by decide) _ 2 _ (by rfl) HO2.out ⟨w1.heap.size, 0, none⟩ 1 1 [u8v b0] (by rfl) rfl HQ.out.cells (map_oneCell [b0]) (by decide) (by unfold maxLen; decide) (by decide) hsz3 _ rfl ?_
             intro g3 cap3 w3 hown3 hgrow3 _ _
             have hne3 : some w.heap.size ≠ v2.ownBlock := fun e => by have := (HO2.out.lt _ e.symm).1; omega
             have f0 : w3.cell? ⟨w.heap.size, 0, none⟩ = some (.int .i64 5) := World.grownBy.cell hgrow3 e0 hne3
             have f1 : w3.cell? ⟨w.heap.size, 1, none⟩ = some (.int .i64 r) := World.grownBy.cell hgrow3 e1 hne3
             have f2 : w3.cell? ⟨w.heap.size, 2, none⟩ = some (.int .i64 m) := World.grownBy.cell hgrow3 e2 hne3
             have HO3 := Lib.hid hown3
             have RX3 : Hid (w3.heap[w.heap.size]? = some (.cells #[.int .i64 5, .int .i64 r, .int .i64 m, .int .i64 ln, .int .i64 fd, .int .i64 wd, .int .i64 im] 28 (0, 0))) := Lib.hid ((hgrow3.block _ (Array.getElem?_eq_some_iff.1 RX2.out).1 hne3).trans RX2.out)
             have HB3 : Hid (Below w.heap.size w w3) := Lib.hid (HB2.out.grown hgrow3 HB2.out.size (fun g hg => by have := (HO2.out.lt g hg).1; omega))
             clear hown3 hgrow3)
          | fail))
      all_goals
        go_wp2_with fail
        go_meet
        exact ⟨2 + 1, by have h := HO3.out; rw [HB0.out] at h; exact h, by decide, rfl, RX3.out, HB3.out⟩
    by_cases c6 : op = 6
    · subst c6
      as_aux_lemma =>
      obtain ⟨i0, hi, hz0, hz1, hz2⟩ := info_parts Tryd.infoU8
      have HI := Lib.hid hi
      have H0 := Lib.hid hz0
      have H1 := Lib.hid hz1
      have H2 := Lib.hid hz2
      clear hi hz0 hz1 hz2
      have a0 : IntKind.i64.wrap (8 * r) = 8 * r := IntWalk.i64_in _ (by omega)
      have a1 : IntKind.i64.wrap (128 + 8 * r) = 128 + 8 * r := IntWalk.i64_in _ (by omega)
      have a2 : IntKind.i64.wrap (128 + 8 * r + m) = 128 + 8 * r + m := IntWalk.i64_in _ (by omega)
      have hb : IntKind.u8.wrap (128 + 8 * r + m) = ((byteI (128 + 8 * r + m)).toNat : Int) := u8_byte _
      obtain ⟨b0, hb0⟩ : ∃ b, b = byteI (128 + 8 * r + m) := ⟨_, rfl⟩
      rw [← hb0] at hb
      have HHD := Lib.hid fun W => rheads_any 6 W (by simp)
      rw [show headsL 6 = [72, 15, 182] from rfl] at HHD
      have HB0 := Lib.hid hb0
      have hsz1 := HB1.out.size
      have hgl : w.heap.size < w1.heap.size := (Array.getElem?_eq_some_iff.1 RX.out).1
      clear hb0
      obtain ⟨⟨x0, x1, x2, x3, x4, x5, x6⟩, _⟩ := seven_cells RX.out
      go_upto_region 20 with fail
      go_region_held3 (fun W => W.cell? ⟨w.heap.size, 0, none⟩ = some (.int .i64 6) ∧ W.cell? ⟨w.heap.size, 1, none⟩ = some (.int .i64 r) ∧ W.cell? ⟨w.heap.size, 2, none⟩ = some (.int .i64 m)) (first | go_keep | exact ⟨x0, x1, x2⟩ | exact ⟨e0, e1, e2⟩ | exact ⟨f0, f1, f2⟩ | fail)
        ((first
          | (go_at_call 16
             refine (HHD.out _).mono ?_
             rintro e w2 ⟨v2, rfl, hown2, hb2⟩
             first
               | (have HQ := Lib.hid ((lit_has w1 [b0] #[.int .u8 (b0.toNat : Int)] 5 rfl).below ((Below.refl (w1.alloc (.cells #[.int .u8 (b0.toNat : Int)] 5)).heap.size (w1.alloc (.cells #[.int .u8 (b0.toNat : Int)] 5))).drew.trans hb2)))
               | skip
             have hbz : Below w1.heap.size w1 w2 := by
               first
                 | exact (Below.refl w1.heap.size w1).drew.trans hb2
                 | with_reducible exact hb2
                 | exact ((Below.refl w1.heap.size w1).alloc (Nat.le_refl _) _).drew.trans (hb2.mono (by simp))
                 | exact ((Below.refl w1.heap.size w1).drew.alloc (Nat.le_refl _) _).trans (hb2.mono (by simp))
             have e0 := cell_later hbz x0
             have e1 := cell_later hbz x1
             have e2 := cell_later hbz x2
             have HO2 := Lib.hid (owns_lower hown2 (show w.heap.size + 1 ≤ _ by first | exact hgl | (simp; omega)))
             have HB2 := Lib.hid (HB1.out.trans (hbz.mono HB1.out.size))
             have RX2 := Lib.hid (row_later hbz RX.out)
             have hsz2 := HB2.out.size
             have hsz3 : w.heap.size + 1 ≤ w2.heap.size := Nat.le_trans hgl hbz.size
             clear hown2 hb2 hbz)
          | (refine step_append_lies _ (by rfl) _ _ _ (by rfl) (w.heap.size + 1) 5 i0 (.int .u8 0) 1 1 Tryd.underlying22 HI.out H0.out H1.out H2.out rfl (by decide) _ 3 _ (by rfl) (HO2.out.alloc _) ⟨w2.heap.size, 0, none⟩ 1 1 [u8v b0] (by rfl) rfl (lit_has w2 [b0] #[.int .u8 (b0.toNat : Int)] 5 rfl).cells (map_oneCell [b0]) (by decide) (by unfold maxLen; decide) (by decide) (by have := HB2.out.size; simp; omega) _ rfl ?_
             intro g3 cap3 w3 hown3 hgrow3 _ _
             have hne3 : some w.heap.size ≠ v2.ownBlock := fun e => by have := (HO2.out.lt _ e.symm).1; omega
             have hal3 := (Below.refl w2.heap.size w2).alloc (Nat.le_refl _) (.cells #[.int .u8 (b0.toNat : Int)] 5)
             have f0 : w3.cell? ⟨w.heap.size, 0, none⟩ = some (.int .i64 6) := World.grownBy.cell hgrow3 (cell_later hal3 e0) hne3
             have f1 : w3.cell? ⟨w.heap.size, 1, none⟩ = some (.int .i64 r) := World.grownBy.cell hgrow3 (cell_later hal3 e1) hne3
             have f2 : w3.cell? ⟨w.heap.size, 2, none⟩ = some (.int .i64 m) := World.grownBy.cell hgrow3 (cell_later hal3 e2) hne3
             have HO3 := Lib.hid hown3
             have RX3 : Hid (w3.heap[w.heap.size]? = some (.cells #[.int .i64 6, .int .i64 r, .int .i64 m, .int .i64 ln, .int .i64 fd, .int .i64 wd, .int .i64 im] 28 (0, 0))) := Lib.hid ((hgrow3.block _ (Array.getElem?_eq_some_iff.1 (row_later hal3 RX2.out)).1 hne3).trans (row_later hal3 RX2.out))
             have HB3 : Hid (Below w.heap.size w w3) := Lib.hid ((HB2.out.alloc HB2.out.size (.cells #[.int .u8 (b0.toNat : Int)] 5)).grown hgrow3 (HB2.out.alloc HB2.out.size (.cells #[.int .u8 (b0.toNat : Int)] 5)).size (fun g hg => by have := (HO2.out.lt g hg).1; omega))
             clear hown3 hgrow3 hal3)
          | (refine step_append_lies _ (by rfl) _ _ _ (by rfl) (w.heap.size + 1) 5 i0 (.int .u8 0) 1 1 Tryd.underlying22 HI.out H0.out H1.out H2.out rfl (by decide) _ 3 _ (by rfl) HO2.out ⟨w1.heap.size, 0, none⟩ 1 1 [u8v b0] (by rfl) rfl HQ.out.cells (map_oneCell [b0]) (by decide) (by unfold maxLen; decide) (by decide) hsz3 _ rfl ?_
             intro g3 cap3 w3 hown3 hgrow3 _ _
             have hne3 : some w.heap.size ≠ v2.ownBlock := fun e => by have := (HO2.out.lt _ e.symm).1; omega
             have f0 : w3.cell? ⟨w.heap.size, 0, none⟩ = some (.int .i64 6) := World.grownBy.cell hgrow3 e0 hne3
             have f1 : w3.cell? ⟨w.heap.size, 1, none⟩ = some (.int .i64 r) := World.grownBy.cell hgrow3 e1 hne3
             have f2 : w3.cell? ⟨w.heap.size, 2, none⟩ = some (.int .i64 m) := World.grownBy.cell hgrow3 e2 hne3
             have HO3 := Lib.hid hown3
             have RX3 : Hid (w3.heap[w.heap.size]? = some (.cells #[.int .i64 6, .int .i64 r, .int .i64 m, .int .i64 ln, .int .i64 fd, .int .i64 wd, .int .i64 im] 28 (0, 0))) := Lib.hid ((hgrow3.block _ (Array.getElem?_eq_some_iff.1 RX2.out).1 hne3).trans RX2.out)
             have HB3 : Hid (Below w.heap.size w w3) := Lib.hid (HB2.out.grown hgrow3 HB2.out.size (fun g hg => by have := (HO2.out.lt g hg).1; omega))
             clear hown3 hgrow3)
          | fail))
      all_goals
        go_wp2_with fail
        go_meet
        exact ⟨3 + 1, by have h := HO3.out; rw [HB0.out] at h; exact h, by decide, rfl, RX3.out, HB3.out⟩
    by_cases c7 : op = 7
    · subst c7
      as_aux_lemma =>
      obtain ⟨i0, hi, hz0, hz1, hz2⟩ := info_parts Tryd.infoU8
      have HI := Lib.hid hi
      have H0 := Lib.hid hz0
      have H1 := Lib.hid hz1
      have H2 := Lib.hid hz2
      clear hi hz0 hz1 hz2
      have a0 : IntKind.i64.wrap (8 * r) = 8 * r := IntWalk.i64_in _ (by omega)
      have a1 : IntKind.i64.wrap (128 + 8 * r) = 128 + 8 * r := IntWalk.i64_in _ (by omega)
      have a2 : IntKind.i64.wrap (128 + 8 * r + m) = 128 + 8 * r + m := IntWalk.i64_in _ (by omega)
      have hb : IntKind.u8.wrap (128 + 8 * r + m) = ((byteI (128 + 8 * r + m)).toNat : Int) := u8_byte _
      obtain ⟨b0, hb0⟩ : ∃ b, b = byteI (128 + 8 * r + m) := ⟨_, rfl⟩
      rw [← hb0] at hb
      have HHD := Lib.hid fun W => rheads_any 7 W (by simp)
      rw [show headsL 7 = [72, 136] from rfl] at HHD
      have HB0 := Lib.hid hb0
      have hsz1 := HB1.out.size
      have hgl : w.heap.size < w1.heap.size := (Array.getElem?_eq_some_iff.1 RX.out).1
      clear hb0
      obtain ⟨⟨x0, x1, x2, x3, x4, x5, x6⟩, _⟩ := seven_cells RX.out
      go_upto_region 20 with fail
      go_region_held3 (fun W => W.cell? ⟨w.heap.size, 0, none⟩ = some (.int .i64 7) ∧ W.cell? ⟨w.heap.size, 1, none⟩ = some (.int .i64 r) ∧ W.cell? ⟨w.heap.size, 2, none⟩ = some (.int .i64 m)) (first | go_keep | exact ⟨x0, x1, x2⟩ | exact ⟨e0, e1, e2⟩ | exact ⟨f0, f1, f2⟩ | fail)
        ((first
          | (go_at_call 16
             refine (HHD.out _).mono ?_
             rintro e w2 ⟨v2, rfl, hown2, hb2⟩
             first
               | (have HQ := Lib.hid ((lit_has w1 [b0] #[.int .u8 (b0.toNat : Int)] 5 rfl).below ((Below.refl (w1.alloc (.cells #[.int .u8 (b0.toNat : Int)] 5)).heap.size (w1.alloc (.cells #[.int .u8 (b0.toNat : Int)] 5))).drew.trans hb2)))
               | skip
             have hbz : Below w1.heap.size w1 w2 := by
               first
                 | exact (Below.refl w1.heap.size w1).drew.trans hb2
                 | with_reducible exact hb2
                 | exact ((Below.refl w1.heap.size w1).alloc (Nat.le_refl _) _).drew.trans (hb2.mono (by simp))
                 | exact ((Below.refl w1.heap.size w1).drew.alloc (Nat.le_refl _) _).trans (hb2.mono (by simp))
             have e0 := cell_later hbz x0
             have e1 := cell_later hbz x1
             have e2 := cell_later hbz x2
             have HO2 := Lib.hid (owns_lower hown2 (show w.heap.size + 1 ≤ _ by first | exact hgl | (simp; omega)))
             have HB2 := Lib.hid (HB1.out.trans (hbz.mono HB1.out.size))
             have RX2 := Lib.hid (row_later hbz RX.out)
             have hsz2 := HB2.out.size
             have hsz3 : w.heap.size + 1 ≤ w2.heap.size := Nat.le_trans hgl hbz.size
             clear hown2 hb2 hbz)
          | (refine step_append_lies _ (by rfl) _ _ _ (by rfl) (w.heap.size + 1) 5 i0 (.int .u8 0) 1 1 Tryd.underlying22 HI.out H0.out H1.out H2.out rfl (by decide) _ 2 _ (by rfl) (HO2.out.alloc _) ⟨w2.heap.size, 0, none⟩ 1 1 [u8v b0] (by rfl) rfl (lit_has w2 [b0] #[.int .u8 (b0.toNat : Int)] 5 rfl).cells (map_oneCell [b0]) (by decide) (by unfold maxLen; decide) (by decide) (by have := HB2.out.size; simp; omega) _ rfl ?_
             intro g3 cap3 w3 hown3 hgrow3 _ _
             have hne3 : some w.heap.size ≠ v2.ownBlock := fun e => by have := (HO2.out.lt _ e.symm).1; omega
             have hal3 := (Below.refl w2.heap.size w2).alloc (Nat.le_refl _) (.cells #[.int .u8 (b0.toNat : Int)] 5)
             have f0 : w3.cell? ⟨w.heap.size, 0, none⟩ = some (.int .i64 7) := World.grownBy.cell hgrow3 (cell_later hal3 e0) hne3
             have f1 : w3.cell? ⟨w.heap.size, 1, none⟩ = some (.int .i64 r) := World.grownBy.cell hgrow3 (cell_later hal3 e1) hne3
             have f2 : w3.cell? ⟨w.heap.size, 2, none⟩ = some (.int .i64 m) := World.grownBy.cell hgrow3 (cell_later hal3 e2) hne3
             have HO3 := Lib.hid hown3
             have RX3 : Hid (w3.heap[w.heap.size]? = some (.cells #[.int .i64 7, .int .i64 r, .int .i64 m, .int .i64 ln, .int .i64 fd, .int .i64 wd, .int .i64 im] 28 (0, 0))) := Lib.hid ((hgrow3.block _ (Array.getElem?_eq_some_iff.1 (row_later hal3 RX2.out)).1 hne3).trans (row_later hal3 RX2.out))
             have HB3 : Hid (Below w.heap.size w w3) := Lib.hid ((HB2.out.alloc HB2.out.size (.cells #[.int .u8 (b0.toNat : Int)] 5)).grown hgrow3 (HB2.out.alloc HB2.out.size (.cells #[.int .u8 (b0.toNat : Int)] 5)).size (fun g hg => by have := (HO2.out.lt g hg).1; omega))
             clear hown3 hgrow3 hal3)
          | (refine step_append_lies _ (by rfl) _ _ _ (by rfl) (w.heap.size + 1) 5 i0 (.int .u8 0) 1 1 Tryd.underlying22 HI.out H0.out H1.out H2.out rfl (by decide) _ 2 _ (by rfl) HO2.out ⟨w1.heap.size, 0, none⟩ 1 1 [u8v b0] (by rfl) rfl HQ.out.cells (map_oneCell [b0]) (by decide) (by unfold maxLen; decide) (by decide) hsz3 _ rfl ?_
             intro g3 cap3 w3 hown3 hgrow3 _ _
             have hne3 : some w.heap.size ≠ v2.ownBlock := fun e => by have := (HO2.out.lt _ e.symm).1; omega
             have f0 : w3.cell? ⟨w.heap.size, 0, none⟩ = some (.int .i64 7) := World.grownBy.cell hgrow3 e0 hne3
             have f1 : w3.cell? ⟨w.heap.size, 1, none⟩ = some (.int .i64 r) := World.grownBy.cell hgrow3 e1 hne3
             have f2 : w3.cell? ⟨w.heap.size, 2, none⟩ = some (.int .i64 m) := World.grownBy.cell hgrow3 e2 hne3
             have HO3 := Lib.hid hown3
             have RX3 : Hid (w3.heap[w.heap.size]? = some (.cells #[.int .i64 7, .int .i64 r, .int .i64 m, .int .i64 ln, .int .i64 fd, .int .i64 wd, .int .i64 im] 28 (0, 0))) := Lib.hid ((hgrow3.block _ (Array.getElem?_eq_some_iff.1 RX2.out).1 hne3).trans RX2.out)
             have HB3 : Hid (Below w.heap.size w w3) := Lib.hid (HB2.out.grown hgrow3 HB2.out.size (fun g hg => by have := (HO2.out.lt g hg).1; omega))
             clear hown3 hgrow3)
          | fail))
      all_goals
        go_wp2_with fail
        go_meet
        exact ⟨2 + 1, by have h := HO3.out; rw [HB0.out] at h; exact h, by decide, rfl, RX3.out, HB3.out⟩
    by_cases c8 : op = 8
    · subst c8
      as_aux_lemma =>
      obtain ⟨i0, hi, hz0, hz1, hz2⟩ := info_parts Tryd.infoU8
      have HI := Lib.hid hi
      have H0 := Lib.hid hz0
      have H1 := Lib.hid hz1
      have H2 := Lib.hid hz2
      clear hi hz0 hz1 hz2
      have a0 : IntKind.i64.wrap (8 * r) = 8 * r := IntWalk.i64_in _ (by omega)
      have a1 : IntKind.i64.wrap (192 + 8 * r) = 192 + 8 * r := IntWalk.i64_in _ (by omega)
      have a2 : IntKind.i64.wrap (192 + 8 * r + m) = 192 + 8 * r + m := IntWalk.i64_in _ (by omega)
      have hb : IntKind.u8.wrap (192 + 8 * r + m) = ((byteI (192 + 8 * r + m)).toNat : Int) := u8_byte _
      obtain ⟨b0, hb0⟩ : ∃ b, b = byteI (192 + 8 * r + m) := ⟨_, rfl⟩
      rw [← hb0] at hb
      have HHD := Lib.hid fun W => rheads_any 8 W (by simp)
      rw [show headsL 8 = [72, 137] from rfl] at HHD
      have HB0 := Lib.hid hb0
      have hsz1 := HB1.out.size
      have hgl : w.heap.size < w1.heap.size := (Array.getElem?_eq_some_iff.1 RX.out).1
      clear hb0
      obtain ⟨⟨x0, x1, x2, x3, x4, x5, x6⟩, _⟩ := seven_cells RX.out
      go_upto_region 26 with fail
      go_region_held3 (fun W => W.cell? ⟨w.heap.size, 0, none⟩ = some (.int .i64 8) ∧ W.cell? ⟨w.heap.size, 1, none⟩ = some (.int .i64 r) ∧ W.cell? ⟨w.heap.size, 2, none⟩ = some (.int .i64 m)) (first | go_keep | exact ⟨x0, x1, x2⟩ | exact ⟨e0, e1, e2⟩ | exact ⟨f0, f1, f2⟩ | fail)
        ((first
          | (go_at_call 16
             refine (HHD.out _).mono ?_
             rintro e w2 ⟨v2, rfl, hown2, hb2⟩
             first
               | (have HQ := Lib.hid ((lit_has w1 [b0] #[.int .u8 (b0.toNat : Int)] 5 rfl).below ((Below.refl (w1.alloc (.cells #[.int .u8 (b0.toNat : Int)] 5)).heap.size (w1.alloc (.cells #[.int .u8 (b0.toNat : Int)] 5))).drew.trans hb2)))
               | skip
             have hbz : Below w1.heap.size w1 w2 := by
               first
                 | exact (Below.refl w1.heap.size w1).drew.trans hb2
                 | with_reducible exact hb2
                 | exact ((Below.refl w1.heap.size w1).alloc (Nat.le_refl _) _).drew.trans (hb2.mono (by simp))
                 | exact ((Below.refl w1.heap.size w1).drew.alloc (Nat.le_refl _) _).trans (hb2.mono (by simp))
             have e0 := cell_later hbz x0
             have e1 := cell_later hbz x1
             have e2 := cell_later hbz x2
             have HO2 := Lib.hid (owns_lower hown2 (show w.heap.size + 1 ≤ _ by first | exact hgl | (simp; omega)))
             have HB2 := Lib.hid (HB1.out.trans (hbz.mono HB1.out.size))
             have RX2 := Lib.hid (row_later hbz RX.out)
             have hsz2 := HB2.out.size
             have hsz3 : w.heap.size + 1 ≤ w2.heap.size := Nat.le_trans hgl hbz.size
             clear hown2 hb2 hbz)
          | (refine step_append_lies _ (by rfl) _ _ _ (by rfl) (w.heap.size + 1) 5 i0 (.int .u8 0) 1 1 Tryd.underlying22 HI.out H0.out H1.out H2.out rfl (by decide) _ 2 _ (by rfl) (HO2.out.alloc _) ⟨w2.heap.size, 0, none⟩ 1 1 [u8v b0] (by rfl) rfl (lit_has w2 [b0] #[.int .u8 (b0.toNat : Int)] 5 rfl).cells (map_oneCell [b0]) (by decide) (by unfold maxLen; decide) (by decide) (by have := HB2.out.size; simp; omega) _ rfl ?_
             intro g3 cap3 w3 hown3 hgrow3 _ _
             have hne3 : some w.heap.size ≠ v2.ownBlock := fun e => by have := (HO2.out.lt _ e.symm).1; omega
             have hal3 := (Below.refl w2.heap.size w2).alloc (Nat.le_refl _) (.cells #[.int .u8 (b0.toNat : Int)] 5)
             have f0 : w3.cell? ⟨w.heap.size, 0, none⟩ = some (.int .i64 8) := World.grownBy.cell hgrow3 (cell_later hal3 e0) hne3
             have f1 : w3.cell? ⟨w.heap.size, 1, none⟩ = some (.int .i64 r) := World.grownBy.cell hgrow3 (cell_later hal3 e1) hne3
             have f2 : w3.cell? ⟨w.heap.size, 2, none⟩ = some (.int .i64 m) := World.grownBy.cell hgrow3 (cell_later hal3 e2) hne3
             have HO3 := Lib.hid hown3
             have RX3 : Hid (w3.heap[w.heap.size]? = some (.cells #[.int .i64 8, .int .i64 r, .int .i64 m, .int .i64 ln, .int .i64 fd, .int .i64 wd, .int .i64 im] 28 (0, 0))) := Lib.hid ((hgrow3.block _ (Array.getElem?_eq_some_iff.1 (row_later hal3 RX2.out)).1 hne3).trans (row_later hal3 RX2.out))
             have HB3 : Hid (Below w.heap.size w w3) := Lib.hid ((HB2.out.alloc HB2.out.size (.cells #[.int .u8 (b0.toNat : Int)] 5)).grown hgrow3 (HB2.out.alloc HB2.out.size (.cells #[.int .u8 (b0.toNat : Int)] 5)).size (fun g hg => by have := (HO2.out.lt g hg).1; omega))
             clear hown3 hgrow3 hal3)
          | (refine step_append_lies _ (by rfl) _ _ _ (by rfl) (w.heap.size + 1) 5 i0 (.int .u8 0) 1 1 Tryd.underlying22 HI.out H0.out H1.out H2.out rfl (by decide) _ 2 _ (by rfl) HO2.out ⟨w1.heap.size, 0, none⟩ 1 1 [u8v b0] (by rfl) rfl HQ.out.cells (map_oneCell [b0]) (by decide) (by unfold maxLen; decide) (by decide) hsz3 _ rfl ?_
             intro g3 cap3 w3 hown3 hgrow3 _ _
             have hne3 : some w.heap.size ≠ v2.ownBlock := fun e => by have := (HO2.out.lt _ e.symm).1; omega
             have f0 : w3.cell? ⟨w.heap.size, 0, none⟩ = some (.int .i64 8) := World.grownBy.cell hgrow3 e0 hne3
             have f1 : w3.cell? ⟨w.heap.size, 1, none⟩ = some (.int .i64 r) := World.grownBy.cell hgrow3 e1 hne3
             have f2 : w3.cell? ⟨w.heap.size, 2, none⟩ = some (.int .i64 m) := World.grownBy.cell hgrow3 e2 hne3
             have HO3 := Lib.hid hown3
             have RX3 : Hid (w3.heap[w.heap.size]? = some (.cells #[.int .i64 8, .int .i64 r, .int .i64 m, .int .i64 ln, .int .i64 fd, .int .i64 wd, .int .i64 im] 28 (0, 0))) := Lib.hid ((hgrow3.block _ (Array.getElem?_eq_some_iff.1 RX2.out).1 hne3).trans RX2.out)
             have HB3 : Hid (Below w.heap.size w w3) := Lib.hid (HB2.out.grown hgrow3 HB2.out.size (fun g hg => by have := (HO2.out.lt g hg).1; omega))
             clear hown3 hgrow3)
          | fail))
      all_goals
        go_wp2_with fail
        go_meet
        exact ⟨2 + 1, by have h := HO3.out; rw [HB0.out] at h; exact h, by decide, rfl, RX3.out, HB3.out⟩
    by_cases c9 : op = 9
    · subst c9
      as_aux_lemma =>
      obtain ⟨i0, hi, hz0, hz1, hz2⟩ := info_parts Tryd.infoU8
      have HI := Lib.hid hi
      have H0 := Lib.hid hz0
      have H1 := Lib.hid hz1
      have H2 := Lib.hid hz2
      clear hi hz0 hz1 hz2
      have a0 : IntKind.i64.wrap (8 * r) = 8 * r := IntWalk.i64_in _ (by omega)
      have a1 : IntKind.i64.wrap (192 + 8 * r) = 192 + 8 * r := IntWalk.i64_in _ (by omega)
      have a2 : IntKind.i64.wrap (192 + 8 * r + m) = 192 + 8 * r + m := IntWalk.i64_in _ (by omega)
      have hb : IntKind.u8.wrap (192 + 8 * r + m) = ((byteI (192 + 8 * r + m)).toNat : Int) := u8_byte _
      obtain ⟨b0, hb0⟩ : ∃ b, b = byteI (192 + 8 * r + m) := ⟨_, rfl⟩
      rw [← hb0] at hb
      have HHD := Lib.hid fun W => rheads_any 9 W (by simp)
      rw [show headsL 9 = [72, 1] from rfl] at HHD
      have HB0 := Lib.hid hb0
      have hsz1 := HB1.out.size
      have hgl : w.heap.size < w1.heap.size := (Array.getElem?_eq_some_iff.1 RX.out).1
      clear hb0
      obtain ⟨⟨x0, x1, x2, x3, x4, x5, x6⟩, _⟩ := seven_cells RX.out
      go_upto_region 26 with fail
      go_region_held3 (fun W => W.cell? ⟨w.heap.size, 0, none⟩ = some (.int .i64 9) ∧ W.cell? ⟨w.heap.size, 1, none⟩ = some (.int .i64 r) ∧ W.cell? ⟨w.heap.size, 2, none⟩ = some (.int .i64 m)) (first | go_keep | exact ⟨x0, x1, x2⟩ | exact ⟨e0, e1, e2⟩ | exact ⟨f0, f1, f2⟩ | fail)
        ((first
          | (go_at_call 16
             refine (HHD.out _).mono ?_
             rintro e w2 ⟨v2, rfl, hown2, hb2⟩
             first
               | (have HQ := Lib.hid ((lit_has w1 [b0] #[.int .u8 (b0.toNat : Int)] 5 rfl).below ((Below.refl (w1.alloc (.cells #[.int .u8 (b0.toNat : Int)] 5)).heap.size (w1.alloc (.cells #[.int .u8 (b0.toNat : Int)] 5))).drew.trans hb2)))
               | skip
             have hbz : Below w1.heap.size w1 w2 := by
               first
                 | exact (Below.refl w1.heap.size w1).drew.trans hb2
                 | with_reducible exact hb2
                 | exact ((Below.refl w1.heap.size w1).alloc (Nat.le_refl _) _).drew.trans (hb2.mono (by simp))
                 | exact ((Below.refl w1.heap.size w1).drew.alloc (Nat.le_refl _) _).trans (hb2.mono (by simp))
             have e0 := cell_later hbz x0
             have e1 := cell_later hbz x1
             have e2 := cell_later hbz x2
             have HO2 := Lib.hid (owns_lower hown2 (show w.heap.size + 1 ≤ _ by first | exact hgl | (simp; omega)))
             have HB2 := Lib.hid (HB1.out.trans (hbz.mono HB1.out.size))
             have RX2 := Lib.hid (row_later hbz RX.out)
             have hsz2 := HB2.out.size
             have hsz3 : w.heap.size + 1 ≤ w2.heap.size := Nat.le_trans hgl hbz.size
             clear hown2 hb2 hbz)
          | (refine step_append_lies _ (by rfl) _ _ _ (by rfl) (w.heap.size + 1) 5 i0 (.int .u8 0) 1 1 Tryd.underlying22 HI.out H0.out H1.out H2.out rfl (by decide) _ 2 _ (by rfl) (HO2.out.alloc _) ⟨w2.heap.size, 0, none⟩ 1 1 [u8v b0] (by rfl) rfl (lit_has w2 [b0] #[.int .u8 (b0.toNat : Int)] 5 rfl).cells (map_oneCell [b0]) (by decide) (by unfold maxLen; decide) (by decide) (by have := HB2.out.size; simp; omega) _ rfl ?_
             intro g3 cap3 w3 hown3 hgrow3 _ _
             have hne3 : some w.heap.size ≠ v2.ownBlock := fun e => by have := (HO2.out.lt _ e.symm).1; omega
             have hal3 := (Below.refl w2.heap.size w2).alloc (Nat.le_refl _) (.cells #[.int .u8 (b0.toNat : Int)] 5)
             have f0 : w3.cell? ⟨w.heap.size, 0, none⟩ = some (.int .i64 9) := World.grownBy.cell hgrow3 (cell_later hal3 e0) hne3
             have f1 : w3.cell? ⟨w.heap.size, 1, none⟩ = some (.int .i64 r) := World.grownBy.cell hgrow3 (cell_later hal3 e1) hne3
             have f2 : w3.cell? ⟨w.heap.size, 2, none⟩ = some (.int .i64 m) := World.grownBy.cell hgrow3 (cell_later hal3 e2) hne3
             have HO3 := Lib.hid hown3
             have RX3 : Hid (w3.heap[w.heap.size]? = some (.cells #[.int .i64 9, .int .i64 r, .int .i64 m, .int .i64 ln, .int .i64 fd, .int .i64 wd, .int .i64 im] 28 (0, 0))) := Lib.hid ((hgrow3.block _ (Array.getElem?_eq_some_iff.1 (row_later hal3 RX2.out)).1 hne3).trans (row_later hal3 RX2.out))
             have HB3 : Hid (Below w.heap.size w w3) := Lib.hid ((HB2.out.alloc HB2.out.size (.cells #[.int .u8 (b0.toNat : Int)] 5)).grown hgrow3 (HB2.out.alloc HB2.out.size (.cells #[.int .u8 (b0.toNat : Int)] 5)).size (fun g hg => by have := (HO2.out.lt g hg).1; omega))
             clear hown3 hgrow3 hal3)
          | (refine step_append_lies _ (by rfl) _ _ _ (by rfl) (w.heap.size + 1) 5 i0 (.int .u8 0) 1 1 Tryd.underlying22 HI.out H0.out H1.out H2.out rfl (by decide) _ 2 _ (by rfl) HO2.out ⟨w1.heap.size, 0, none⟩ 1 1 [u8v b0] (by rfl) rfl HQ.out.cells (map_oneCell [b0]) (by decide) (by unfold maxLen; decide) (by decide) hsz3 _ rfl ?_
             intro g3 cap3 w3 hown3 hgrow3 _ _
             have hne3 : some w.heap.size ≠ v2.ownBlock := fun e => by have := (HO2.out.lt _ e.symm).1; omega
             have f0 : w3.cell? ⟨w.heap.size, 0, none⟩ = some (.int .i64 9) := World.grownBy.cell hgrow3 e0 hne3
             have f1 : w3.cell? ⟨w.heap.size, 1, none⟩ = some (.int .i64 r) := World.grownBy.cell hgrow3 e1 hne3
             have f2 : w3.cell? ⟨w.heap.size, 2, none⟩ = some (.int .i64 m) := World.grownBy.cell hgrow3 e2 hne3
             have HO3 := Lib.hid hown3
             have RX3 : Hid (w3.heap[w.heap.size]? = some (.cells #[.int .i64 9, .int .i64 r, .int .i64 m, .int .i64 ln, .int .i64 fd, .int .i64 wd, .int .i64 im] 28 (0, 0))) := Lib.hid ((hgrow3.block _ (Array.getElem?_eq_some_iff.1 RX2.out).1 hne3).trans RX2.out)
             have HB3 : Hid (Below w.heap.size w w3) := Lib.hid (HB2.out.grown hgrow3 HB2.out.size (fun g hg => by have := (HO2.out.lt g hg).1; omega))
             clear hown3 hgrow3)
          | fail))
      all_goals
        go_wp2_with fail
        go_meet
        exact ⟨2 + 1, by have h := HO3.out; rw [HB0.out] at h; exact h, by decide, rfl, RX3.out, HB3.out⟩
    by_cases c10 : op = 10
    · subst c10
      as_aux_lemma =>
      obtain ⟨i0, hi, hz0, hz1, hz2⟩ := info_parts Tryd.infoU8
      have HI := Lib.hid hi
      have H0 := Lib.hid hz0
      have H1 := Lib.hid hz1
      have H2 := Lib.hid hz2
      clear hi hz0 hz1 hz2
      have a0 : IntKind.i64.wrap (8 * r) = 8 * r := IntWalk.i64_in _ (by omega)
      have a1 : IntKind.i64.wrap (192 + 8 * r) = 192 + 8 * r := IntWalk.i64_in _ (by omega)
      have a2 : IntKind.i64.wrap (192 + 8 * r + m) = 192 + 8 * r + m := IntWalk.i64_in _ (by omega)
      have hb : IntKind.u8.wrap (192 + 8 * r + m) = ((byteI (192 + 8 * r + m)).toNat : Int) := u8_byte _
      obtain ⟨b0, hb0⟩ : ∃ b, b = byteI (192 + 8 * r + m) := ⟨_, rfl⟩
      rw [← hb0] at hb
      have HHD := Lib.hid fun W => rheads_any 10 W (by simp)
      rw [show headsL 10 = [72, 41] from rfl] at HHD
      have HB0 := Lib.hid hb0
      have hsz1 := HB1.out.size
      have hgl : w.heap.size < w1.heap.size := (Array.getElem?_eq_some_iff.1 RX.out).1
      clear hb0
      obtain ⟨⟨x0, x1, x2, x3, x4, x5, x6⟩, _⟩ := seven_cells RX.out
      go_upto_region 26 with fail
      go_region_held3 (fun W => W.cell? ⟨w.heap.size, 0, none⟩ = some (.int .i64 10) ∧ W.cell? ⟨w.heap.size, 1, none⟩ = some (.int .i64 r) ∧ W.cell? ⟨w.heap.size, 2, none⟩ = some (.int .i64 m)) (first | go_keep | exact ⟨x0, x1, x2⟩ | exact ⟨e0, e1, e2⟩ | exact ⟨f0, f1, f2⟩ | fail)
        ((first
          | (go_at_call 16
             refine (HHD.out _).mono ?_
             rintro e w2 ⟨v2, rfl, hown2, hb2⟩
             first
               | (have HQ := Lib.hid ((lit_has w1 [b0] #[.int .u8 (b0.toNat : Int)] 5 rfl).below ((Below.refl (w1.alloc (.cells #[.int .u8 (b0.toNat : Int)] 5)).heap.size (w1.alloc (.cells #[.int .u8 (b0.toNat : Int)] 5))).drew.trans hb2)))
               | skip
             have hbz : Below w1.heap.size w1 w2 := by
               first
                 | exact (Below.refl w1.heap.size w1).drew.trans hb2
                 | with_reducible exact hb2
                 | exact ((Below.refl w1.heap.size w1).alloc (Nat.le_refl _) _).drew.trans (hb2.mono (by simp))
                 | exact ((Below.refl w1.heap.size w1).drew.alloc (Nat.le_refl _) _).trans (hb2.mono (by simp))
             have e0 := cell_later hbz x0
             have e1 := cell_later hbz x1
             have e2 := cell_later hbz x2
             have HO2 := Lib.hid (owns_lower hown2 (show w.heap.size + 1 ≤ _ by first | exact hgl | (simp; omega)))
             have HB2 := Lib.hid (HB1.out.trans (hbz.mono HB1.out.size))
             have RX2 := Lib.hid (row_later hbz RX.out)
             have hsz2 := HB2.out.size
             have hsz3 : w.heap.size + 1 ≤ w2.heap.size := Nat.le_trans hgl hbz.size
             clear hown2 hb2 hbz)
          | (refine step_append_lies _ (by rfl) _ _ _ (by rfl) (w.heap.size + 1) 5 i0 (.int .u8 0) 1 1 Tryd.underlying22 HI.out H0.out H1.out H2.out rfl (by decide) _ 2 _ (by rfl) (HO2.out.alloc _) ⟨w2.heap.size, 0, none⟩ 1 1 [u8v b0] (by rfl) rfl (lit_has w2 [b0] #[.int .u8 (b0.toNat : Int)] 5 rfl).cells (map_oneCell [b0]) (by decide) (by unfold maxLen; decide) (by decide) (by have := HB2.out.size; simp; omega) _ rfl ?_
             intro g3 cap3 w3 hown3 hgrow3 _ _
             have hne3 : some w.heap.size ≠ v2.ownBlock := fun e => by have := (HO2.out.lt _ e.symm).1; omega
             have hal3 := (Below.refl w2.heap.size w2).alloc (Nat.le_refl _) (.cells #[.int .u8 (b0.toNat : Int)] 5)
             have f0 : w3.cell? ⟨w.heap.size, 0, none⟩ = some (.int .i64 10) := World.grownBy.cell hgrow3 (cell_later hal3 e0) hne3
             have f1 : w3.cell? ⟨w.heap.size, 1, none⟩ = some (.int .i64 r) := World.grownBy.cell hgrow3 (cell_later hal3 e1) hne3
             have f2 : w3.cell? ⟨w.heap.size, 2, none⟩ = some (.int .i64 m) := World.grownBy.cell hgrow3 (cell_later hal3 e2) hne3
             have HO3 := Lib.hid hown3
             have RX3 : Hid (w3.heap[w.heap.size]? = some (.cells #[.int .i64 10, .int .i64 r, .int .i64 m, .int .i64 ln, .int .i64 fd, .int .i64 wd, .int .i64 im] 28 (0, 0))) := Lib.hid ((hgrow3.block _ (Array.getElem?_eq_some_iff.1 (row_later hal3 RX2.out)).1 hne3).trans (row_later hal3 RX2.out))
             have HB3 : Hid (Below w.heap.size w w3) := Lib.hid ((HB2.out.alloc HB2.out.size (.cells #[.int .u8 (b0.toNat : Int)] 5)).grown hgrow3 (HB2.out.alloc HB2.out.size (.cells #[.int .u8 (b0.toNat : Int)] 5)).size (fun g hg => by have := (HO2.out.lt g hg).1; omega))
             clear hown3 hgrow3 hal3)
          | (refine step_append_lies _ (by rfl) _ _ _ (by rfl) (w.heap.size + 1) 5 i0 (.int .u8 0) 1 1 Tryd.underlying22 HI.out H0.out H1.out H2.out rfl (by decide) _ 2 _ (by rfl) HO2.out ⟨w1.heap.size, 0, none⟩ 1 1 [u8v b0] (by rfl) rfl HQ.out.cells (map_oneCell [b0]) (by decide) (by unfold maxLen; decide) (by decide) hsz3 _ rfl ?_
             intro g3 cap3 w3 hown3 hgrow3 _ _
             have hne3 : some w.heap.size ≠ v2.ownBlock := fun e => by have := (HO2.out.lt _ e.symm).1; omega
             have f0 : w3.cell? ⟨w.heap.size, 0, none⟩ = some (.int .i64 10) := World.grownBy.cell hgrow3 e0 hne3
             have f1 : w3.cell? ⟨w.heap.size, 1, none⟩ = some (.int .i64 r) := World.grownBy.cell hgrow3 e1 hne3
             have f2 : w3.cell? ⟨w.heap.size, 2, none⟩ = some (.int .i64 m) := World.grownBy.cell hgrow3 e2 hne3
             have HO3 := Lib.hid hown3
             have RX3 : Hid (w3.heap[w.heap.size]? = some (.cells #[.int .i64 10, .int .i64 r, .int .i64 m, .int .i64 ln, .int .i64 fd, .int .i64 wd, .int .i64 im] 28 (0, 0))) := Lib.hid ((hgrow3.block _ (Array.getElem?_eq_some_iff.1 RX2.out).1 hne3).trans RX2.out)
             have HB3 : Hid (Below w.heap.size w w3) := Lib.hid (HB2.out.grown hgrow3 HB2.out.size (fun g hg => by have := (HO2.out.lt g hg).1; omega))
             clear hown3 hgrow3)
          | fail))
      all_goals
        go_wp2_with fail
        go_meet
        exact ⟨2 + 1, by have h := HO3.out; rw [HB0.out] at h; exact h, by decide, rfl, RX3.out, HB3.out⟩
    by_cases c11 : op = 11
    · subst c11
      as_aux_lemma =>
      obtain ⟨i0, hi, hz0, hz1, hz2⟩ := info_parts Tryd.infoU8
      have HI := Lib.hid hi
      have H0 := Lib.hid hz0
      have H1 := Lib.hid hz1
      have H2 := Lib.hid hz2
      clear hi hz0 hz1 hz2
      have a1 : IntKind.i64.wrap (192 + m) = 192 + m := IntWalk.i64_in _ (by omega)
      have hb : IntKind.u8.wrap (192 + m) = ((byteI (192 + m)).toNat : Int) := u8_byte _
      obtain ⟨b0, hb0⟩ : ∃ b, b = byteI (192 + m) := ⟨_, rfl⟩
      rw [← hb0] at hb
      have HHD := Lib.hid fun W => rheads_any 11 W (by simp)
      rw [show headsL 11 = [72, 129] from rfl] at HHD
      have HB0 := Lib.hid hb0
      have hsz1 := HB1.out.size
      have hgl : w.heap.size < w1.heap.size := (Array.getElem?_eq_some_iff.1 RX.out).1
      clear hb0
      obtain ⟨⟨x0, x1, x2, x3, x4, x5, x6⟩, _⟩ := seven_cells RX.out
      go_upto_region 8 with fail
      go_region_held3 (fun W => W.cell? ⟨w.heap.size, 0, none⟩ = some (.int .i64 11) ∧ W.cell? ⟨w.heap.size, 2, none⟩ = some (.int .i64 m)) (first | go_keep | exact ⟨x0, x2⟩ | exact ⟨e0, e2⟩ | exact ⟨f0, f2⟩ | fail)
        ((first
          | (go_at_call 16
             refine (HHD.out _).mono ?_
             rintro e w2 ⟨v2, rfl, hown2, hb2⟩
             first
               | (have HQ := Lib.hid ((lit_has w1 [b0] #[.int .u8 (b0.toNat : Int)] 5 rfl).below ((Below.refl (w1.alloc (.cells #[.int .u8 (b0.toNat : Int)] 5)).heap.size (w1.alloc (.cells #[.int .u8 (b0.toNat : Int)] 5))).drew.trans hb2)))
               | skip
             have hbz : Below w1.heap.size w1 w2 := by
               first
                 | exact (Below.refl w1.heap.size w1).drew.trans hb2
                 | with_reducible exact hb2
                 | exact ((Below.refl w1.heap.size w1).alloc (Nat.le_refl _) _).drew.trans (hb2.mono (by simp))
                 | exact ((Below.refl w1.heap.size w1).drew.alloc (Nat.le_refl _) _).trans (hb2.mono (by simp))
             have e0 := cell_later hbz x0
             have e2 := cell_later hbz x2
             have HO2 := Lib.hid (owns_lower hown2 (show w.heap.size + 1 ≤ _ by first | exact hgl | (simp; omega)))
             have HB2 := Lib.hid (HB1.out.trans (hbz.mono HB1.out.size))
             have RX2 := Lib.hid (row_later hbz RX.out)
             have hsz2 := HB2.out.size
             have hsz3 : w.heap.size + 1 ≤ w2.heap.size := Nat.le_trans hgl hbz.size
             clear hown2 hb2 hbz)
          | (refine step_append_lies _ (by rfl) _ _ _ (by rfl) (w.heap.size + 1) 5 i0 (.int .u8 0) 1 1 Tryd.underlying22 HI.out H0.out H1.out H2.out rfl (by decide) _ 2 _ (by rfl) (HO2.out.alloc _) ⟨w2.heap.size, 0, none⟩ 1 1 [u8v b0] (by rfl) rfl (lit_has w2 [b0] #[.int .u8 (b0.toNat : Int)] 5 rfl).cells (map_oneCell [b0]) (by decide) (by unfold maxLen; decide) (by decide) (by have := HB2.out.size; simp; omega) _ rfl ?_
             intro g3 cap3 w3 hown3 hgrow3 _ _
             have hne3 : some w.heap.size ≠ v2.ownBlock := fun e => by have := (HO2.out.lt _ e.symm).1; omega
             have hal3 := (Below.refl w2.heap.size w2).alloc (Nat.le_refl _) (.cells #[.int .u8 (b0.toNat : Int)] 5)
             have f0 : w3.cell? ⟨w.heap.size, 0, none⟩ = some (.int .i64 11) := World.grownBy.cell hgrow3 (cell_later hal3 e0) hne3
             have f2 : w3.cell? ⟨w.heap.size, 2, none⟩ = some (.int .i64 m) := World.grownBy.cell hgrow3 (cell_later hal3 e2) hne3
             have HO3 := Lib.hid hown3
             have RX3 : Hid (w3.heap[w.heap.size]? = some (.cells #[.int .i64 11, .int .i64 r, .int .i64 m, .int .i64 ln, .int .i64 fd, .int .i64 wd, .int .i64 im] 28 (0, 0))) := Lib.hid ((hgrow3.block _ (Array.getElem?_eq_some_iff.1 (row_later hal3 RX2.out)).1 hne3).trans (row_later hal3 RX2.out))
             have HB3 : Hid (Below w.heap.size w w3) := Lib.hid ((HB2.out.alloc HB2.out.size (.cells #[.int .u8 (b0.toNat : Int)] 5)).grown hgrow3 (HB2.out.alloc HB2.out.size (.cells #[.int .u8 (b0.toNat : Int)] 5)).size (fun g hg => by have := (HO2.out.lt g hg).1; omega))
             clear hown3 hgrow3 hal3)
          | (refine step_append_lies _ (by rfl) _ _ _ (by rfl) (w.heap.size + 1) 5 i0 (.int .u8 0) 1 1 Tryd.underlying22 HI.out H0.out H1.out H2.out rfl (by decide) _ 2 _ (by rfl) HO2.out ⟨w1.heap.size, 0, none⟩ 1 1 [u8v b0] (by rfl) rfl HQ.out.cells (map_oneCell [b0]) (by decide) (by unfold maxLen; decide) (by decide) hsz3 _ rfl ?_
             intro g3 cap3 w3 hown3 hgrow3 _ _
             have hne3 : some w.heap.size ≠ v2.ownBlock := fun e => by have := (HO2.out.lt _ e.symm).1; omega
             have f0 : w3.cell? ⟨w.heap.size, 0, none⟩ = some (.int .i64 11) := World.grownBy.cell hgrow3 e0 hne3
             have f2 : w3.cell? ⟨w.heap.size, 2, none⟩ = some (.int .i64 m) := World.grownBy.cell hgrow3 e2 hne3
             have HO3 := Lib.hid hown3
             have RX3 : Hid (w3.heap[w.heap.size]? = some (.cells #[.int .i64 11, .int .i64 r, .int .i64 m, .int .i64 ln, .int .i64 fd, .int .i64 wd, .int .i64 im] 28 (0, 0))) := Lib.hid ((hgrow3.block _ (Array.getElem?_eq_some_iff.1 RX2.out).1 hne3).trans RX2.out)
             have HB3 : Hid (Below w.heap.size w w3) := Lib.hid (HB2.out.grown hgrow3 HB2.out.size (fun g hg => by have := (HO2.out.lt g hg).1; omega))
             clear hown3 hgrow3)
          | fail))
      all_goals
        go_wp2_with fail
        go_meet
        exact ⟨2 + 1, by have h := HO3.out; rw [HB0.out] at h; exact h, by decide, rfl, RX3.out, HB3.out⟩
    by_cases c12 : op = 12
    · subst c12
      as_aux_lemma =>
      obtain ⟨i0, hi, hz0, hz1, hz2⟩ := info_parts Tryd.infoU8
      have HI := Lib.hid hi
      have H0 := Lib.hid hz0
      have H1 := Lib.hid hz1
      have H2 := Lib.hid hz2
      clear hi hz0 hz1 hz2
      have a0 : IntKind.i64.wrap (8 * r) = 8 * r := IntWalk.i64_in _ (by omega)
      have a1 : IntKind.i64.wrap (192 + 8 * r) = 192 + 8 * r := IntWalk.i64_in _ (by omega)
      have a2 : IntKind.i64.wrap (192 + 8 * r + m) = 192 + 8 * r + m := IntWalk.i64_in _ (by omega)
      have hb : IntKind.u8.wrap (192 + 8 * r + m) = ((byteI (192 + 8 * r + m)).toNat : Int) := u8_byte _
      obtain ⟨b0, hb0⟩ : ∃ b, b = byteI (192 + 8 * r + m) := ⟨_, rfl⟩
      rw [← hb0] at hb
      have HHD := Lib.hid fun W => rheads_any 12 W (by simp)
      rw [show headsL 12 = [72, 57] from rfl] at HHD
      have HB0 := Lib.hid hb0
      have hsz1 := HB1.out.size
      have hgl : w.heap.size < w1.heap.size := (Array.getElem?_eq_some_iff.1 RX.out).1
      clear hb0
      obtain ⟨⟨x0, x1, x2, x3, x4, x5, x6⟩, _⟩ := seven_cells RX.out
      go_upto_region 26 with fail
      go_region_held3 (fun W => W.cell? ⟨w.heap.size, 0, none⟩ = some (.int .i64 12) ∧ W.cell? ⟨w.heap.size, 1, none⟩ = some (.int .i64 r) ∧ W.cell? ⟨w.heap.size, 2, none⟩ = some (.int .i64 m)) (first | go_keep | exact ⟨x0, x1, x2⟩ | exact ⟨e0, e1, e2⟩ | exact ⟨f0, f1, f2⟩ | fail)
        ((first
          | (go_at_call 16
             refine (HHD.out _).mono ?_
             rintro e w2 ⟨v2, rfl, hown2, hb2⟩
             first
               | (have HQ := Lib.hid ((lit_has w1 [b0] #[.int .u8 (b0.toNat : Int)] 5 rfl).below ((Below.refl (w1.alloc (.cells #[.int .u8 (b0.toNat : Int)] 5)).heap.size (w1.alloc (.cells #[.int .u8 (b0.toNat : Int)] 5))).drew.trans hb2)))
               | skip
             have hbz : Below w1.heap.size w1 w2 := by
               first
                 | exact (Below.refl w1.heap.size w1).drew.trans hb2
                 | with_reducible exact hb2
                 | exact ((Below.refl w1.heap.size w1).alloc (Nat.le_refl _) _).drew.trans (hb2.mono (by simp))
                 | exact ((Below.refl w1.heap.size w1).drew.alloc (Nat.le_refl _) _).trans (hb2.mono (by simp))
             have e0 := cell_later hbz x0
             have e1 := cell_later hbz x1
             have e2 := cell_later hbz x2
             have HO2 := Lib.hid (owns_lower hown2 (show w.heap.size + 1 ≤ _ by first | exact hgl | (simp; omega)))
             have HB2 := Lib.hid (HB1.out.trans (hbz.mono HB1.out.size))
             have RX2 := Lib.hid (row_later hbz RX.out)
             have hsz2 := HB2.out.size
             have hsz3 : w.heap.size + 1 ≤ w2.heap.size := Nat.le_trans hgl hbz.size
             clear hown2 hb2 hbz)
          | (refine step_append_lies _ (by rfl) _ _ _ (by rfl) (w.heap.size + 1) 5 i0 (.int .u8 0) 1 1 Tryd.underlying22 HI.out H0.out H1.out H2.out rfl (by decide) _ 2 _ (by rfl) (HO2.out.alloc _) ⟨w2.heap.size, 0, none⟩ 1 1 [u8v b0] (by rfl) rfl (lit_has w2 [b0] #[.int .u8 (b0.toNat : Int)] 5 rfl).cells (map_oneCell [b0]) (by decide) (by unfold maxLen; decide) (by decide) (by have := HB2.out.size; simp; omega) _ rfl ?_
             intro g3 cap3 w3 hown3 hgrow3 _ _
             have hne3 : some w.heap.size ≠ v2.ownBlock := fun e => by have := (HO2.out.lt _ e.symm).1; omega
             have hal3 := (Below.refl w2.heap.size w2).alloc (Nat.le_refl _) (.cells #[.int .u8 (b0.toNat : Int)] 5)
             have f0 : w3.cell? ⟨w.heap.size, 0, none⟩ = some (.int .i64 12) := World.grownBy.cell hgrow3 (cell_later hal3 e0) hne3
             have f1 : w3.cell? ⟨w.heap.size, 1, none⟩ = some (.int .i64 r) := World.grownBy.cell hgrow3 (cell_later hal3 e1) hne3
             have f2 : w3.cell? ⟨w.heap.size, 2, none⟩ = some (.int .i64 m) := World.grownBy.cell hgrow3 (cell_later hal3 e2) hne3
             have HO3 := Lib.hid hown3
             have RX3 : Hid (w3.heap[w.heap.size]? = some (.cells #[.int .i64 12, .int .i64 r, .int .i64 m, .int .i64 ln, .int .i64 fd, .int .i64 wd, .int .i64 im] 28 (0, 0))) := Lib.hid ((hgrow3.block _ (Array.getElem?_eq_some_iff.1 (row_later hal3 RX2.out)).1 hne3).trans (row_later hal3 RX2.out))
             have HB3 : Hid (Below w.heap.size w w3) := Lib.hid ((HB2.out.alloc HB2.out.size (.cells #[.int .u8 (b0.toNat : Int)] 5)).grown hgrow3 (HB2.out.alloc HB2.out.size (.cells #[.int .u8 (b0.toNat : Int)] 5)).size (fun g hg => by have := (HO2.out.lt g hg).1; omega))
             clear hown3 hgrow3 hal3)
          | (refine step_append_lies _ (by rfl) _ _ _ (by rfl) (w.heap.size + 1) 5 i0 (.int .u8 0) 1 1 Tryd.underlying22 HI.out H0.out H1.out H2.out rfl (by decide) _ 2 _ (by rfl) HO2.out ⟨w1.heap.size, 0, none⟩ 1 1 [u8v b0] (by rfl) rfl HQ.out.cells (map_oneCell [b0]) (by decide) (by unfold maxLen; decide) (by decide) hsz3 _ rfl ?_
             intro g3 cap3 w3 hown3 hgrow3 _ _
             have hne3 : some w.heap.size ≠ v2.ownBlock := fun e => by have := (HO2.out.lt _ e.symm).1; omega
             have f0 : w3.cell? ⟨w.heap.size, 0, none⟩ = some (.int .i64 12) := World.grownBy.cell hgrow3 e0 hne3
             have f1 : w3.cell? ⟨w.heap.size, 1, none⟩ = some (.int .i64 r) := World.grownBy.cell hgrow3 e1 hne3
             have f2 : w3.cell? ⟨w.heap.size, 2, none⟩ = some (.int .i64 m) := World.grownBy.cell hgrow3 e2 hne3
             have HO3 := Lib.hid hown3
             have RX3 : Hid (w3.heap[w.heap.size]? = some (.cells #[.int .i64 12, .int .i64 r, .int .i64 m, .int .i64 ln, .int .i64 fd, .int .i64 wd, .int .i64 im] 28 (0, 0))) := Lib.hid ((hgrow3.block _ (Array.getElem?_eq_some_iff.1 RX2.out).1 hne3).trans RX2.out)
             have HB3 : Hid (Below w.heap.size w w3) := Lib.hid (HB2.out.grown hgrow3 HB2.out.size (fun g hg => by have := (HO2.out.lt g hg).1; omega))
             clear hown3 hgrow3)
          | fail))
      all_goals
        go_wp2_with fail
        go_meet
        exact ⟨2 + 1, by have h := HO3.out; rw [HB0.out] at h; exact h, by decide, rfl, RX3.out, HB3.out⟩
    by_cases c13 : op = 13
    · subst c13
      as_aux_lemma =>
      have hgl : w.heap.size < w1.heap.size := (Array.getElem?_eq_some_iff.1 RX.out).1
      obtain ⟨⟨x0, x1, x2, x3, x4, x5, x6⟩, _⟩ := seven_cells RX.out
      go_wp2_with fail
      go_meet
      exact ⟨1, owns_lower (lit_ownsB w1 [233] 1 _ rfl rfl (by unfold maxLen; decide)) (show w.heap.size + 1 ≤ w1.heap.size from hgl), by decide, rfl, row_later ((Below.refl w1.heap.size w1).alloc (Nat.le_refl _) _) RX.out, HB1.out.alloc HB1.out.size _⟩
    by_cases c14 : op = 14
    · subst c14
      as_aux_lemma =>
      have hgl : w.heap.size < w1.heap.size := (Array.getElem?_eq_some_iff.1 RX.out).1
      obtain ⟨⟨x0, x1, x2, x3, x4, x5, x6⟩, _⟩ := seven_cells RX.out
      go_wp2_with fail
      go_meet
      exact ⟨2, owns_lower (lit_ownsB w1 [15, 132] 2 _ rfl rfl (by unfold maxLen; decide)) (show w.heap.size + 1 ≤ w1.heap.size from hgl), by decide, rfl, row_later ((Below.refl w1.heap.size w1).alloc (Nat.le_refl _) _) RX.out, HB1.out.alloc HB1.out.size _⟩
    by_cases c15 : op = 15
    · subst c15
      as_aux_lemma =>
      have hgl : w.heap.size < w1.heap.size := (Array.getElem?_eq_some_iff.1 RX.out).1
      obtain ⟨⟨x0, x1, x2, x3, x4, x5, x6⟩, _⟩ := seven_cells RX.out
      go_wp2_with fail
      go_meet
      exact ⟨2, owns_lower (lit_ownsB w1 [15, 133] 2 _ rfl rfl (by unfold maxLen; decide)) (show w.heap.size + 1 ≤ w1.heap.size from hgl), by decide, rfl, row_later ((Below.refl w1.heap.size w1).alloc (Nat.le_refl _) _) RX.out, HB1.out.alloc HB1.out.size _⟩
    by_cases c16 : op = 16
    · subst c16
      as_aux_lemma =>
      have hgl : w.heap.size < w1.heap.size := (Array.getElem?_eq_some_iff.1 RX.out).1
      obtain ⟨⟨x0, x1, x2, x3, x4, x5, x6⟩, _⟩ := seven_cells RX.out
      go_wp2_with fail
      go_meet
      exact ⟨2, owns_lower (lit_ownsB w1 [15, 130] 2 _ rfl rfl (by unfold maxLen; decide)) (show w.heap.size + 1 ≤ w1.heap.size from hgl), by decide, rfl, row_later ((Below.refl w1.heap.size w1).alloc (Nat.le_refl _) _) RX.out, HB1.out.alloc HB1.out.size _⟩
    by_cases c17 : op = 17
    · subst c17
      as_aux_lemma =>
      have hgl : w.heap.size < w1.heap.size := (Array.getElem?_eq_some_iff.1 RX.out).1
      obtain ⟨⟨x0, x1, x2, x3, x4, x5, x6⟩, _⟩ := seven_cells RX.out
      go_wp2_with fail
      go_meet
      exact ⟨1, owns_lower (lit_ownsB w1 [232] 1 _ rfl rfl (by unfold maxLen; decide)) (show w.heap.size + 1 ≤ w1.heap.size from hgl), by decide, rfl, row_later ((Below.refl w1.heap.size w1).alloc (Nat.le_refl _) _) RX.out, HB1.out.alloc HB1.out.size _⟩
    by_cases c18 : op = 18
    · subst c18
      as_aux_lemma =>
      have hgl : w.heap.size < w1.heap.size := (Array.getElem?_eq_some_iff.1 RX.out).1
      have a1 : IntKind.i64.wrap (208 + m) = 208 + m := IntWalk.i64_in _ (by omega)
      have hb : IntKind.u8.wrap (208 + m) = ((byteI (208 + m)).toNat : Int) := u8_byte _
      obtain ⟨b0, hb0⟩ : ∃ b, b = byteI (208 + m) := ⟨_, rfl⟩
      rw [← hb0] at hb
      have HB0 := Lib.hid hb0
      clear hb0
      obtain ⟨⟨x0, x1, x2, x3, x4, x5, x6⟩, _⟩ := seven_cells RX.out
      go_wp2_with fail
      go_meet
      exact ⟨2, by have h := owns_lower (lit_ownsB w1 [255, b0] 2 _ rfl rfl (by unfold maxLen; decide)) (show w.heap.size + 1 ≤ w1.heap.size from hgl); rw [HB0.out] at h ⊢; exact h, by decide, rfl, row_later ((Below.refl w1.heap.size w1).alloc (Nat.le_refl _) _) RX.out, HB1.out.alloc HB1.out.size _⟩
    by_cases c19 : op = 19
    · subst c19
      as_aux_lemma =>
      have hgl : w.heap.size < w1.heap.size := (Array.getElem?_eq_some_iff.1 RX.out).1
      obtain ⟨⟨x0, x1, x2, x3, x4, x5, x6⟩, _⟩ := seven_cells RX.out
      go_wp2_with fail
      go_meet
      exact ⟨1, owns_lower (lit_ownsB w1 [195] 1 _ rfl rfl (by unfold maxLen; decide)) (show w.heap.size + 1 ≤ w1.heap.size from hgl), by decide, rfl, row_later ((Below.refl w1.heap.size w1).alloc (Nat.le_refl _) _) RX.out, HB1.out.alloc HB1.out.size _⟩
    by_cases c20 : op = 20
    · subst c20
      as_aux_lemma =>
      have hgl : w.heap.size < w1.heap.size := (Array.getElem?_eq_some_iff.1 RX.out).1
      obtain ⟨⟨x0, x1, x2, x3, x4, x5, x6⟩, _⟩ := seven_cells RX.out
      go_wp2_with fail
      go_meet
      exact ⟨2, owns_lower (lit_ownsB w1 [15, 5] 2 _ rfl rfl (by unfold maxLen; decide)) (show w.heap.size + 1 ≤ w1.heap.size from hgl), by decide, rfl, row_later ((Below.refl w1.heap.size w1).alloc (Nat.le_refl _) _) RX.out, HB1.out.alloc HB1.out.size _⟩
    obtain ⟨⟨x0, x1, x2, x3, x4, x5, x6⟩, _⟩ := seven_cells RX.out
    go_wp2_with fail
    go_meet
    have hh : rhead (⟨op, r, m, ln, fd, wd, im⟩ : Ins) = ([], 0) := by simp [rhead, c1, c2, c3, c4, c5, c6, c7, c8, c9, c10, c11, c12, c13, c14, c15, c16, c17, c18, c19, c20]
    rw [hh]
    exact ⟨0, World.ownsRow_nil _ _ _ _, by decide, rfl, RX.out, HB1.out⟩
  case rest =>
  obtain ⟨n0, hown, hn0, hs4, hrx, hb⟩ := hcut
  subst hs4
  as_aux_lemma =>
  have HFIT : Hid (fitR (⟨op, r, m, ln, fd, wd, im⟩ : Ins) = true) := Lib.hid (by simp [fitR]; omega)
  obtain ⟨X, hX⟩ : ∃ X, X = (⟨op, r, m, ln, fd, wd, im⟩ : Ins) := ⟨_, rfl⟩
  rw [← hX] at hown HFIT ⊢
  have HX := Lib.hid hX
  have HRAW := Lib.hid (show rraw X = (rhead X).1 ++ leB (rhead X).2 (immN im) from by rw [HX.out]; rfl)
  have hwd := rhead_w X
  generalize (rhead X).1 = HL at *
  generalize (rhead X).2 = W2 at *
  clear hX
  have HPUT := Lib.hid fun W => rput_any im W2 W hwd
  have hi1 := rimm_wrap im
  have hw8 : W2 ≤ 8 := by omega
  clear hwd
  have HB := Lib.hid hb
  have HOWN := Lib.hid hown
  obtain ⟨i0, hi, hz0, hz1, hz2⟩ := info_parts Tryd.infoU8
  have HI := Lib.hid hi
  have H0 := Lib.hid hz0
  have H1 := Lib.hid hz1
  have H2 := Lib.hid hz2
  clear hi hz0 hz1 hz2
  have HRX := Lib.hid hrx
  obtain ⟨⟨x0, x1, x2, x3, x4, x5, x6⟩, _⟩ := seven_cells HRX.out
  clear hrx hb hown HB1 RX
  go_wp2_with fail
  refine (HPUT.out _).mono ?_
  rintro e w5 ⟨p5, q5, rfl, hl5, hH5, hq5, hb5⟩
  have RX5 := Lib.hid (row_later hb5 HRX.out)
  have hsz := (Array.getElem?_eq_some_iff.1 RX5.out).1
  have HB5 := Lib.hid (HB.out.trans (hb5.mono HB.out.size))
  have HO5 := Lib.hid (owns_below HOWN.out hb5)
  have HH5 := Lib.hid hH5
  have HL5 := Lib.hid hl5
  have HQ5 := Lib.hid hq5
  clear hb5 hH5 hl5 hq5 x0 x1 x2 x3 x4 x5 x6
  go_wp2_with (at_builtin; refine wpList_append_bytes _ rfl _ _ 22 rfl (w.heap.size + 1) 5 i0 Tryd.underlying22 HI.out H0.out H1.out H2.out _ n0 HL rfl HO5.out p5 W2 q5 (leB W2 (immN im)) rfl HH5.out HL5.out HQ5.out (by omega) hsz ?_)
  intro v6 w6 hown6 hgrow6 _
  have hown6' : w6.ownsRow (w.heap.size + 1) 5 1 v6 (n0 + W2) ((rraw X).map u8v) := by rw [HRAW.out, List.map_append]; exact hown6
  have RX6 : Hid (w6.heap[w.heap.size]? = some (.cells #[.int .i64 op, .int .i64 r, .int .i64 m, .int .i64 ln, .int .i64 fd, .int .i64 wd, .int .i64 im] 28 (0, 0))) := Lib.hid ((hgrow6.block _ hsz (fun e => by have := (HO5.out.lt _ e.symm).1; omega)).trans RX5.out)
  have HB6 : Hid (Below w.heap.size w w6) := Lib.hid (HB5.out.grown hgrow6 HB5.out.size (fun g hg => by have := (HO5.out.lt g hg).1; omega))
  obtain ⟨p6, q6, rfl, hn6, hm6, hl6, hH6⟩ := Has.of_owns hown6'
  have HDEC := Lib.hid (rdecode_any HLONG.out p6 _ q6 (rraw X) w6 hH6 hl6 hn6 hm6)
  have HH6 := Lib.hid hH6
  have HL6 := Lib.hid hl6
  have HN6 := Lib.hid hn6
  have HM6 := Lib.hid hm6
  clear hown6 hown6' hgrow6 hl6 hn6 hm6 hH6 hsz
  cases hdx : dec (rraw X) with
  | none =>
    have HE : Hid (renc (⟨op, r, m, ln, fd, wd, im⟩ : Ins) = []) := Lib.hid (by rw [← HX.out]; unfold renc; rw [hdx]; simp)
    rw [hdx] at HDEC
    simp only [optI, ins0] at HDEC
    clear hdx
    go_wp2_with fail
    refine HDEC.out.mono ?_
    rintro e w7 ⟨rfl, hb7⟩
    have HB7 := Lib.hid (HB6.out.trans (hb7.mono HB6.out.size))
    have RX7 := Lib.hid (row_later hb7 RX6.out)
    clear hb7
    go_wp2_with fail
    go_ret
    rw [HE.out]
    exact ⟨none, 0, rfl, rfl, Nat.le_refl _, Nat.zero_le _, Has.none_ _ _, HB7.out.alloc HB7.out.size _⟩
  | some y =>
    rw [hdx] at HDEC
    simp only [optI] at HDEC
    have HDX := Lib.hid hdx
    clear hdx
    go_wp2_with fail
    refine HDEC.out.mono ?_
    rintro e w7 ⟨rfl, hb7⟩
    have HB7 := Lib.hid (HB6.out.trans (hb7.mono HB6.out.size))
    have RX7 := Lib.hid (row_later hb7 RX6.out)
    have HH7 := Lib.hid (HH6.out.below hb7)
    clear hb7
    have hyr : (w7.alloc (.cells #[.int .i64 y.op, .int .i64 y.r, .int .i64 y.m, .int .i64 y.len, .int .i64 y.field, .int .i64 y.width, .int .i64 y.imm] 28)).heap[w7.heap.size]? = some (.cells #[.int .i64 y.op, .int .i64 y.r, .int .i64 y.m, .int .i64 y.len, .int .i64 y.field, .int .i64 y.width, .int .i64 y.imm] 28 (0, 0)) := heap_alloc_new w7 _
    have hb8 := (Below.refl w7.heap.size w7).alloc (Nat.le_refl _) (.cells #[.int .i64 y.op, .int .i64 y.r, .int .i64 y.m, .int .i64 y.len, .int .i64 y.field, .int .i64 y.width, .int .i64 y.imm] 28)
    have hxr := row_later hb8 RX7.out
    have HH8 := Lib.hid (HH7.out.below hb8)
    have HB8 := Lib.hid (HB7.out.alloc HB7.out.size (.cells #[.int .i64 y.op, .int .i64 y.r, .int .i64 y.m, .int .i64 y.len, .int .i64 y.field, .int .i64 y.width, .int .i64 y.imm] 28))
    go_upto_region 50 with fail
    obtain ⟨⟨y0, y1, y2, y3, y4, y5, y6⟩, _⟩ := seven_cells hyr
    obtain ⟨⟨x0, x1, x2, x3, x4, x5, x6⟩, _⟩ := seven_cells hxr
    generalize (w7.alloc (.cells #[.int .i64 y.op, .int .i64 y.r, .int .i64 y.m, .int .i64 y.len, .int .i64 y.field, .int .i64 y.width, .int .i64 y.imm] 28)) = w8 at *
    generalize w7.heap.size = gy at *
    clear hyr hxr hb8
    by_cases hyx : y = X
    · have HE : Hid (renc (⟨op, r, m, ln, fd, wd, im⟩ : Ins) = rraw X) := Lib.hid (by rw [← HX.out]; unfold renc; rw [if_pos ⟨HFIT.out, by rw [HDX.out, hyx]⟩])
      have hyx2 := hyx.trans HX.out
      rw [hyx2] at y0 y1 y2 y3 y4 y5 y6
      dsimp only at y0 y1 y2 y3 y4 y5 y6
      clear hyx hyx2
      go_wp2_with fail
      go_ret
      rw [HE.out]
      exact ⟨_, _, by rw [HL6.out]; rfl, rfl, by rw [HL6.out]; exact HN6.out, HM6.out, HH8.out, HB8.out⟩
    · have HE : Hid (renc (⟨op, r, m, ln, fd, wd, im⟩ : Ins) = []) := Lib.hid (by rw [← HX.out]; unfold renc; rw [if_neg (by rw [HDX.out]; exact fun e => hyx (Option.some.inj e.2))])
      go_wp2_with fail
      all_goals
        first
          | (go_ret
             rw [HE.out]
             exact ⟨none, 0, rfl, rfl, Nat.le_refl _, Nat.zero_le _, Has.none_ _ _, HB8.out⟩)
          | (exfalso
             apply hyx
             rw [HX.out]
             cases y
             simp_all)

/-- One of the numbers of registers is out of bounds. -/
theorem rencode_unfit (op r m ln fd wd im : Int) (w : World) (h : r < 0 ∨ 7 < r ∨ m < 0 ∨ 7 < m) : Calls Tryd.prog 10 #[.agg #[.int .i64 op, .int .i64 r, .int .i64 m, .int .i64 ln, .int .i64 fd, .int .i64 wd, .int .i64 im]] w (GivesH 0 [] w) := by
  have hb1 : Below w.heap.size w (w.alloc (.cells #[.int .i64 op, .int .i64 r, .int .i64 m, .int .i64 ln, .int .i64 fd, .int .i64 wd, .int .i64 im] 28)) := (Below.refl _ w).alloc (Nat.le_refl _) _
  have hr1 : (w.alloc (.cells #[.int .i64 op, .int .i64 r, .int .i64 m, .int .i64 ln, .int .i64 fd, .int .i64 wd, .int .i64 im] 28)).heap[w.heap.size]? = some (.cells #[.int .i64 op, .int .i64 r, .int .i64 m, .int .i64 ln, .int .i64 fd, .int .i64 wd, .int .i64 im] 28 (0, 0)) := heap_alloc_new w _
  have HB1 := Lib.hid hb1
  have RX := Lib.hid hr1
  clear hb1 hr1
  go_enter Tryd.func10, Tryd.ntmps10
  go_upto_region 1 with fail
  generalize (w.alloc (.cells #[.int .i64 op, .int .i64 r, .int .i64 m, .int .i64 ln, .int .i64 fd, .int .i64 wd, .int .i64 im] 28)) = w1 at *
  obtain ⟨⟨x0, x1, x2, x3, x4, x5, x6⟩, _⟩ := seven_cells RX.out
  by_cases h1 : r < 0
  · go_wp2_with fail
    go_ret
    exact ⟨none, 0, rfl, rfl, Nat.le_refl _, Nat.zero_le _, Has.none_ _ _, HB1.out⟩
  by_cases h2 : 7 < r
  · go_wp2_with fail
    go_ret
    exact ⟨none, 0, rfl, rfl, Nat.le_refl _, Nat.zero_le _, Has.none_ _ _, HB1.out⟩
  by_cases h3 : m < 0
  · go_wp2_with fail
    go_ret
    exact ⟨none, 0, rfl, rfl, Nat.le_refl _, Nat.zero_le _, Has.none_ _ _, HB1.out⟩
  have h4 : 7 < m := by omega
  go_wp2_with fail
  go_ret
  exact ⟨none, 0, rfl, rfl, Nat.le_refl _, Nat.zero_le _, Has.none_ _ _, HB1.out⟩

theorem rencode_any (hlong : RLongOK) (x : Ins) (w : World) : Calls Tryd.prog 10 #[x.v] w (GivesH (enc x).length (enc x) w) := by
  rw [← renc_enc]
  obtain ⟨op, r, m, ln, fd, wd, im⟩ := x
  by_cases h : (0 ≤ r ∧ r ≤ 7) ∧ (0 ≤ m ∧ m ≤ 7)
  · exact rencode_fit hlong op r m ln fd wd im w h.1 h.2
  · have h2 : renc ⟨op, r, m, ln, fd, wd, im⟩ = [] := by
      unfold renc
      rw [if_neg]
      rintro ⟨h3, _⟩
      simp [fitR] at h3
      omega
    rw [h2]
    exact rencode_unfit op r m ln fd wd im w (by omega)
end Go.Proofs.YtbedbkifdhjdfaaDoor
