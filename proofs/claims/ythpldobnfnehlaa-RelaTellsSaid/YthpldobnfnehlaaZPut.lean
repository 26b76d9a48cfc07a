/-
  Contracts of the project's rela: Width, isPlace, may, number, Put.
-/
import Derived.Test.YthpldobnfnehlaaZSpec
import Derived.Test.YthpldobnfnehlaaConcat
import Derived.Test.YthpldobnfnehlaaPart
import Derived.Deep.RegionHeld3
namespace Go.Proofs.Ythpldobnfnehlaa
open Go.RowKit

theorem zwid_any (n : Int) (w : World) : Calls Try.prog 31 #[.int .i64 n] w fun e w' => e = .returned (.int .i64 (widthI n)) ∧ w = w' := by
  by_cases h1 : n = 1
  · subst h1
    go_enter Try.func31, Try.ntmps31
    go_wp2
    go_ret
    exact ⟨rfl, rfl⟩
  by_cases h2 : n = 2
  · subst h2
    go_enter Try.func31, Try.ntmps31
    go_wp2
    go_ret
    exact ⟨rfl, rfl⟩
  by_cases h4 : n = 4
  · subst h4
    go_enter Try.func31, Try.ntmps31
    go_wp2
    go_ret
    exact ⟨rfl, rfl⟩
  by_cases h10 : n = 10
  · subst h10
    go_enter Try.func31, Try.ntmps31
    go_wp2
    go_ret
    exact ⟨rfl, rfl⟩
  by_cases h11 : n = 11
  · subst h11
    go_enter Try.func31, Try.ntmps31
    go_wp2
    go_ret
    exact ⟨rfl, rfl⟩
  have HW : Hid (widthI n = 0) := Lib.hid (by simp [widthI, h1, h2, h4, h10, h11])
  have e1 : (n == 1) = false := by simpa using h1
  have e2 : (n == 2) = false := by simpa using h2
  have e4 : (n == 4) = false := by simpa using h4
  have e10 : (n == 10) = false := by simpa using h10
  have e11 : (n == 11) = false := by simpa using h11
  clear h1 h2 h4 h10 h11
  go_enter Try.func31, Try.ntmps31
  go_wp2
  go_ret
  rw [HW.out]
  exact ⟨rfl, rfl⟩

theorem place_any (n : Int) (w : World) : Calls Try.prog 59 #[.int .i64 n] w fun e w' => e = .returned (.bool (fitsB n)) ∧ w = w' := by
  by_cases h0 : 0 ≤ n
  · by_cases h1 : n ≤ 2147483647
    · have H : Hid (fitsB n = true) := Lib.hid ((fitsB_iff n).2 ⟨h0, h1⟩)
      go_enter Try.func59, Try.ntmps59
      go_wp2_with fail
      go_ret
      exact ⟨ret_b H.out.symm, rfl⟩
    · have H : Hid (fitsB n = false) := Lib.hid (by simp [fitsB, h1])
      go_enter Try.func59, Try.ntmps59
      go_wp2_with fail
      go_ret
      exact ⟨ret_b H.out.symm, rfl⟩
  · have H : Hid (fitsB n = false) := Lib.hid (by simp [fitsB, h0])
    go_enter Try.func59, Try.ntmps59
    go_wp2_with fail
    go_ret
    exact ⟨ret_b H.out.symm, rfl⟩

theorem zwidth_cases (n : Int) : widthI n = 0 ∨ widthI n = 4 ∨ widthI n = 8 := by
  unfold widthI
  split
  · omega
  · split <;> omega

set_option maxHeartbeats 1000000 in
theorem zmay_any (t : Fou) (w : World) : Calls Try.prog 52 #[t.v] w fun e w' => e = .returned (.bool (decide t.may)) ∧ Below w.heap.size w w' := by
  have hb := (Below.refl _ w).alloc (Nat.le_refl _) (.cells #[.int .i64 t.a, .int .i64 t.b, .int .i64 t.c, .int .i64 t.d] 57)
  have HA := Lib.hid (place_any t.a)
  have HC := Lib.hid (place_any t.c)
  have HW := Lib.hid (zwid_any t.b)
  cases hA : fitsB t.a with
  | false =>
    have HM : Hid (decide t.may = false) := Lib.hid (decide_eq_false (by unfold Fou.may; rw [hA]; simp))
    rw [hA] at HA
    clear hA HC HW
    go_enter Try.func52, Try.ntmps52
    go_wp2_with (go_at_call 59; refine (HA.out _).mono ?_; rintro e w' ⟨rfl, rfl⟩)
    go_ret
    exact ⟨ret_b HM.out.symm, hb⟩
  | true =>
    cases hC : fitsB t.c with
    | false =>
      have HM : Hid (decide t.may = false) := Lib.hid (decide_eq_false (by unfold Fou.may; rw [hC]; simp))
      rw [hA] at HA
      rw [hC] at HC
      clear hA hC HW
      go_enter Try.func52, Try.ntmps52
      go_wp2_with fail
      refine (HA.out _).mono ?_
      rintro e w' ⟨rfl, rfl⟩
      go_wp2_with fail
      refine (HC.out _).mono ?_
      rintro e w' ⟨rfl, rfl⟩
      go_wp2_with fail
      go_ret
      exact ⟨ret_b HM.out.symm, hb⟩
    | true =>
      rw [hA] at HA
      rw [hC] at HC
      rcases zwidth_cases t.b with hW | hW | hW
      · have HM : Hid (decide t.may = false) := Lib.hid (decide_eq_false (by unfold Fou.may; rw [hW]; simp))
        rw [hW] at HW
        clear hA hC hW
        go_enter Try.func52, Try.ntmps52
        go_wp2_with fail
        refine (HA.out _).mono ?_
        rintro e w' ⟨rfl, rfl⟩
        go_wp2_with fail
        refine (HC.out _).mono ?_
        rintro e w' ⟨rfl, rfl⟩
        go_wp2_with fail
        refine (HW.out _).mono ?_
        rintro e w' ⟨rfl, rfl⟩
        go_wp2_with fail
        go_ret
        exact ⟨ret_b HM.out.symm, hb⟩
      · have HM : Hid (decide t.may = true) := Lib.hid (decide_eq_true ⟨hA, hC, by omega⟩)
        rw [hW] at HW
        clear hA hC hW
        go_enter Try.func52, Try.ntmps52
        go_wp2_with fail
        refine (HA.out _).mono ?_
        rintro e w' ⟨rfl, rfl⟩
        go_wp2_with fail
        refine (HC.out _).mono ?_
        rintro e w' ⟨rfl, rfl⟩
        go_wp2_with fail
        refine (HW.out _).mono ?_
        rintro e w' ⟨rfl, rfl⟩
        go_wp2_with fail
        go_ret
        exact ⟨ret_b HM.out.symm, hb⟩
      · have HM : Hid (decide t.may = true) := Lib.hid (decide_eq_true ⟨hA, hC, by omega⟩)
        rw [hW] at HW
        clear hA hC hW
        go_enter Try.func52, Try.ntmps52
        go_wp2_with fail
        refine (HA.out _).mono ?_
        rintro e w' ⟨rfl, rfl⟩
        go_wp2_with fail
        refine (HC.out _).mono ?_
        rintro e w' ⟨rfl, rfl⟩
        go_wp2_with fail
        refine (HW.out _).mono ?_
        rintro e w' ⟨rfl, rfl⟩
        go_wp2_with fail
        go_ret
        exact ⟨ret_b HM.out.symm, hb⟩

theorem zput_no (t : Fou) (w : World) (h : ¬ t.may) : Calls Try.prog 33 #[t.v] w (GivesH 0 [] w) := by
  have HM := Lib.hid fun W => zmay_any t W
  rw [decide_eq_false h] at HM
  clear h
  go_enter Try.func33, Try.ntmps33
  go_wp2_with fail
  refine (HM.out _).mono ?_
  rintro e w1 ⟨rfl, hb⟩
  have hb1 : Below w.heap.size w w1 := ((Below.refl _ w).alloc (Nat.le_refl _) _).trans (hb.mono (by simp))
  clear hb
  go_wp2_with fail
  go_ret
  exact ⟨none, 0, rfl, rfl, Nat.le_refl _, Nat.zero_le _, Has.none_ _ _, hb1⟩

/-- A literal of four slices. -/
theorem hasBs_four (w : World) (T : TypeId) (b1 o1 n1 c1 b2 o2 n2 c2 b3 o3 n3 c3 b4 o4 n4 c4 : Nat) (l1 l2 l3 l4 : List UInt8)
    (h1 : Hid (Part w b1 o1 n1 c1 l1)) (h2 : Hid (Part w b2 o2 n2 c2 l2)) (h3 : Hid (Part w b3 o3 n3 c3 l3)) (h4 : Hid (Part w b4 o4 n4 c4 l4)) :
    HasBs (w.alloc (.cells #[.slice (some ⟨b1, o1, none⟩) n1 c1, .slice (some ⟨b2, o2, none⟩) n2 c2, .slice (some ⟨b3, o3, none⟩) n3 c3, .slice (some ⟨b4, o4, none⟩) n4 c4] T))
      (some ⟨w.heap.size, 0, none⟩) [l1, l2, l3, l4] := fun i l hl => by
  have hb : Below w.heap.size w (w.alloc (.cells #[.slice (some ⟨b1, o1, none⟩) n1 c1, .slice (some ⟨b2, o2, none⟩) n2 c2, .slice (some ⟨b3, o3, none⟩) n3 c3, .slice (some ⟨b4, o4, none⟩) n4 c4] T)) := (Below.refl _ w).alloc (Nat.le_refl _) _
  have hcell : ∀ v, (#[Value.slice (some ⟨b1, o1, none⟩) n1 c1, .slice (some ⟨b2, o2, none⟩) n2 c2, .slice (some ⟨b3, o3, none⟩) n3 c3, .slice (some ⟨b4, o4, none⟩) n4 c4] : Array Value)[0 + i]? = some v →
      (w.alloc (.cells #[.slice (some ⟨b1, o1, none⟩) n1 c1, .slice (some ⟨b2, o2, none⟩) n2 c2, .slice (some ⟨b3, o3, none⟩) n3 c3, .slice (some ⟨b4, o4, none⟩) n4 c4] T)).cell? ⟨w.heap.size, 0 + i, none⟩ = some v := fun v hv =>
    (cell_of_row _ w.heap.size (0 + i) _ T (0, 0) (heap_alloc_new w _)).trans hv
  match i, hl with
  | 0, hl => cases hl; exact ⟨_, _, _, _, _, rfl, hcell _ rfl, h1.out.1, h1.out.2.1, h1.out.2.2.1, h1.out.2.2.2.below hb, fun e => by cases e⟩
  | 1, hl => cases hl; exact ⟨_, _, _, _, _, rfl, hcell _ rfl, h2.out.1, h2.out.2.1, h2.out.2.2.1, h2.out.2.2.2.below hb, fun e => by cases e⟩
  | 2, hl => cases hl; exact ⟨_, _, _, _, _, rfl, hcell _ rfl, h3.out.1, h3.out.2.1, h3.out.2.2.1, h3.out.2.2.2.below hb, fun e => by cases e⟩
  | 3, hl => cases hl; exact ⟨_, _, _, _, _, rfl, hcell _ rfl, h4.out.1, h4.out.2.1, h4.out.2.2.1, h4.out.2.2.2.below hb, fun e => by cases e⟩

/-- The four cells of a relocation that lies at the head of a block. -/
def RelCells (w : World) (g : Nat) (a b c : Nat) (d : Int) : Prop := w.cell? ⟨g, 0, none⟩ = some (.int .i64 (a : Int)) ∧ w.cell? ⟨g, 1, none⟩ = some (.int .i64 (b : Int)) ∧ w.cell? ⟨g, 2, none⟩ = some (.int .i64 (c : Int)) ∧
  w.cell? ⟨g, 3, none⟩ = some (.int .i64 d)
theorem RelCells.later {w w' : World} {g a b c : Nat} {d : Int} (h : Hid (RelCells w g a b c d)) (hb : Below w.heap.size w w') : Hid (RelCells w' g a b c d) :=
  Lib.hid ⟨cell_later hb h.out.1, cell_later hb h.out.2.1, cell_later hb h.out.2.2.1, cell_later hb h.out.2.2.2⟩

set_option maxHeartbeats 4000000 in
theorem zput_yes (a b c : Nat) (d : Int) (w : World) (h : (Fou.mk a b c d).may) : Calls Try.prog 33 #[Fou.v ⟨a, b, c, d⟩] w (Gives (relB ⟨a, b, c, d⟩) w) := by
  have HM := Lib.hid fun W => zmay_any ⟨a, b, c, d⟩ W
  rw [decide_eq_true h] at HM
  obtain ⟨f0, f2, f1⟩ := h
  simp only [fitsB_iff] at f0 f2
  have g1 := widthI_pos f1
  simp only at g1
  have kw : ∀ v : Nat, v < 18446744073709551616 → IntKind.u64.wrap (v : Int) = (v : Int) := fun v hv => by rw [conv_u64, u64n_nat v hv]
  have ka := kw a (by omega)
  have kb := kw b (by omega)
  have kc := kw c (by omega)
  have kd := conv_u64 d
  have hdn := u64n_lt d
  have hrel : relB ⟨a, b, c, d⟩ = [leB 8 a, leB 4 b, leB 4 c, leB 8 (u64n d)].flatten := by
    have e1 : relB ⟨a, b, c, d⟩ = leB 8 (u64n a) ++ (leB 4 (u64n b) ++ (leB 4 (u64n c) ++ (leB 8 (u64n d) ++ []))) := rfl
    rw [e1, u64n_nat a (by omega), u64n_nat b (by omega), u64n_nat c (by omega)]
    rfl
  have HE := Lib.hid hrel
  generalize u64n d = y at *
  have P1 := Lib.hid fun W => put8 a W (by omega)
  have P2 := Lib.hid fun W => put4 b W (by omega)
  have P3 := Lib.hid fun W => put4 c W (by omega)
  have P4 := Lib.hid fun W => put8 y W hdn
  have hlen : [leB 8 a, leB 4 b, leB 4 c, leB 8 y].flatten.length = 24 := by simp [leB_length]
  have HL := Lib.hid hlen
  clear kw hrel hlen f0 f2 f1 g1 hdn
  go_enter Try.func33, Try.ntmps33
  go_wp2_with fail
  refine (HM.out _).mono ?_
  rintro e' w1 ⟨rfl, hb⟩
  have hb1 : Below w.heap.size w w1 := ((Below.refl _ w).alloc (Nat.le_refl _) _).trans (hb.mono (by simp))
  have S0 : Hid (RelCells w1.drew w.heap.size a b c d) := Lib.hid ⟨by rw [show w1.drew.cell? = w1.cell? from rfl, hb.cell (by simp)]; simp, by rw [show w1.drew.cell? = w1.cell? from rfl, hb.cell (by simp)]; simp, by rw [show w1.drew.cell? = w1.cell? from rfl, hb.cell (by simp)]; simp, by rw [show w1.drew.cell? = w1.cell? from rfl, hb.cell (by simp)]; simp⟩
  clear hb
  go_wp2_with fail
  go_region_held3 (fun w' => w'.cell? ⟨w.heap.size, 0, none⟩ = some (.int .i64 (a : Int)) ∧ w'.cell? ⟨w.heap.size, 1, none⟩ = some (.int .i64 (b : Int)) ∧ w'.cell? ⟨w.heap.size, 2, none⟩ = some (.int .i64 (c : Int)) ∧
      w'.cell? ⟨w.heap.size, 3, none⟩ = some (.int .i64 d))
    (first | exact S5.out | exact (RelCells.later S4 ((Below.refl _ w5).alloc (Nat.le_refl _) _)).out | exact S4.out | exact S3.out | exact S2.out | exact S1.out | exact S0.out | fail)
    ((first
      | (go_at_call 50
         have HB := hasBs_four w5 22 _ _ _ _ _ _ _ _ _ _ _ _ _ _ _ _ _ _ _ _ q14 q24 q34 q44
         refine (concat_any _ 4 4 _ _ HB rfl (by decide) (by rw [HL.out]; decide)).mono ?_
         rintro e' w6 ⟨v6, rfl, hown6, B6⟩
         have S5 := RelCells.later (RelCells.later S4 ((Below.refl _ w5).alloc (Nat.le_refl _) _)) B6
         have BB6 : Below w.heap.size w w6 := (BB4.alloc BB4.size _).trans (B6.mono (by exact (BB4.alloc BB4.size _).size))
         have hown7 := owns_lower hown6 (c := w.heap.size) (by exact (BB4.alloc BB4.size _).size))
      | (go_at_call 40
         have _guard := S3
         refine (P4.out _).mono ?_
         rintro e' w5 ⟨b4, o4, c4, rfl, q44, B4⟩
         have q14 := part_below q13 B4
         have q24 := part_below q23 B4
         have q34 := part_below q33 B4
         have S4 := RelCells.later S3 B4
         have BB4 : Below w.heap.size w w5 := BB3.trans (B4.mono (by exact BB3.size))
         clear B4 q13 q23 q33)
      | (go_at_call 40
         have _guard := S2
         refine (P3.out _).mono ?_
         rintro e' w4 ⟨b3, o3, c3, rfl, q33, B3⟩
         have q13 := part_below q12 B3
         have q23 := part_below q22 B3
         have S3 := RelCells.later S2 B3
         have BB3 : Below w.heap.size w w4 := BB2.trans (B3.mono (by exact BB2.size))
         clear B3 q12 q22)
      | (go_at_call 40
         have _guard := S1
         refine (P2.out _).mono ?_
         rintro e' w3 ⟨b2, o2, c2, rfl, q22, B2⟩
         have q12 := part_below q11 B2
         have S2 := RelCells.later S1 B2
         have BB2 : Below w.heap.size w w3 := BB1.trans (B2.mono (by exact BB1.size))
         clear B2 q11)
      | (go_at_call 40
         refine (P1.out _).mono ?_
         rintro e' w2 ⟨b1, o1, c1, rfl, q11, B1⟩
         have S1 := RelCells.later S0 B1
         have BB1 : Below w.heap.size w w2 := hb1.drew.trans (B1.mono (by exact hb1.size))
         clear B1)
      | fail))
  go_wp2_with fail
  go_ret
  exact ⟨_, rfl, by rw [HE.out]; exact hown7, BB6⟩

theorem zput_ok : ZPutOK := fun t w hd => by
  refine ⟨fun hm => ?_, fun hm => zput_no t w hm⟩
  obtain ⟨a, b, c, d⟩ := t
  have h' := hm
  obtain ⟨f0, f2, f1⟩ := h'
  simp only [fitsB_iff] at f0 f2
  have g1 := widthI_pos f1
  simp only at g1
  obtain ⟨a, rfl⟩ := Int.eq_ofNat_of_zero_le f0.1
  obtain ⟨b, rfl⟩ := Int.eq_ofNat_of_zero_le (show 0 ≤ b by omega)
  obtain ⟨c, rfl⟩ := Int.eq_ofNat_of_zero_le f2.1
  exact zput_yes a b c d w hm
theorem zwid_ok : ZWidthOK := zwid_any

end Go.Proofs.Ythpldobnfnehlaa
