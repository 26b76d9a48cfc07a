/-
  Contract of the document's answer for layer insn: Decode.
-/
import Derived.Test.YtbedbkifdhjdfaaDoorIRField
namespace Go.Proofs.YtbedbkifdhjdfaaDoor
open Go.RowKit

/-- What long tells, of bytes that begin with 72. -/
def RLongOK : Prop := ∀ (p : Option Addr) (len cap : Nat) (l : List UInt8) (w : World), Has w p l → l.length = len → len ≤ cap → cap ≤ maxLen → kk l 0 = 72 →
    Calls Tryd.prog 12 #[.slice p len cap] w fun e w' => e = .returned (.tuple #[(optI (dec l)).1.v, .bool (optI (dec l)).2]) ∧ Below w.heap.size w w'

set_option maxRecDepth 100000 in
set_option maxHeartbeats 8000000 in
theorem rdecode_any (hlong : RLongOK) (p : Option Addr) (len cap : Nat) (l : List UInt8) (w : World) (hh : Has w p l) (hlen : l.length = len) (hcap : len ≤ cap) (hm1 : cap ≤ maxLen) :
    Calls Tryd.prog 7 #[.slice p len cap] w fun e w' => e = .returned (.tuple #[(optI (dec l)).1.v, .bool (optI (dec l)).2]) ∧ Below w.heap.size w w' := by
  have HX : Hid (dec l = (cls (kk l 0) (kk l 1) (kk l 2) (kk l 3)).bind fun h => fld h l) := Lib.hid rfl
  have hb1 : Below w.heap.size w (w.alloc (.cells #[.int .i64 0, .int .i64 0, .int .i64 0, .int .i64 0, .int .i64 0, .int .i64 0, .int .i64 0] 28)) := (Below.refl _ w).alloc (Nat.le_refl _) _
  have hr1 : (w.alloc (.cells #[.int .i64 0, .int .i64 0, .int .i64 0, .int .i64 0, .int .i64 0, .int .i64 0, .int .i64 0] 28)).heap[w.heap.size]? = some (.cells #[.int .i64 0, .int .i64 0, .int .i64 0, .int .i64 0, .int .i64 0, .int .i64 0, .int .i64 0] 28 (0, 0)) := heap_alloc_new w _
  have HLEN := Lib.hid hlen
  have HB1 := Lib.hid hb1
  have R1 := Lib.hid hr1
  by_cases hl0 : len = 0
  · subst hl0
    have HX2 : Hid (dec l = none) := Lib.hid (by
      have : l = [] := List.eq_nil_of_length_eq_zero hlen
      subst this
      rfl)
    clear hh hlen hb1 hr1 hlong
    go_enter Tryd.func7, Tryd.ntmps7
    go_upto_region 1 with fail
    generalize (w.alloc (.cells #[.int .i64 0, .int .i64 0, .int .i64 0, .int .i64 0, .int .i64 0, .int .i64 0, .int .i64 0] 28)) = w1 at *
    obtain ⟨⟨z0, z1, z2, z3, z4, z5, z6⟩, f0, f1, f2, f3, f4, f5, f6⟩ := seven_cells R1.out
    go_wp2_with fail
    obtain ⟨y1, y2⟩ := seven_set (.int .i64 0) (.int .i64 0) (.int .i64 0) (.int .i64 0) (.int .i64 0) (.int .i64 0) (.int .i64 0) (Nat.le_refl w.heap.size) HB1.out R1.out
    rw [HX2.out]
    exact bodyPost_ret (results_rins rfl _ _ _ _ _ _ _ _ _ _ _ (by rfl) (by rfl) y1) rfl ⟨rfl, y2⟩
  have hl1 : 0 < l.length := by omega
  have HF := Lib.hid fun W (hb : Below w.heap.size w W) (op r m wd : Int) (h : Hd) e1 e2 e3 e4 ha hw at0 e5 => rfield_any op r m wd h p len cap l W (hh.below hb) hlen hcap e1 e2 e3 e4 ha hw at0 e5
  have HL := Lib.hid fun (h0 : kk l 0 = 72) W (hb : Below w.heap.size w W) => hlong p len cap l W (hh.below hb) hlen hcap hm1 h0
  obtain ⟨b, off, rfl, hcell⟩ := hh.plain hl1
  have hce : ∀ i x, l[i]? = some x → (w.alloc (.cells #[.int .i64 0, .int .i64 0, .int .i64 0, .int .i64 0, .int .i64 0, .int .i64 0, .int .i64 0] 28)).cell? ⟨b, off + i, none⟩ = some (.int .u8 (x.toNat : Int)) := fun i x hx => cell_later hb1 (hcell i x hx)
  obtain ⟨c0, hc0⟩ : ∃ c, l[0]? = some c := ⟨_, List.getElem?_eq_getElem (by omega)⟩
  have x0 := hce 0 c0 hc0
  rw [Nat.add_zero] at x0
  obtain ⟨B0, hB0⟩ : ∃ B : Int, B = (c0.toNat : Int) := ⟨_, rfl⟩
  rw [← hB0] at x0
  have HK0 : Hid ((kk l 0 : Int) = B0) := Lib.hid (by rw [kk_some hc0, hB0])
  have i0 : ¬ (len : Int) = 0 := by omega
  have i1 : 0 < len := by omega
  have i2 : (0 : Int) < (len : Int) := by omega
  have HCE := Lib.hid hce
  clear hB0 hc0 hce hcell hb1 hr1 hh hlen hlong
  go_enter Tryd.func7, Tryd.ntmps7
  go_upto_region 1 with fail
  generalize (w.alloc (.cells #[.int .i64 0, .int .i64 0, .int .i64 0, .int .i64 0, .int .i64 0, .int .i64 0, .int .i64 0] 28)) = w1 at *
  obtain ⟨⟨z0, z1, z2, z3, z4, z5, z6⟩, f0, f1, f2, f3, f4, f5, f6⟩ := seven_cells R1.out
  by_cases h1 : 1 < len
  · have h2 : (1 : Int) < (len : Int) := by omega
    obtain ⟨c1, hc1⟩ : ∃ c, l[1]? = some c := ⟨_, List.getElem?_eq_getElem (by have := HLEN.out; omega)⟩
    have x1 := HCE.out 1 c1 hc1
    obtain ⟨S2, hS⟩ : ∃ S2 : Int, S2 = (c1.toNat : Int) := ⟨_, rfl⟩
    rw [← hS] at x1
    have HK1 : Hid ((1 < len ∧ (kk l 1 : Int) = S2 ∧ 0 ≤ S2 ∧ S2 < 256) ∨ (len = 1 ∧ S2 = -1 ∧ kk l 1 = 256)) := Lib.hid (.inl ⟨h1, by rw [kk_some hc1, hS], by omega, by have := c1.toNat_lt; omega⟩)
    have hs1 := c1.toNat_lt
    have hw : IntKind.i64.wrap S2 = S2 := IntWalk.i64_in _ (by omega)
    have hs0 : 0 ≤ S2 := by omega
    have hs2 : S2 < 256 := by omega
    clear hS hc1 hs1
    by_cases b72 : B0 = 72
    · subst b72
      have HLL := Lib.hid (HL.out (by have e0 := HK0.out; omega))
      go_wp2_with fail
      refine (HLL.out w1 HB1.out).mono ?_
      rintro e w9 ⟨rfl, hb9⟩
      have R9 := row_later hb9 R1.out
      have HB9 := Lib.hid (HB1.out.trans (hb9.mono HB1.out.size))
      have HR9 := Lib.hid R9
      clear z0 z1 z2 z3 z4 z5 z6 f0 f1 f2 f3 f4 f5 f6
      obtain ⟨⟨z0, z1, z2, z3, z4, z5, z6⟩, f0, f1, f2, f3, f4, f5, f6⟩ := seven_cells R9
      clear R9 hb9
      go_wp2_with fail
      obtain ⟨y1, y2⟩ := seven_set (.int .i64 (optI (dec l)).1.op) (.int .i64 (optI (dec l)).1.r) (.int .i64 (optI (dec l)).1.m) (.int .i64 (optI (dec l)).1.len) (.int .i64 (optI (dec l)).1.field) (.int .i64 (optI (dec l)).1.width) (.int .i64 (optI (dec l)).1.imm) (Nat.le_refl w.heap.size) HB9.out HR9.out
      exact bodyPost_ret (results_rins rfl _ _ _ _ _ _ _ _ _ _ _ (by rfl) (by rfl) y1) rfl ⟨rfl, y2⟩
    have q72 : (B0 == 72) = false := by simpa using b72
    by_cases b233 : B0 = 233
    · subst b233
      have HX2 : Hid (dec l = fld ⟨13, 0, 0, 1, 4⟩ l) := Lib.hid (by
        rw [HX.out, show cls (kk l 0) (kk l 1) (kk l 2) (kk l 3) = some ⟨13, 0, 0, 1, 4⟩ from by
            have e0 := HK0.out
            have e1 := HK1.out
            show cls (kk l 0) (kk l 1) (kk l 2) (kk l 3) = some ⟨13, 0, 0, 1, 4⟩
            unfold cls
            (repeat (first | refine (if_pos (by omega)).trans ?_ | refine (if_neg (by omega)).trans ?_))
            first | rfl | (simp only [Option.some.injEq, Hd.mk.injEq, true_and, and_true]; omega)]
        rfl)
      have HFF := Lib.hid fun W (hb : Below w.heap.size w W) => HF.out W hb 13 0 0 4 ⟨13, 0, 0, 1, 4⟩ rfl rfl rfl rfl (by simp only; omega) (by simp) 1 rfl
      rw [← HX2.out] at HFF
      go_wp2_with fail
      refine (HFF.out _ HB1.out).mono ?_
      rintro e w9 ⟨rfl, hb9⟩
      have R9 := row_later hb9 R1.out
      have HB9 := Lib.hid (HB1.out.trans (hb9.mono HB1.out.size))
      have HR9 := Lib.hid R9
      clear z0 z1 z2 z3 z4 z5 z6 f0 f1 f2 f3 f4 f5 f6
      obtain ⟨⟨z0, z1, z2, z3, z4, z5, z6⟩, f0, f1, f2, f3, f4, f5, f6⟩ := seven_cells R9
      clear R9 hb9
      go_wp2_with fail
      obtain ⟨y1, y2⟩ := seven_set (.int .i64 (optI (dec l)).1.op) (.int .i64 (optI (dec l)).1.r) (.int .i64 (optI (dec l)).1.m) (.int .i64 (optI (dec l)).1.len) (.int .i64 (optI (dec l)).1.field) (.int .i64 (optI (dec l)).1.width) (.int .i64 (optI (dec l)).1.imm) (Nat.le_refl w.heap.size) HB9.out HR9.out
      exact bodyPost_ret (results_rins rfl _ _ _ _ _ _ _ _ _ _ _ (by rfl) (by rfl) y1) rfl ⟨rfl, y2⟩
    have q233 : (B0 == 233) = false := by simpa using b233
    by_cases b232 : B0 = 232
    · subst b232
      have HX2 : Hid (dec l = fld ⟨17, 0, 0, 1, 4⟩ l) := Lib.hid (by
        rw [HX.out, show cls (kk l 0) (kk l 1) (kk l 2) (kk l 3) = some ⟨17, 0, 0, 1, 4⟩ from by
            have e0 := HK0.out
            have e1 := HK1.out
            show cls (kk l 0) (kk l 1) (kk l 2) (kk l 3) = some ⟨17, 0, 0, 1, 4⟩
            unfold cls
            (repeat (first | refine (if_pos (by omega)).trans ?_ | refine (if_neg (by omega)).trans ?_))
            first | rfl | (simp only [Option.some.injEq, Hd.mk.injEq, true_and, and_true]; omega)]
        rfl)
      have HFF := Lib.hid fun W (hb : Below w.heap.size w W) => HF.out W hb 17 0 0 4 ⟨17, 0, 0, 1, 4⟩ rfl rfl rfl rfl (by simp only; omega) (by simp) 1 rfl
      rw [← HX2.out] at HFF
      go_wp2_with fail
      refine (HFF.out _ HB1.out).mono ?_
      rintro e w9 ⟨rfl, hb9⟩
      have R9 := row_later hb9 R1.out
      have HB9 := Lib.hid (HB1.out.trans (hb9.mono HB1.out.size))
      have HR9 := Lib.hid R9
      clear z0 z1 z2 z3 z4 z5 z6 f0 f1 f2 f3 f4 f5 f6
      obtain ⟨⟨z0, z1, z2, z3, z4, z5, z6⟩, f0, f1, f2, f3, f4, f5, f6⟩ := seven_cells R9
      clear R9 hb9
      go_wp2_with fail
      obtain ⟨y1, y2⟩ := seven_set (.int .i64 (optI (dec l)).1.op) (.int .i64 (optI (dec l)).1.r) (.int .i64 (optI (dec l)).1.m) (.int .i64 (optI (dec l)).1.len) (.int .i64 (optI (dec l)).1.field) (.int .i64 (optI (dec l)).1.width) (.int .i64 (optI (dec l)).1.imm) (Nat.le_refl w.heap.size) HB9.out HR9.out
      exact bodyPost_ret (results_rins rfl _ _ _ _ _ _ _ _ _ _ _ (by rfl) (by rfl) y1) rfl ⟨rfl, y2⟩
    have q232 : (B0 == 232) = false := by simpa using b232
    by_cases b195 : B0 = 195
    · subst b195
      have HX2 : Hid (dec l = some ⟨19, 0, 0, 1, 0, 0, 0⟩) := Lib.hid (by
        rw [HX.out, show cls (kk l 0) (kk l 1) (kk l 2) (kk l 3) = some ⟨19, 0, 0, 1, 0⟩ from by
            have e0 := HK0.out
            have e1 := HK1.out
            show cls (kk l 0) (kk l 1) (kk l 2) (kk l 3) = some ⟨19, 0, 0, 1, 0⟩
            unfold cls
            (repeat (first | refine (if_pos (by omega)).trans ?_ | refine (if_neg (by omega)).trans ?_))
            first | rfl | (simp only [Option.some.injEq, Hd.mk.injEq, true_and, and_true]; omega)]
        show fld ⟨19, 0, 0, 1, 0⟩ l = _
        have e0 := HK0.out
        have e1 := HK1.out
        have e2 := HLEN.out
        unfold fld
        rw [if_pos (by show 1 + 0 ≤ l.length; omega), if_pos rfl]
        simp
        try omega)
      go_wp2_with fail
      obtain ⟨y1, y2⟩ := seven_set (.int .i64 19) (.int .i64 0) (.int .i64 0) (.int .i64 1) (.int .i64 0) (.int .i64 0) (.int .i64 0) (Nat.le_refl w.heap.size) HB1.out R1.out
      rw [HX2.out]
      exact bodyPost_ret (results_rins rfl _ _ _ _ _ _ _ _ _ _ _ (by rfl) (by rfl) y1) rfl ⟨rfl, y2⟩
    have q195 : (B0 == 195) = false := by simpa using b195
    by_cases b255 : B0 = 255
    · subst b255
      by_cases s1 : 208 ≤ S2
      · by_cases s2 : S2 ≤ 215
        · have v5 : IntKind.i64.wrap (S2 - 208) = S2 - 208 := IntWalk.i64_in _ (by omega)
          have HX2 : Hid (dec l = some ⟨18, 0, (S2 - 208), 2, 0, 0, 0⟩) := Lib.hid (by
            rw [HX.out, show cls (kk l 0) (kk l 1) (kk l 2) (kk l 3) = some ⟨18, 0, kk l 1 - 208, 2, 0⟩ from by
                have e0 := HK0.out
                have e1 := HK1.out
                show cls (kk l 0) (kk l 1) (kk l 2) (kk l 3) = some ⟨18, 0, kk l 1 - 208, 2, 0⟩
                unfold cls
                (repeat (first | refine (if_pos (by omega)).trans ?_ | refine (if_neg (by omega)).trans ?_))
                first | rfl | (simp only [Option.some.injEq, Hd.mk.injEq, true_and, and_true]; omega)]
            show fld ⟨18, 0, kk l 1 - 208, 2, 0⟩ l = _
            have e0 := HK0.out
            have e1 := HK1.out
            have e2 := HLEN.out
            unfold fld
            rw [if_pos (by show 2 + 0 ≤ l.length; omega), if_pos rfl]
            simp
            try omega)
          go_wp2_with fail
          obtain ⟨y1, y2⟩ := seven_set (.int .i64 18) (.int .i64 0) (.int .i64 (S2 - 208)) (.int .i64 2) (.int .i64 0) (.int .i64 0) (.int .i64 0) (Nat.le_refl w.heap.size) HB1.out R1.out
          rw [HX2.out]
          exact bodyPost_ret (results_rins rfl _ _ _ _ _ _ _ _ _ _ _ (by rfl) (by rfl) y1) rfl ⟨rfl, y2⟩
        · skip
          have HX2 : Hid (dec l = none) := Lib.hid (by
            rw [HX.out, show cls (kk l 0) (kk l 1) (kk l 2) (kk l 3) = none from by
                have e0 := HK0.out
                have e1 := HK1.out
                show cls (kk l 0) (kk l 1) (kk l 2) (kk l 3) = none
                unfold cls
                (repeat (first | refine (if_pos (by omega)).trans ?_ | refine (if_neg (by omega)).trans ?_))
                first | rfl | (simp only [Option.some.injEq, Hd.mk.injEq, true_and, and_true]; omega)]
            rfl)
          go_wp2_with fail
          all_goals
            obtain ⟨y1, y2⟩ := seven_set (.int .i64 0) (.int .i64 0) (.int .i64 0) (.int .i64 0) (.int .i64 0) (.int .i64 0) (.int .i64 0) (Nat.le_refl w.heap.size) HB1.out R1.out
            rw [HX2.out]
            exact bodyPost_ret (results_rins rfl _ _ _ _ _ _ _ _ _ _ _ (by rfl) (by rfl) y1) rfl ⟨rfl, y2⟩
      · skip
        have HX2 : Hid (dec l = none) := Lib.hid (by
          rw [HX.out, show cls (kk l 0) (kk l 1) (kk l 2) (kk l 3) = none from by
              have e0 := HK0.out
              have e1 := HK1.out
              show cls (kk l 0) (kk l 1) (kk l 2) (kk l 3) = none
              unfold cls
              (repeat (first | refine (if_pos (by omega)).trans ?_ | refine (if_neg (by omega)).trans ?_))
              first | rfl | (simp only [Option.some.injEq, Hd.mk.injEq, true_and, and_true]; omega)]
          rfl)
        go_wp2_with fail
        all_goals
          obtain ⟨y1, y2⟩ := seven_set (.int .i64 0) (.int .i64 0) (.int .i64 0) (.int .i64 0) (.int .i64 0) (.int .i64 0) (.int .i64 0) (Nat.le_refl w.heap.size) HB1.out R1.out
          rw [HX2.out]
          exact bodyPost_ret (results_rins rfl _ _ _ _ _ _ _ _ _ _ _ (by rfl) (by rfl) y1) rfl ⟨rfl, y2⟩
    have q255 : (B0 == 255) = false := by simpa using b255
    by_cases b15 : B0 = 15
    · subst b15
      by_cases s5 : S2 = 5
      · have t5 : (S2 == 5) = true := by simpa using s5
        have HS5 := Lib.hid s5
        clear s5
        have HX2 : Hid (dec l = some ⟨20, 0, 0, 2, 0, 0, 0⟩) := Lib.hid (by
          rw [HX.out, show cls (kk l 0) (kk l 1) (kk l 2) (kk l 3) = some ⟨20, 0, 0, 2, 0⟩ from by
              have e0 := HK0.out
              have e1 := HK1.out; have e9 := HS5.out
              show cls (kk l 0) (kk l 1) (kk l 2) (kk l 3) = some ⟨20, 0, 0, 2, 0⟩
              unfold cls
              (repeat (first | refine (if_pos (by omega)).trans ?_ | refine (if_neg (by omega)).trans ?_))
              first | rfl | (simp only [Option.some.injEq, Hd.mk.injEq, true_and, and_true]; omega)]
          show fld ⟨20, 0, 0, 2, 0⟩ l = _
          have e0 := HK0.out
          have e1 := HK1.out; have e9 := HS5.out
          have e2 := HLEN.out
          unfold fld
          rw [if_pos (by show 2 + 0 ≤ l.length; omega), if_pos rfl]
          simp
          try omega)
        go_wp2_with fail
        obtain ⟨y1, y2⟩ := seven_set (.int .i64 20) (.int .i64 0) (.int .i64 0) (.int .i64 2) (.int .i64 0) (.int .i64 0) (.int .i64 0) (Nat.le_refl w.heap.size) HB1.out R1.out
        rw [HX2.out]
        exact bodyPost_ret (results_rins rfl _ _ _ _ _ _ _ _ _ _ _ (by rfl) (by rfl) y1) rfl ⟨rfl, y2⟩
      have t5 : (S2 == 5) = false := by simpa using s5
      by_cases s132 : S2 = 132
      · have t6 : (S2 == 132) = true := by simpa using s132
        have HS5 := Lib.hid s132
        clear s132
        have HX2 : Hid (dec l = fld ⟨14, 0, 0, 2, 4⟩ l) := Lib.hid (by
          rw [HX.out, show cls (kk l 0) (kk l 1) (kk l 2) (kk l 3) = some ⟨14, 0, 0, 2, 4⟩ from by
              have e0 := HK0.out
              have e1 := HK1.out; have e9 := HS5.out
              show cls (kk l 0) (kk l 1) (kk l 2) (kk l 3) = some ⟨14, 0, 0, 2, 4⟩
              unfold cls
              (repeat (first | refine (if_pos (by omega)).trans ?_ | refine (if_neg (by omega)).trans ?_))
              first | rfl | (simp only [Option.some.injEq, Hd.mk.injEq, true_and, and_true]; omega)]
          rfl)
        have HFF := Lib.hid fun W (hb : Below w.heap.size w W) => HF.out W hb 14 0 0 4 ⟨14, 0, 0, 2, 4⟩ rfl rfl rfl rfl (by simp only; omega) (by simp) 2 rfl
        rw [← HX2.out] at HFF
        go_wp2_with fail
        refine (HFF.out _ HB1.out).mono ?_
        rintro e w9 ⟨rfl, hb9⟩
        have R9 := row_later hb9 R1.out
        have HB9 := Lib.hid (HB1.out.trans (hb9.mono HB1.out.size))
        have HR9 := Lib.hid R9
        clear z0 z1 z2 z3 z4 z5 z6 f0 f1 f2 f3 f4 f5 f6
        obtain ⟨⟨z0, z1, z2, z3, z4, z5, z6⟩, f0, f1, f2, f3, f4, f5, f6⟩ := seven_cells R9
        clear R9 hb9
        go_wp2_with fail
        obtain ⟨y1, y2⟩ := seven_set (.int .i64 (optI (dec l)).1.op) (.int .i64 (optI (dec l)).1.r) (.int .i64 (optI (dec l)).1.m) (.int .i64 (optI (dec l)).1.len) (.int .i64 (optI (dec l)).1.field) (.int .i64 (optI (dec l)).1.width) (.int .i64 (optI (dec l)).1.imm) (Nat.le_refl w.heap.size) HB9.out HR9.out
        exact bodyPost_ret (results_rins rfl _ _ _ _ _ _ _ _ _ _ _ (by rfl) (by rfl) y1) rfl ⟨rfl, y2⟩
      have t6 : (S2 == 132) = false := by simpa using s132
      by_cases s133 : S2 = 133
      · have t7 : (S2 == 133) = true := by simpa using s133
        have HS5 := Lib.hid s133
        clear s133
        have HX2 : Hid (dec l = fld ⟨15, 0, 0, 2, 4⟩ l) := Lib.hid (by
          rw [HX.out, show cls (kk l 0) (kk l 1) (kk l 2) (kk l 3) = some ⟨15, 0, 0, 2, 4⟩ from by
              have e0 := HK0.out
              have e1 := HK1.out; have e9 := HS5.out
              show cls (kk l 0) (kk l 1) (kk l 2) (kk l 3) = some ⟨15, 0, 0, 2, 4⟩
              unfold cls
              (repeat (first | refine (if_pos (by omega)).trans ?_ | refine (if_neg (by omega)).trans ?_))
              first | rfl | (simp only [Option.some.injEq, Hd.mk.injEq, true_and, and_true]; omega)]
          rfl)
        have HFF := Lib.hid fun W (hb : Below w.heap.size w W) => HF.out W hb 15 0 0 4 ⟨15, 0, 0, 2, 4⟩ rfl rfl rfl rfl (by simp only; omega) (by simp) 2 rfl
        rw [← HX2.out] at HFF
        go_wp2_with fail
        refine (HFF.out _ HB1.out).mono ?_
        rintro e w9 ⟨rfl, hb9⟩
        have R9 := row_later hb9 R1.out
        have HB9 := Lib.hid (HB1.out.trans (hb9.mono HB1.out.size))
        have HR9 := Lib.hid R9
        clear z0 z1 z2 z3 z4 z5 z6 f0 f1 f2 f3 f4 f5 f6
        obtain ⟨⟨z0, z1, z2, z3, z4, z5, z6⟩, f0, f1, f2, f3, f4, f5, f6⟩ := seven_cells R9
        clear R9 hb9
        go_wp2_with fail
        obtain ⟨y1, y2⟩ := seven_set (.int .i64 (optI (dec l)).1.op) (.int .i64 (optI (dec l)).1.r) (.int .i64 (optI (dec l)).1.m) (.int .i64 (optI (dec l)).1.len) (.int .i64 (optI (dec l)).1.field) (.int .i64 (optI (dec l)).1.width) (.int .i64 (optI (dec l)).1.imm) (Nat.le_refl w.heap.size) HB9.out HR9.out
        exact bodyPost_ret (results_rins rfl _ _ _ _ _ _ _ _ _ _ _ (by rfl) (by rfl) y1) rfl ⟨rfl, y2⟩
      have t7 : (S2 == 133) = false := by simpa using s133
      by_cases s130 : S2 = 130
      · have t8 : (S2 == 130) = true := by simpa using s130
        have HS5 := Lib.hid s130
        clear s130
        have HX2 : Hid (dec l = fld ⟨16, 0, 0, 2, 4⟩ l) := Lib.hid (by
          rw [HX.out, show cls (kk l 0) (kk l 1) (kk l 2) (kk l 3) = some ⟨16, 0, 0, 2, 4⟩ from by
              have e0 := HK0.out
              have e1 := HK1.out; have e9 := HS5.out
              show cls (kk l 0) (kk l 1) (kk l 2) (kk l 3) = some ⟨16, 0, 0, 2, 4⟩
              unfold cls
              (repeat (first | refine (if_pos (by omega)).trans ?_ | refine (if_neg (by omega)).trans ?_))
              first | rfl | (simp only [Option.some.injEq, Hd.mk.injEq, true_and, and_true]; omega)]
          rfl)
        have HFF := Lib.hid fun W (hb : Below w.heap.size w W) => HF.out W hb 16 0 0 4 ⟨16, 0, 0, 2, 4⟩ rfl rfl rfl rfl (by simp only; omega) (by simp) 2 rfl
        rw [← HX2.out] at HFF
        go_wp2_with fail
        refine (HFF.out _ HB1.out).mono ?_
        rintro e w9 ⟨rfl, hb9⟩
        have R9 := row_later hb9 R1.out
        have HB9 := Lib.hid (HB1.out.trans (hb9.mono HB1.out.size))
        have HR9 := Lib.hid R9
        clear z0 z1 z2 z3 z4 z5 z6 f0 f1 f2 f3 f4 f5 f6
        obtain ⟨⟨z0, z1, z2, z3, z4, z5, z6⟩, f0, f1, f2, f3, f4, f5, f6⟩ := seven_cells R9
        clear R9 hb9
        go_wp2_with fail
        obtain ⟨y1, y2⟩ := seven_set (.int .i64 (optI (dec l)).1.op) (.int .i64 (optI (dec l)).1.r) (.int .i64 (optI (dec l)).1.m) (.int .i64 (optI (dec l)).1.len) (.int .i64 (optI (dec l)).1.field) (.int .i64 (optI (dec l)).1.width) (.int .i64 (optI (dec l)).1.imm) (Nat.le_refl w.heap.size) HB9.out HR9.out
        exact bodyPost_ret (results_rins rfl _ _ _ _ _ _ _ _ _ _ _ (by rfl) (by rfl) y1) rfl ⟨rfl, y2⟩
      have t8 : (S2 == 130) = false := by simpa using s130
      have HX2 : Hid (dec l = none) := Lib.hid (by
        rw [HX.out, show cls (kk l 0) (kk l 1) (kk l 2) (kk l 3) = none from by
            have e0 := HK0.out
            have e1 := HK1.out
            show cls (kk l 0) (kk l 1) (kk l 2) (kk l 3) = none
            unfold cls
            (repeat (first | refine (if_pos (by omega)).trans ?_ | refine (if_neg (by omega)).trans ?_))
            first | rfl | (simp only [Option.some.injEq, Hd.mk.injEq, true_and, and_true]; omega)]
        rfl)
      go_wp2_with fail
      all_goals
        obtain ⟨y1, y2⟩ := seven_set (.int .i64 0) (.int .i64 0) (.int .i64 0) (.int .i64 0) (.int .i64 0) (.int .i64 0) (.int .i64 0) (Nat.le_refl w.heap.size) HB1.out R1.out
        rw [HX2.out]
        exact bodyPost_ret (results_rins rfl _ _ _ _ _ _ _ _ _ _ _ (by rfl) (by rfl) y1) rfl ⟨rfl, y2⟩
    have q15 : (B0 == 15) = false := by simpa using b15
    have HX2 : Hid (dec l = none) := Lib.hid (by
      rw [HX.out, show cls (kk l 0) (kk l 1) (kk l 2) (kk l 3) = none from by
          have e0 := HK0.out
          have e1 := HK1.out
          show cls (kk l 0) (kk l 1) (kk l 2) (kk l 3) = none
          unfold cls
          (repeat (first | refine (if_pos (by omega)).trans ?_ | refine (if_neg (by omega)).trans ?_))
          first | rfl | (simp only [Option.some.injEq, Hd.mk.injEq, true_and, and_true]; omega)]
      rfl)
    go_wp2_with fail
    all_goals
      obtain ⟨y1, y2⟩ := seven_set (.int .i64 0) (.int .i64 0) (.int .i64 0) (.int .i64 0) (.int .i64 0) (.int .i64 0) (.int .i64 0) (Nat.le_refl w.heap.size) HB1.out R1.out
      rw [HX2.out]
      exact bodyPost_ret (results_rins rfl _ _ _ _ _ _ _ _ _ _ _ (by rfl) (by rfl) y1) rfl ⟨rfl, y2⟩
  have h2 : ¬ (1 : Int) < (len : Int) := by omega
  have h3 : len = 1 := by omega
  have HK1 : Hid (len = 1 ∧ kk l 1 = 256) := Lib.hid ⟨h3, kk_none (by have := HLEN.out; omega)⟩
  clear h3
  by_cases b72 : B0 = 72
  · subst b72
    have HLL := Lib.hid (HL.out (by have e0 := HK0.out; omega))
    go_wp2_with fail
    refine (HLL.out w1 HB1.out).mono ?_
    rintro e w9 ⟨rfl, hb9⟩
    have R9 := row_later hb9 R1.out
    have HB9 := Lib.hid (HB1.out.trans (hb9.mono HB1.out.size))
    have HR9 := Lib.hid R9
    clear z0 z1 z2 z3 z4 z5 z6 f0 f1 f2 f3 f4 f5 f6
    obtain ⟨⟨z0, z1, z2, z3, z4, z5, z6⟩, f0, f1, f2, f3, f4, f5, f6⟩ := seven_cells R9
    clear R9 hb9
    go_wp2_with fail
    obtain ⟨y1, y2⟩ := seven_set (.int .i64 (optI (dec l)).1.op) (.int .i64 (optI (dec l)).1.r) (.int .i64 (optI (dec l)).1.m) (.int .i64 (optI (dec l)).1.len) (.int .i64 (optI (dec l)).1.field) (.int .i64 (optI (dec l)).1.width) (.int .i64 (optI (dec l)).1.imm) (Nat.le_refl w.heap.size) HB9.out HR9.out
    exact bodyPost_ret (results_rins rfl _ _ _ _ _ _ _ _ _ _ _ (by rfl) (by rfl) y1) rfl ⟨rfl, y2⟩
  have q72 : (B0 == 72) = false := by simpa using b72
  by_cases b233 : B0 = 233
  · subst b233
    have HX2 : Hid (dec l = fld ⟨13, 0, 0, 1, 4⟩ l) := Lib.hid (by
      rw [HX.out, show cls (kk l 0) (kk l 1) (kk l 2) (kk l 3) = some ⟨13, 0, 0, 1, 4⟩ from by
          have e0 := HK0.out
          have e1 := HK1.out
          show cls (kk l 0) (kk l 1) (kk l 2) (kk l 3) = some ⟨13, 0, 0, 1, 4⟩
          unfold cls
          (repeat (first | refine (if_pos (by omega)).trans ?_ | refine (if_neg (by omega)).trans ?_))
          first | rfl | (simp only [Option.some.injEq, Hd.mk.injEq, true_and, and_true]; omega)]
      rfl)
    have HFF := Lib.hid fun W (hb : Below w.heap.size w W) => HF.out W hb 13 0 0 4 ⟨13, 0, 0, 1, 4⟩ rfl rfl rfl rfl (by simp only; omega) (by simp) 1 rfl
    rw [← HX2.out] at HFF
    go_wp2_with fail
    refine (HFF.out _ HB1.out).mono ?_
    rintro e w9 ⟨rfl, hb9⟩
    have R9 := row_later hb9 R1.out
    have HB9 := Lib.hid (HB1.out.trans (hb9.mono HB1.out.size))
    have HR9 := Lib.hid R9
    clear z0 z1 z2 z3 z4 z5 z6 f0 f1 f2 f3 f4 f5 f6
    obtain ⟨⟨z0, z1, z2, z3, z4, z5, z6⟩, f0, f1, f2, f3, f4, f5, f6⟩ := seven_cells R9
    clear R9 hb9
    go_wp2_with fail
    obtain ⟨y1, y2⟩ := seven_set (.int .i64 (optI (dec l)).1.op) (.int .i64 (optI (dec l)).1.r) (.int .i64 (optI (dec l)).1.m) (.int .i64 (optI (dec l)).1.len) (.int .i64 (optI (dec l)).1.field) (.int .i64 (optI (dec l)).1.width) (.int .i64 (optI (dec l)).1.imm) (Nat.le_refl w.heap.size) HB9.out HR9.out
    exact bodyPost_ret (results_rins rfl _ _ _ _ _ _ _ _ _ _ _ (by rfl) (by rfl) y1) rfl ⟨rfl, y2⟩
  have q233 : (B0 == 233) = false := by simpa using b233
  by_cases b232 : B0 = 232
  · subst b232
    have HX2 : Hid (dec l = fld ⟨17, 0, 0, 1, 4⟩ l) := Lib.hid (by
      rw [HX.out, show cls (kk l 0) (kk l 1) (kk l 2) (kk l 3) = some ⟨17, 0, 0, 1, 4⟩ from by
          have e0 := HK0.out
          have e1 := HK1.out
          show cls (kk l 0) (kk l 1) (kk l 2) (kk l 3) = some ⟨17, 0, 0, 1, 4⟩
          unfold cls
          (repeat (first | refine (if_pos (by omega)).trans ?_ | refine (if_neg (by omega)).trans ?_))
          first | rfl | (simp only [Option.some.injEq, Hd.mk.injEq, true_and, and_true]; omega)]
      rfl)
    have HFF := Lib.hid fun W (hb : Below w.heap.size w W) => HF.out W hb 17 0 0 4 ⟨17, 0, 0, 1, 4⟩ rfl rfl rfl rfl (by simp only; omega) (by simp) 1 rfl
    rw [← HX2.out] at HFF
    go_wp2_with fail
    refine (HFF.out _ HB1.out).mono ?_
    rintro e w9 ⟨rfl, hb9⟩
    have R9 := row_later hb9 R1.out
    have HB9 := Lib.hid (HB1.out.trans (hb9.mono HB1.out.size))
    have HR9 := Lib.hid R9
    clear z0 z1 z2 z3 z4 z5 z6 f0 f1 f2 f3 f4 f5 f6
    obtain ⟨⟨z0, z1, z2, z3, z4, z5, z6⟩, f0, f1, f2, f3, f4, f5, f6⟩ := seven_cells R9
    clear R9 hb9
    go_wp2_with fail
    obtain ⟨y1, y2⟩ := seven_set (.int .i64 (optI (dec l)).1.op) (.int .i64 (optI (dec l)).1.r) (.int .i64 (optI (dec l)).1.m) (.int .i64 (optI (dec l)).1.len) (.int .i64 (optI (dec l)).1.field) (.int .i64 (optI (dec l)).1.width) (.int .i64 (optI (dec l)).1.imm) (Nat.le_refl w.heap.size) HB9.out HR9.out
    exact bodyPost_ret (results_rins rfl _ _ _ _ _ _ _ _ _ _ _ (by rfl) (by rfl) y1) rfl ⟨rfl, y2⟩
  have q232 : (B0 == 232) = false := by simpa using b232
  by_cases b195 : B0 = 195
  · subst b195
    have HX2 : Hid (dec l = some ⟨19, 0, 0, 1, 0, 0, 0⟩) := Lib.hid (by
      rw [HX.out, show cls (kk l 0) (kk l 1) (kk l 2) (kk l 3) = some ⟨19, 0, 0, 1, 0⟩ from by
          have e0 := HK0.out
          have e1 := HK1.out
          show cls (kk l 0) (kk l 1) (kk l 2) (kk l 3) = some ⟨19, 0, 0, 1, 0⟩
          unfold cls
          (repeat (first | refine (if_pos (by omega)).trans ?_ | refine (if_neg (by omega)).trans ?_))
          first | rfl | (simp only [Option.some.injEq, Hd.mk.injEq, true_and, and_true]; omega)]
      show fld ⟨19, 0, 0, 1, 0⟩ l = _
      have e0 := HK0.out
      have e1 := HK1.out
      have e2 := HLEN.out
      unfold fld
      rw [if_pos (by show 1 + 0 ≤ l.length; omega), if_pos rfl]
      simp
      try omega)
    go_wp2_with fail
    obtain ⟨y1, y2⟩ := seven_set (.int .i64 19) (.int .i64 0) (.int .i64 0) (.int .i64 1) (.int .i64 0) (.int .i64 0) (.int .i64 0) (Nat.le_refl w.heap.size) HB1.out R1.out
    rw [HX2.out]
    exact bodyPost_ret (results_rins rfl _ _ _ _ _ _ _ _ _ _ _ (by rfl) (by rfl) y1) rfl ⟨rfl, y2⟩
  have q195 : (B0 == 195) = false := by simpa using b195
  by_cases b255 : B0 = 255
  · subst b255
    have HX2 : Hid (dec l = none) := Lib.hid (by
      rw [HX.out, show cls (kk l 0) (kk l 1) (kk l 2) (kk l 3) = none from by
          have e0 := HK0.out
          have e1 := HK1.out
          show cls (kk l 0) (kk l 1) (kk l 2) (kk l 3) = none
          unfold cls
          (repeat (first | refine (if_pos (by omega)).trans ?_ | refine (if_neg (by omega)).trans ?_))
          first | rfl | (simp only [Option.some.injEq, Hd.mk.injEq, true_and, and_true]; omega)]
      rfl)
    go_wp2_with fail
    all_goals
      obtain ⟨y1, y2⟩ := seven_set (.int .i64 0) (.int .i64 0) (.int .i64 0) (.int .i64 0) (.int .i64 0) (.int .i64 0) (.int .i64 0) (Nat.le_refl w.heap.size) HB1.out R1.out
      rw [HX2.out]
      exact bodyPost_ret (results_rins rfl _ _ _ _ _ _ _ _ _ _ _ (by rfl) (by rfl) y1) rfl ⟨rfl, y2⟩
  have q255 : (B0 == 255) = false := by simpa using b255
  by_cases b15 : B0 = 15
  · subst b15
    have HX2 : Hid (dec l = none) := Lib.hid (by
      rw [HX.out, show cls (kk l 0) (kk l 1) (kk l 2) (kk l 3) = none from by
          have e0 := HK0.out
          have e1 := HK1.out
          show cls (kk l 0) (kk l 1) (kk l 2) (kk l 3) = none
          unfold cls
          (repeat (first | refine (if_pos (by omega)).trans ?_ | refine (if_neg (by omega)).trans ?_))
          first | rfl | (simp only [Option.some.injEq, Hd.mk.injEq, true_and, and_true]; omega)]
      rfl)
    go_wp2_with fail
    all_goals
      obtain ⟨y1, y2⟩ := seven_set (.int .i64 0) (.int .i64 0) (.int .i64 0) (.int .i64 0) (.int .i64 0) (.int .i64 0) (.int .i64 0) (Nat.le_refl w.heap.size) HB1.out R1.out
      rw [HX2.out]
      exact bodyPost_ret (results_rins rfl _ _ _ _ _ _ _ _ _ _ _ (by rfl) (by rfl) y1) rfl ⟨rfl, y2⟩
  have q15 : (B0 == 15) = false := by simpa using b15
  have HX2 : Hid (dec l = none) := Lib.hid (by
    rw [HX.out, show cls (kk l 0) (kk l 1) (kk l 2) (kk l 3) = none from by
        have e0 := HK0.out
        have e1 := HK1.out
        show cls (kk l 0) (kk l 1) (kk l 2) (kk l 3) = none
        unfold cls
        (repeat (first | refine (if_pos (by omega)).trans ?_ | refine (if_neg (by omega)).trans ?_))
        first | rfl | (simp only [Option.some.injEq, Hd.mk.injEq, true_and, and_true]; omega)]
    rfl)
  go_wp2_with fail
  all_goals
    obtain ⟨y1, y2⟩ := seven_set (.int .i64 0) (.int .i64 0) (.int .i64 0) (.int .i64 0) (.int .i64 0) (.int .i64 0) (.int .i64 0) (Nat.le_refl w.heap.size) HB1.out R1.out
    rw [HX2.out]
    exact bodyPost_ret (results_rins rfl _ _ _ _ _ _ _ _ _ _ _ (by rfl) (by rfl) y1) rfl ⟨rfl, y2⟩
end Go.Proofs.YtbedbkifdhjdfaaDoor
