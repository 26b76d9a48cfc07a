/-
  Contracts of the reference's align, kind.
-/
import Derived.Test.YteopgmieindojaaGreatShapeA
import Derived.Deep.DeepCutAuto
namespace Go.Proofs.YteopgmieindojaaGreat
open Go.RowKit

def alignB (n : Int) : Bool := (List.range 13).any fun i => n == 2 ^ i
theorem pow_bd : ∀ j, j < 13 → 1 ≤ (2 : Int) ^ j ∧ (2 : Int) ^ j ≤ 4096 ∧ ((2 : Int) ^ j < 4096 → j < 12) := by decide
theorem alignB_iff (n : Int) : alignB n = true ↔ ∃ i, i < 13 ∧ n = 2 ^ i := by
  unfold alignB
  rw [List.any_eq_true]
  constructor
  · rintro ⟨i, h1, h2⟩
    exact ⟨i, List.mem_range.1 h1, by simpa using h2⟩
  · rintro ⟨i, h1, h2⟩
    exact ⟨i, List.mem_range.2 h1, by simpa using h2⟩
theorem pow_mono {i j : Nat} (h : i ≤ j) : (2 : Int) ^ i ≤ 2 ^ j := by
  have := Nat.pow_le_pow_right (n := 2) (by omega) h
  exact_mod_cast this
theorem align_end {n : Int} {j : Nat} (hj : j < 13) (hlow : ∀ i, i < j → (2 : Int) ^ i < n) (hend : n ≤ 2 ^ j ∨ (4096 : Int) ≤ 2 ^ j) : ((2 : Int) ^ j == n) = alignB n := by
  rw [Bool.eq_iff_iff, beq_iff_eq, alignB_iff]
  constructor
  · intro h
    exact ⟨j, hj, h.symm⟩
  · rintro ⟨i, hi, rfl⟩
    have hji : j ≤ i := by
      by_cases h : j ≤ i
      · exact h
      · have := hlow i (by omega)
        omega
    have h1 := pow_mono hji
    have h2 := (pow_bd i hi).2.1
    omega

theorem align_any (n : Int) (w : World) : Calls Tryz.prog 168 #[.int .i64 n] w fun e w' => e = .returned (.bool (alignB n)) ∧ w = w' := by
  go_enter Tryz.func168, Tryz.ntmps168
  go_wp2_with fail
  go_loop [3] (fun r3 => ∃ (j : Nat) (p : Int), j < 13 ∧ r3 = .int .i64 p ∧ p = 2 ^ j ∧ 1 ≤ p ∧ p ≤ 4096 ∧ ∀ i, i < j → (2 : Int) ^ i < n) (fun r3 => (4096 - intOf r3).toNat)
  case atStart => exact ⟨0, 1, by omega, rfl, rfl, by omega, by omega, fun i h => absurd h (by omega)⟩
  case round =>
    obtain ⟨j, p, hj, rfl, hp, hp1, hp2, hlow⟩ := hrel
    have HP := Lib.hid hp
    have HL := Lib.hid hlow
    clear hp hlow
    by_cases h1 : p < n
    · by_cases h2 : p < 4096
      · have hj12 : j < 12 := (pow_bd j hj).2.2 (by have := HP.out; omega)
        have hw : IntKind.i64.wrap (2 * p) = 2 * p := IntWalk.i64_in _ (by omega)
        have hnext : (2 : Int) * p = 2 ^ (j + 1) := by rw [HP.out, Int.pow_succ]; omega
        have HX := Lib.hid hnext
        have hb := pow_bd (j + 1) (by omega)
        rw [← hnext] at hb
        have HB := Lib.hid hb
        clear hnext hb
        go_wp2_with fail
        go_round
        case rel =>
          refine ⟨j + 1, 2 * p, by omega, rfl, HX.out, HB.out.1, HB.out.2.1, fun i hi => ?_⟩
          by_cases hij : i < j
          · exact HL.out i hij
          · obtain rfl : i = j := by omega
            rw [← HP.out]; exact h1
        case measure => simp [intOf]; omega
      · have HE := Lib.hid (align_end hj HL.out (.inr (by rw [← HP.out]; omega)))
        rw [← HP.out] at HE
        go_wp2_with fail
        go_ret
        exact ⟨by rw [← HE.out]; rfl, rfl⟩
    · have HE := Lib.hid (align_end hj HL.out (.inl (by rw [← HP.out]; omega)))
      rw [← HP.out] at HE
      go_wp2_with fail
      go_ret
      exact ⟨by rw [← HE.out]; rfl, rfl⟩

end Go.Proofs.YteopgmieindojaaGreat
