/-
  A flag of a number of flags, by a bit of it and by division. Nothing here walks the program.
-/
import Derived.Test.YtmcegjkkgbnjlaaShapeA
import Derived.Laws.BitsLemmas
namespace Go.Proofs.Ytmcegjkkgbnjlaa
open Go.RowKit

/-- Has a number of flags a flag: the project's way. -/
def hasO (fl k : Int) : Bool := bits .and .i64 fl k != 0
theorem wraps_i64 (n : Int) (h₀ : 0 ≤ n) (h₁ : n < 2 ^ 63) : IntKind.i64.wrap n = n := by
  rw [IntKind.wrap_i64]
  have : (2 : Int) ^ 63 = 9223372036854775808 := by decide
  omega
theorem hasO_eq {fl : Int} (j : Nat) (hj : j < 63) (h0 : 0 ≤ fl) (h1 : fl ≤ 9223372036854775807) : hasO fl (2 ^ j) = hasF fl (2 ^ j) := by
  obtain ⟨a, rfl⟩ := Int.eq_ofNat_of_zero_le h0
  have ha : a < 2 ^ 63 := by
    have : (2 : Nat) ^ 63 = 9223372036854775808 := by decide
    omega
  have hk : (2 : Nat) ^ j < 2 ^ 63 := Nat.pow_lt_pow_right (by omega) hj
  have hb := (bits_nat .i64 63 (by decide) wraps_i64 a (2 ^ j) ha hk).1
  have e2 : ((2 ^ j : Nat) : Int) = (2 : Int) ^ j := by push_cast; rfl
  rw [e2] at hb
  unfold hasO hasF
  rw [hb, decide_eq_true h0, Bool.true_and]
  have hd : ((a : Int) / 2 ^ j).tmod 2 = ((a / 2 ^ j % 2 : Nat) : Int) := by
    rw [← e2, ← Int.natCast_ediv, Int.tmod_eq_emod_of_nonneg (Int.natCast_nonneg (a / 2 ^ j))]
    rfl
  rw [hd]
  have htb := Nat.testBit_eq_decide_div_mod_eq (x := a) (i := j)
  cases hb2 : a.testBit j with
  | true =>
    rw [hb2] at htb
    have h1 : a / 2 ^ j % 2 = 1 := of_decide_eq_true htb.symm
    have h2 : (a &&& 2 ^ j).testBit j = true := by rw [Nat.testBit_and, hb2, Nat.testBit_two_pow]; simp
    have h3 : a &&& 2 ^ j ≠ 0 := fun e => by rw [e] at h2; simp at h2
    have h4 : ((a &&& 2 ^ j : Nat) : Int) ≠ 0 := by omega
    rw [h1]
    simpa using h4
  | false =>
    rw [hb2] at htb
    have h1 : ¬ a / 2 ^ j % 2 = 1 := of_decide_eq_false htb.symm
    have h2 : a / 2 ^ j % 2 = 0 := by omega
    have h3 : a &&& 2 ^ j = 0 := Nat.eq_of_testBit_eq fun i => by
      rw [Nat.testBit_and, Nat.testBit_two_pow, Nat.zero_testBit]
      by_cases h : j = i
      · subst h; rw [hb2]; rfl
      · simp [h]
    rw [h2, h3]
    rfl
end Go.Proofs.Ytmcegjkkgbnjlaa
