/-
  What is got of a relocation's bytes is what was put: relAt and relB. Nothing here walks the program.
-/
import Derived.Test.YthpldobnfnehlaaRelAt
import Derived.Test.YthpldobnfnehlaaSectIff
namespace Go.Proofs.Ythpldobnfnehlaa
open Go.RowKit

theorem wrap_u64n (v : Int) (h : -9223372036854775808 ≤ v ∧ v ≤ 9223372036854775807) : IntKind.i64.wrap (u64n v : Int) = v := by
  have e : IntKind.i64.wrap (u64n v : Int) = ((u64n v : Int) + 9223372036854775808) % 18446744073709551616 - 9223372036854775808 := by
    simp only [IntKind.wrap, IntKind.signed, IntKind.bits]
    simp
    split <;> omega
  rw [e]
  unfold u64n
  omega
theorem u64n_wrap (n : Nat) (h : n < 18446744073709551616) : u64n (IntKind.i64.wrap (n : Int)) = n := by
  have e : IntKind.i64.wrap (n : Int) = ((n : Int) + 9223372036854775808) % 18446744073709551616 - 9223372036854775808 := by
    simp only [IntKind.wrap, IntKind.signed, IntKind.bits]
    simp
    split <;> omega
  rw [e]
  unfold u64n
  omega
theorem wrap_bd (v : Int) : -9223372036854775808 ≤ IntKind.i64.wrap v ∧ IntKind.i64.wrap v ≤ 9223372036854775807 := by
  have e : IntKind.i64.wrap v = (v + 9223372036854775808) % 18446744073709551616 - 9223372036854775808 := by
    simp only [IntKind.wrap, IntKind.signed, IntKind.bits]
    simp
    split <;> omega
  rw [e]
  omega

/-- What is added is an int. -/
def Fou.bd (t : Fou) : Prop := -9223372036854775808 ≤ t.d ∧ t.d ≤ 9223372036854775807
instance (t : Fou) : Decidable t.bd := by unfold Fou.bd; infer_instance

theorem relAt_iff (l : List UInt8) (a : Nat) (t : Fou) : relAt l a = some t ↔ t.may ∧ t.bd ∧ a + 24 ≤ l.length ∧ relB t = win l a 24 := by
  constructor
  · intro h
    unfold relAt at h
    split at h
    · rename_i hc
      obtain ⟨_, h1, h2⟩ := hc
      have ht : fouAt l a = t := by simpa using h
      have h2' : (fouAt l a).may := h2
      have h3 : a + 24 ≤ l.length := by omega
      obtain ⟨f0, f2, f1⟩ := h2'
      simp only [fouAt] at f0 f1 f2
      have g1 := widthI_pos f1
      have f1' : fitsB (numI l (a + 8) 4) = true := (fitsB_iff _).2 (by omega)
      refine ⟨ht ▸ h2, by rw [← ht]; exact wrap_bd _, h3, ?_⟩
      rw [← ht]
      have e : relB (fouAt l a) = leB 8 (u64n (numI l a 8)) ++ (leB 4 (u64n (numI l (a + 8) 4)) ++ (leB 4 (u64n (numI l (a + 12) 4)) ++ (leB 8 (u64n (IntKind.i64.wrap (num (win l (a + 16) 8) : Int))) ++ []))) := rfl
      have w8 := win_length l (a + 16) 8 (by omega)
      have hl := leB_num (win l (a + 16) 8)
      rw [w8] at hl
      rw [e, leB_win (by omega) f0, leB_win (by omega) f1', leB_win (by omega) f2, u64n_wrap _ (num_lt64 _ (by omega)), hl, List.append_nil]
      rw [win_append l (a + 12) 4 8, win_append l (a + 8) 4 12, win_append l a 8 16]
    · cases h
  · rintro ⟨hm, hd, hl, hb⟩
    have hm' := hm
    obtain ⟨f0, f2, f1⟩ := hm'
    have g1 := widthI_pos f1
    have f1' : fitsB t.b = true := (fitsB_iff _).2 (by omega)
    have g0 := numI_of (l := l) (a := a) f0 (k := 8) (by decide) (by rw [show a = a + 0 from rfl, ← win_win l a 24 0 8 (by omega), ← hb]; rfl)
    have g2 := numI_of (l := l) (a := a + 8) f1' (k := 4) (by decide) (by rw [← win_win l a 24 8 4 (by omega), ← hb]; rfl)
    have g3 := numI_of (l := l) (a := a + 12) f2 (k := 4) (by decide) (by rw [← win_win l a 24 12 4 (by omega), ← hb]; rfl)
    have w4 : win l (a + 16) 8 = leB 8 (u64n t.d) := by rw [← win_win l a 24 16 8 (by omega), ← hb]; rfl
    have hn : num (win l (a + 16) 8) = u64n t.d := by
      have := u64n_lt t.d
      rw [w4, num_leB, Nat.mod_eq_of_lt (by have e : (256 : Nat) ^ 8 = 18446744073709551616 := by decide
                                            omega)]
    have ht : fouAt l a = t := by
      unfold fouAt
      rw [g0, g2, g3, hn, wrap_u64n _ hd]
    unfold relAt
    have e : ((a : Int)).toNat = a := rfl
    rw [e, ht, if_pos ⟨by omega, by omega, hm⟩]

end Go.Proofs.Ythpldobnfnehlaa
