/-
  What is got of a header's bytes is what was put: sectAt and sectB. Nothing here walks the program.
-/
import Derived.Test.YthpldobnfnehlaaSection
namespace Go.Proofs.Ythpldobnfnehlaa
open Go.RowKit

theorem win_append (l : List UInt8) (a m n : Nat) : win l a m ++ win l (a + m) n = win l a (m + n) := by
  unfold win
  rw [List.drop_take, List.drop_take, List.drop_take, ← List.drop_drop]
  have e1 : a + m - a = m := by omega
  have e2 : a + m + n - (a + m) = n := by omega
  have e3 : a + (m + n) - a = m + n := by omega
  rw [e1, e2, e3]
  exact (List.take_add (l := l.drop a) (i := m) (j := n)).symm
theorem win_win (l : List UInt8) (a n o k : Nat) (h : o + k ≤ n) : win (win l a n) o k = win l (a + o) k := by
  unfold win
  rw [List.drop_take, List.drop_take, List.drop_take, List.drop_take, List.take_take, List.drop_drop]
  congr 1
  omega

theorem leB_win {l : List UInt8} {a k : Nat} (h : a + k ≤ l.length) (hf : fitsB (numI l a k) = true) : leB k (u64n (numI l a k)) = win l a k := by
  have h2 := (fitsB_iff _).1 hf
  have hn : numI l a k = (num (win l a k) : Int) := by
    unfold numI at h2 ⊢
    split
    · rfl
    · rename_i hc
      rw [if_neg hc] at h2
      omega
  have hl : num (win l a k) < 18446744073709551616 := by rw [hn] at h2; omega
  rw [hn, u64n_nat _ hl]
  have := leB_num (win l a k)
  rwa [win_length l a k h] at this
theorem numI_of {l : List UInt8} {a k : Nat} {x : Int} (hx : fitsB x = true) (hk : 2147483647 < 256 ^ k) (h : win l a k = leB k (u64n x)) : numI l a k = x := by
  have h2 := (fitsB_iff _).1 hx
  have hu : u64n x = x.toNat := by unfold u64n; omega
  have hn : num (win l a k) = x.toNat := by
    rw [h, num_leB, hu, Nat.mod_eq_of_lt (by omega)]
  unfold numI
  rw [hn, if_pos (by omega)]
  omega

theorem sectAt_iff (l : List UInt8) (a : Nat) (t : Ten) : sectAt l a = some t ↔ t.may ∧ a + 64 ≤ l.length ∧ sectB t = win l a 64 := by
  constructor
  · intro h
    unfold sectAt at h
    split at h
    · rename_i hc
      obtain ⟨_, h1, h2⟩ := hc
      have ht : tenAt l a = t := by simpa using h
      have h2' : (tenAt l a).may := h2
      have h3 : a + 64 ≤ l.length := by omega
      have hf : ∀ y, y ∈ (tenAt l a).l → fitsB y = true := h2'
      simp only [Ten.l, tenAt, List.mem_cons, List.not_mem_nil, or_false, forall_eq_or_imp, forall_eq] at hf
      obtain ⟨f0, f1, f2, f3, f4, f5, f6, f7, f8, f9⟩ := hf
      refine ⟨ht ▸ h2', h3, ?_⟩
      rw [← ht]
      have e : sectB (tenAt l a) = leB 4 (u64n (numI l a 4)) ++ (leB 4 (u64n (numI l (a + 4) 4)) ++ (leB 8 (u64n (numI l (a + 8) 8)) ++ (leB 8 (u64n (numI l (a + 16) 8)) ++ (leB 8 (u64n (numI l (a + 24) 8)) ++ (leB 8 (u64n (numI l (a + 32) 8)) ++ (leB 4 (u64n (numI l (a + 40) 4)) ++ (leB 4 (u64n (numI l (a + 44) 4)) ++ (leB 8 (u64n (numI l (a + 48) 8)) ++ (leB 8 (u64n (numI l (a + 56) 8)) ++ []))))))))) := rfl
      rw [e, leB_win (by omega) f0, leB_win (by omega) f1, leB_win (by omega) f2, leB_win (by omega) f3, leB_win (by omega) f4, leB_win (by omega) f5, leB_win (by omega) f6, leB_win (by omega) f7, leB_win (by omega) f8, leB_win (by omega) f9, List.append_nil]
      rw [win_append l (a + 48) 8 8, win_append l (a + 44) 4 16, win_append l (a + 40) 4 20, win_append l (a + 32) 8 24, win_append l (a + 24) 8 32, win_append l (a + 16) 8 40, win_append l (a + 8) 8 48, win_append l (a + 4) 4 56, win_append l a 4 60]
    · cases h
  · rintro ⟨hm, hl, hb⟩
    have hf : ∀ y, y ∈ t.l → fitsB y = true := hm
    simp only [Ten.l, List.mem_cons, List.not_mem_nil, or_false, forall_eq_or_imp, forall_eq] at hf
    obtain ⟨f0, f1, f2, f3, f4, f5, f6, f7, f8, f9⟩ := hf
    have g0 := numI_of (l := l) (a := a) f0 (k := 4) (by decide) (by rw [show a = a + 0 from rfl, ← win_win l a 64 0 4 (by omega), ← hb]; rfl)
    have g1 := numI_of (l := l) (a := a + 4) f1 (k := 4) (by decide) (by rw [← win_win l a 64 4 4 (by omega), ← hb]; rfl)
    have g2 := numI_of (l := l) (a := a + 8) f2 (k := 8) (by decide) (by rw [← win_win l a 64 8 8 (by omega), ← hb]; rfl)
    have g3 := numI_of (l := l) (a := a + 16) f3 (k := 8) (by decide) (by rw [← win_win l a 64 16 8 (by omega), ← hb]; rfl)
    have g4 := numI_of (l := l) (a := a + 24) f4 (k := 8) (by decide) (by rw [← win_win l a 64 24 8 (by omega), ← hb]; rfl)
    have g5 := numI_of (l := l) (a := a + 32) f5 (k := 8) (by decide) (by rw [← win_win l a 64 32 8 (by omega), ← hb]; rfl)
    have g6 := numI_of (l := l) (a := a + 40) f6 (k := 4) (by decide) (by rw [← win_win l a 64 40 4 (by omega), ← hb]; rfl)
    have g7 := numI_of (l := l) (a := a + 44) f7 (k := 4) (by decide) (by rw [← win_win l a 64 44 4 (by omega), ← hb]; rfl)
    have g8 := numI_of (l := l) (a := a + 48) f8 (k := 8) (by decide) (by rw [← win_win l a 64 48 8 (by omega), ← hb]; rfl)
    have g9 := numI_of (l := l) (a := a + 56) f9 (k := 8) (by decide) (by rw [← win_win l a 64 56 8 (by omega), ← hb]; rfl)
    have ht : tenAt l a = t := by
      unfold tenAt
      rw [g0, g1, g2, g3, g4, g5, g6, g7, g8, g9]
    unfold sectAt
    have e : ((a : Int)).toNat = a := rfl
    rw [e, ht, if_pos ⟨by omega, by omega, hm⟩]

end Go.Proofs.Ythpldobnfnehlaa
