/-
  What is got of an entry's bytes is what was put: symAt and entB. Nothing here walks the program.
-/
import Derived.Test.YtonlbhojepofcaaSymbol
import Derived.Test.YtonlbhojepofcaaSectIff
namespace Go.Proofs.Ytonlbhojepofcaa
open Go.RowKit

theorem win_one {l : List UInt8} {a : Nat} {x : UInt8} (h : l[a]? = some x) : win l a 1 = [x] := by
  have hl : a < l.length := (List.getElem?_eq_some_iff.1 h).1
  have e : (l.take a).length = a := by simp; omega
  unfold win
  rw [List.take_add_one, h]
  exact List.drop_left' e
theorem one_win {l : List UInt8} {a : Nat} {x : UInt8} (h : win l a 1 = [x]) : l[a]? = some x := by
  have := win_get l a 1 0 (by omega)
  rw [h] at this
  simpa using this.symm

theorem symAt_iff (l : List UInt8) (a : Nat) (t : Six) : symAt l a = some t ↔ t.may ∧ a + 24 ≤ l.length ∧ entB t = win l a 24 := by
  constructor
  · intro h
    unfold symAt at h
    split at h
    · rename_i hc
      obtain ⟨_, h1, h2, h5⟩ := hc
      have ht : entAt l a = t := by simpa using h
      have h2' : (entAt l a).may := h2
      have h3 : a + 24 ≤ l.length := by omega
      obtain ⟨x, hx⟩ : ∃ x, l[a + 4]? = some x := ⟨_, List.getElem?_eq_getElem (by omega)⟩
      obtain ⟨y, hy⟩ : ∃ y, l[a + 5]? = some y := ⟨_, List.getElem?_eq_getElem (by omega)⟩
      have hy0 : y = 0 := by
        have e : l.getD (a + 5) 0 = y := by simp [List.getD, hy]
        rw [← e]
        exact h5
      have hxd : l.getD (a + 4) 0 = x := by simp [List.getD, hx]
      obtain ⟨f0, f4, f5, _, _, _, _, g1, g2⟩ := h2'
      simp only [entAt] at f0 f4 f5 g1 g2
      have f3 : fitsB (numI l (a + 6) 2) = true := (fitsB_iff _).2 ⟨g1, by omega⟩
      refine ⟨ht ▸ h2, h3, ?_⟩
      rw [← ht]
      have e : entB (entAt l a) = leB 4 (u64n (numI l a 4)) ++ (leB 1 (u64n (16 * (((l.getD (a + 4) 0).toNat : Int) / 16) + ((l.getD (a + 4) 0).toNat : Int) % 16)) ++ ([0] ++ (leB 2 (u64n (numI l (a + 6) 2)) ++ (leB 8 (u64n (numI l (a + 8) 8)) ++ (leB 8 (u64n (numI l (a + 16) 8)) ++ []))))) := rfl
      have ex : leB 1 (u64n (16 * ((x.toNat : Int) / 16) + (x.toNat : Int) % 16)) = win l (a + 4) 1 := by
        have : u64n (16 * ((x.toNat : Int) / 16) + (x.toNat : Int) % 16) = x.toNat := by
          have := x.toNat_lt
          unfold u64n
          omega
        rw [this, win_one hx]
        simp [leB]
      have ey : ([0] : List UInt8) = win l (a + 5) 1 := by rw [win_one hy, hy0]
      rw [e, hxd, ex, ey, leB_win (by omega) f0, leB_win (by omega) f3, leB_win (by omega) f4, leB_win (by omega) f5, List.append_nil]
      rw [win_append l (a + 8) 8 8, win_append l (a + 6) 2 16, win_append l (a + 5) 1 18, win_append l (a + 4) 1 19, win_append l a 4 20]
    · cases h
  · rintro ⟨hm, hl, hb⟩
    have hm' := hm
    obtain ⟨f0, f4, f5, b1, b2, c1, c2, d1, d2⟩ := hm'
    have f3 : fitsB t.d = true := (fitsB_iff _).2 ⟨d1, by omega⟩
    have g0 := numI_of (l := l) (a := a) f0 (k := 4) (by decide) (by rw [show a = a + 0 from rfl, ← win_win l a 24 0 4 (by omega), ← hb]; rfl)
    have w4 : win l (a + 4) 1 = leB 1 (u64n (16 * t.b + t.c)) := by rw [← win_win l a 24 4 1 (by omega), ← hb]; rfl
    have w5 : win l (a + 5) 1 = [0] := by rw [← win_win l a 24 5 1 (by omega), ← hb]; rfl
    have w6 : win l (a + 6) 2 = leB 2 (u64n t.d) := by rw [← win_win l a 24 6 2 (by omega), ← hb]; rfl
    have g4 := numI_of (l := l) (a := a + 8) f4 (k := 8) (by decide) (by rw [← win_win l a 24 8 8 (by omega), ← hb]; rfl)
    have g5 := numI_of (l := l) (a := a + 16) f5 (k := 8) (by decide) (by rw [← win_win l a 24 16 8 (by omega), ← hb]; rfl)
    have g3 : numI l (a + 6) 2 = t.d := by
      have hu : u64n t.d = t.d.toNat := by unfold u64n; omega
      have hn : num (win l (a + 6) 2) = t.d.toNat := by
        rw [w6, num_leB, hu, Nat.mod_eq_of_lt (by have : (256 : Nat) ^ 2 = 65536 := by decide
                                                  omega)]
      unfold numI
      rw [hn, if_pos (by omega)]
      omega
    have x4 := one_win (x := UInt8.ofNat (u64n (16 * t.b + t.c))) (by rw [w4]; rfl)
    have x5 := one_win w5
    have hu4 : u64n (16 * t.b + t.c) = (16 * t.b + t.c).toNat := by unfold u64n; omega
    have hx : ((UInt8.ofNat (u64n (16 * t.b + t.c))).toNat : Int) = 16 * t.b + t.c := by
      rw [hu4, UInt8.toNat_ofNat']
      omega
    have ht : entAt l a = t := by
      unfold entAt
      have e4 : l.getD (a + 4) 0 = UInt8.ofNat (u64n (16 * t.b + t.c)) := by simp [List.getD, x4]
      rw [g0, g3, g4, g5, e4, hx]
      have q1 : (16 * t.b + t.c) / 16 = t.b := by omega
      have q2 : (16 * t.b + t.c) % 16 = t.c := by omega
      rw [q1, q2]
    unfold symAt
    have e : ((a : Int)).toNat = a := rfl
    rw [e, ht, if_pos ⟨by omega, by omega, hm, by simp [List.getD, x5]⟩]

end Go.Proofs.Ytonlbhojepofcaa
