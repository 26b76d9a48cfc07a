/-
  Numbers by digits of seven bits: what the documents' own functions tell, as functions on lists of bytes. Nothing here speaks of the program.
-/
import Derived.Test.YtdmidiiedgbjjaaWords
namespace Go.Proofs.Ytdmidiiedgbjjaa
open Go.RowKit

/-- The digits, the lowest first, as a number. -/
def dval : List UInt8 → Nat
  | [] => 0
  | x :: r => x.toNat % 128 + 128 * dval r

/-- The number with which the bytes begin, of at most so many digits, and how many it has. -/
def digs : Nat → List UInt8 → Option (Nat × Nat)
  | 0, _ => none
  | _ + 1, [] => none
  | k + 1, x :: r => if x.toNat < 128 then some (x.toNat, 1) else (digs k r).map fun y => (x.toNat % 128 + 128 * y.1, y.2 + 1)

/-- At most MaxAddr. -/
def digs5 (l : List UInt8) : Option (Nat × Nat) :=
  match digs 5 l with
  | some (v, u) => if v ≤ 2147483647 then some (v, u) else none
  | none => none

theorem dval_lt : ∀ l : List UInt8, dval l < 128 ^ l.length
  | [] => by simp [dval]
  | x :: r => by
    have h := dval_lt r
    simp only [dval, List.length_cons, Nat.pow_succ]
    omega

theorem dval_drop (l : List UInt8) (j : Nat) (x : UInt8) (h : l[j]? = some x) : dval (l.drop j) = x.toNat % 128 + 128 * dval (l.drop (j + 1)) := by
  have hj : j < l.length := (List.getElem?_eq_some_iff.1 h).1
  rw [List.drop_eq_getElem_cons hj, (List.getElem?_eq_some_iff.1 h).2]
  rfl

/-- k bytes above 127, then one below 128: that is the number. -/
theorem digs_hit : ∀ (f k : Nat) (l : List UInt8) (x : UInt8), k < f → (∀ i y, i < k → l[i]? = some y → 128 ≤ y.toNat) → l[k]? = some x → x.toNat < 128 → digs f l = some (dval (l.take (k + 1)), k + 1)
  | 0, _, _, _, h, _, _, _ => absurd h (by omega)
  | f + 1, k, [], x, _, _, h, _ => by simp at h
  | f + 1, 0, y :: r, x, _, _, h, hx => by
    simp at h
    subst h
    simp [digs, hx, dval, Nat.mod_eq_of_lt hx]
  | f + 1, k + 1, y :: r, x, hk, hb, h, hx => by
    have hy := hb 0 y (by omega) rfl
    have ih := digs_hit f k r x (by omega) (fun i z hi hz => hb (i + 1) z (by omega) (by simpa using hz)) (by simpa using h) hx
    simp [digs, show ¬ y.toNat < 128 by omega, ih, dval]

/-- k bytes above 127, and there are no more, or no more digits are let in: no number. -/
theorem digs_miss : ∀ (f k : Nat) (l : List UInt8), (k = f ∨ l.length = k) → k ≤ f → (∀ i y, i < k → l[i]? = some y → 128 ≤ y.toNat) → digs f l = none
  | 0, _, _, _, _, _ => rfl
  | f + 1, k, [], _, _, _ => rfl
  | f + 1, 0, y :: r, h, _, _ => by simp at h
  | f + 1, k + 1, y :: r, h, hk, hb => by
    have hy := hb 0 y (by omega) rfl
    have ih := digs_miss f k r (by simpa using h) (by omega) (fun i z hi hz => hb (i + 1) z (by omega) (by simpa using hz))
    simp [digs, show ¬ y.toNat < 128 by omega, ih]

theorem digs_used : ∀ (f : Nat) (l : List UInt8) (v u : Nat), digs f l = some (v, u) → 1 ≤ u ∧ u ≤ f ∧ u ≤ l.length
  | 0, _, _, _, h => by simp [digs] at h
  | f + 1, [], _, _, h => by simp [digs] at h
  | f + 1, x :: r, v, u, h => by
    unfold digs at h
    split at h
    · simp at h
      obtain ⟨_, rfl⟩ := h
      simp
    · obtain ⟨⟨v', u'⟩, hy, e⟩ := Option.map_eq_some_iff.1 h
      simp at e
      obtain ⟨_, rfl⟩ := e
      have := digs_used f r v' u' hy
      simp
      omega

theorem digs5_used (l : List UInt8) (v u : Nat) (h : digs5 l = some (v, u)) : 1 ≤ u ∧ u ≤ 5 ∧ u ≤ l.length ∧ v ≤ 2147483647 := by
  unfold digs5 at h
  split at h
  · rename_i v' u' hd
    split at h
    · simp at h
      obtain ⟨rfl, rfl⟩ := h
      have := digs_used 5 l _ _ hd
      omega
    · cases h
  · cases h

/-- A number's bytes. -/
def ulebB : Nat → Nat → List UInt8
  | 0, _ => []
  | f + 1, n => if n < 128 then [UInt8.ofNat n] else UInt8.ofNat (128 + n % 128) :: ulebB f (n / 128)

theorem ulebB_length : ∀ f n, (ulebB f n).length ≤ f
  | 0, _ => Nat.le_refl _
  | f + 1, n => by
    unfold ulebB
    split
    · simp
    · have := ulebB_length f (n / 128)
      simp
      omega

/-- What was put is got, whatever stands behind it. -/
theorem digs_ulebB : ∀ (f n : Nat) (r : List UInt8), n < 128 ^ f → 0 < f → digs f (ulebB f n ++ r) = some (n, (ulebB f n).length)
  | 0, _, _, _, h => absurd h (by omega)
  | f + 1, n, r, hn, _ => by
    unfold ulebB
    split
    · rename_i h
      have e : (UInt8.ofNat n).toNat = n := by simp; omega
      simp [digs, e, h]
    · rename_i h
      have e : (UInt8.ofNat (128 + n % 128)).toNat = 128 + n % 128 := by simp; omega
      have hf : 0 < f := by
        rcases Nat.eq_zero_or_pos f with h0 | h0
        · subst h0
          simp at hn
          omega
        · exact h0
      have hd : n / 128 < 128 ^ f := by
        rw [Nat.pow_succ] at hn
        exact Nat.div_lt_of_lt_mul (by rw [Nat.mul_comm]; exact hn)
      have ih := digs_ulebB f (n / 128) r hd hf
      simp only [List.cons_append, digs, e, show ¬ (128 + n % 128 < 128) by omega, if_false, ih, Option.map_some, List.length_cons]
      congr 2
      omega

/-- All numbers, one behind the other. -/
def listB : Nat → List UInt8 → Option (List Nat)
  | _, [] => some []
  | 0, _ :: _ => none
  | f + 1, x :: r => match digs5 (x :: r) with
    | none => none
    | some (v, u) => (listB f ((x :: r).drop u)).map (v :: ·)

end Go.Proofs.Ytdmidiiedgbjjaa
