/-
  Rows of elements that each lie in some cells, as a reader sees them. Nothing here names the program.
-/
import Derived.Test.YtjhohbgehpddpaaFr0
namespace Go.Proofs.Ytjhohbgehpddpaa
open Go.RowKit

theorem flat_len {α : Type} {k : Nat} {f : α → List Value} (hk : ∀ x, (f x).length = k) : ∀ xs : List α, (xs.flatMap f).length = xs.length * k
  | [] => by simp
  | x :: xs => by rw [List.flatMap_cons, List.length_append, hk x, flat_len hk xs, List.length_cons, Nat.succ_mul]; omega
theorem flat_get {α : Type} {k : Nat} {f : α → List Value} (hk : ∀ x, (f x).length = k) : ∀ (xs : List α) (i : Nat) (x : α) (j : Nat) (u : Value), xs[i]? = some x → (f x)[j]? = some u → (xs.flatMap f)[i * k + j]? = some u
  | [], i, x, j, u, h, _ => by simp at h
  | y :: xs, 0, x, j, u, h, hj => by
    simp at h
    subst h
    rw [List.flatMap_cons, Nat.zero_mul, Nat.zero_add, List.getElem?_append_left (List.getElem?_eq_some_iff.1 hj).1]
    exact hj
  | y :: xs, i + 1, x, j, u, h, hj => by
    have := flat_get hk xs i x j u (by simpa using h) hj
    rw [List.flatMap_cons, List.getElem?_append_right (by rw [hk y, Nat.succ_mul]; omega), hk y, show (i + 1) * k + j - k = i * k + j by rw [Nat.succ_mul]; omega]
    exact this
theorem flat_snoc {α : Type} (f : α → List Value) (xs : List α) (x : α) : (xs ++ [x]).flatMap f = xs.flatMap f ++ f x := by simp
/-- A row of elements is a slice of them. -/
theorem isL_rows {α β : Type} {k : Nat} {E : World → Nat → Nat → β → Prop} {f : α → List Value} {g : α → β} (hk : ∀ x, (f x).length = k) {w : World} {B : Nat} {T : TypeId} {v : Value} {xs : List α} (h : w.ownsRow B T k v xs.length (xs.flatMap f))
    (hE : ∀ x ∈ xs, ∀ b o, (∀ j u, (f x)[j]? = some u → w.cell? ⟨b, o + j, none⟩ = some u) → E w b o (g x)) : IsL k E w v (xs.map g) := by
  rcases h.2 with ⟨rfl, h0⟩ | ⟨b, cap, cur, rfl, hb, hg, h1, h2, h3, h4⟩
  · have : xs = [] := List.length_eq_zero_iff.1 h0
    subst this
    exact ⟨none, 0, rfl, Nat.le_refl _, Nat.zero_le _, fun _ => rfl, fun i x hx => by simp at hx⟩
  · refine ⟨some ⟨b, 0, none⟩, cap, by rw [List.length_map], by rw [List.length_map]; exact h1, h2, (fun h => by cases h), fun i y hy => ⟨b, 0, rfl, ?_⟩⟩
    rw [List.getElem?_map] at hy
    cases hx : xs[i]? with
    | none => rw [hx] at hy; cases hy
    | some x =>
      rw [hx] at hy
      cases hy
      have hi := (List.getElem?_eq_some_iff.1 hx).1
      refine hE x (List.mem_of_getElem? hx) b (0 + i * k) fun j u hj => ?_
      have hjk : j < k := by rw [← hk x]; exact (List.getElem?_eq_some_iff.1 hj).1
      have hlt : i * k + j < xs.length * k := by
        have : (i + 1) * k ≤ xs.length * k := Nat.mul_le_mul_right k hi
        rw [Nat.succ_mul] at this
        omega
      have hf := flat_get hk xs i x j u hx hj
      rw [Nat.zero_add]
      refine (cell_of_row w b (i * k + j) cur T (0, 0) hg).trans ?_
      rw [← h4, List.getElem?_take, if_pos hlt] at hf
      simpa using hf
/-- A row's cell, at its own address. -/
theorem row_cell {α : Type} {k : Nat} {f : α → List Value} (hk : ∀ x, (f x).length = k) {w : World} {B b cap n : Nat} {T : TypeId} {xs : List α} (h : w.ownsRow B T k (.slice (some ⟨b, 0, none⟩) n cap) n (xs.flatMap f)) {i j : Nat} {x : α} {u : Value} (hx : xs[i]? = some x) (hj : (f x)[j]? = some u) (hn : xs.length = n) : w.cell? ⟨b, i * k + j, none⟩ = some u := by
  have hi := (List.getElem?_eq_some_iff.1 hx).1
  have hjk : j < k := by rw [← hk x]; exact (List.getElem?_eq_some_iff.1 hj).1
  have hlt : i * k + j < n * k := by
    subst hn
    have : (i + 1) * k ≤ xs.length * k := Nat.mul_le_mul_right k hi
    rw [Nat.succ_mul] at this
    omega
  rw [h.cellAt (i * k + j) hlt]
  exact flat_get hk xs i x j u hx hj

def i64bd (x : Int) : Prop := -9223372036854775808 ≤ x ∧ x ≤ 9223372036854775807
theorem flat_u8 : ∀ l : List UInt8, l.flatMap (fun x => [u8v x]) = l.map u8v
  | [] => rfl
  | a :: l => by rw [List.flatMap_cons, flat_u8 l]; rfl
theorem isL_bytes {w : World} {B : Nat} {T : TypeId} {v : Value} {l : List UInt8} (h : w.ownsRow B T 1 v l.length (l.map u8v)) : IsL 1 EByte w v l := by
  have := isL_rows (k := 1) (f := fun x : UInt8 => [u8v x]) (g := id) (E := EByte) (fun _ => rfl) (xs := l) (by rw [show l.flatMap (fun x => [u8v x]) = l.map u8v from flat_u8 l]; exact h) (fun x hx b o hc => hc 0 _ rfl)
  simpa using this
end Go.Proofs.Ytjhohbgehpddpaa
