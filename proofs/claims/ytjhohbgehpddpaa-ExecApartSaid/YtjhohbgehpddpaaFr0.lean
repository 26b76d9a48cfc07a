/-
  What a call leaves as it was: all blocks below N, and all whose elements are of none of some types; rows of a call's own. Nothing here walks the program.
-/
import Derived.Test.YtjhohbgehpddpaaData
import Derived.Test.YtjhohbgehpddpaaMem0
namespace Go.Proofs.Ytjhohbgehpddpaa
open Go.RowKit

theorem owns_belowN {w w' : World} {base s : Nat} {e : TypeId} {v : Value} {n : Nat} {xs : List Value} (h : w.ownsRow base e s v n xs) (hb : Below w.heap.size w w') : w'.ownsRow base e s v n xs :=
  h.kept (row := none) ⟨hb.os, hb.tape, hb.output, hb.size, fun k hk _ => hb.block k hk⟩ (by cases hv : v.ownBlock <;> simp)
theorem slice_form {w : World} {base n s : Nat} {T : TypeId} {v : Value} {xs : List Value} (h : w.ownsRow base T s v n xs) : ∃ p c, v = .slice p n c ∧ n ≤ c ∧ c ≤ maxLen ∧ (p = none → c = 0) := by
  rcases h.2 with ⟨rfl, rfl⟩ | ⟨g, cap, cur, rfl, _, _, hnc, hcm, _, _⟩
  · exact ⟨none, 0, rfl, Nat.le_refl _, Nat.zero_le _, fun _ => rfl⟩
  · exact ⟨_, _, rfl, hnc, hcm, fun h => by cases h⟩
def tyOf : Obj → Option TypeId
  | .cells _ T _ => some T
  | _ => none
/-- What was there stands, but for blocks from N on that are of the types Ts. -/
structure FrT (N : Nat) (Ts : List TypeId) (w w' : World) : Prop where
  os : w'.os = w.os
  tape : w'.tape = w.tape
  output : w'.output = w.output
  size : w.heap.size ≤ w'.heap.size
  block : ∀ k o, w.heap[k]? = some o → (k < N ∨ ∀ T ∈ Ts, tyOf o ≠ some T) → w'.heap[k]? = some o
theorem FrT.refl (N : Nat) (Ts : List TypeId) (w : World) : FrT N Ts w w := ⟨rfl, rfl, rfl, Nat.le_refl _, fun _ _ h _ => h⟩
theorem FrT.trans {N : Nat} {Ts : List TypeId} {a b c : World} (h : FrT N Ts a b) (k : FrT N Ts b c) : FrT N Ts a c :=
  ⟨k.os.trans h.os, k.tape.trans h.tape, k.output.trans h.output, Nat.le_trans h.size k.size, fun i o hi ht => k.block i o (h.block i o hi ht) ht⟩
theorem FrT.mono {N : Nat} {Ts Us : List TypeId} {a b : World} (h : FrT N Ts a b) (hs : ∀ T ∈ Ts, T ∈ Us) : FrT N Us a b :=
  ⟨h.os, h.tape, h.output, h.size, fun i o hi ht => h.block i o hi (ht.imp id fun hu T hT => hu T (hs T hT))⟩
theorem FrT.of_below {N : Nat} {Ts : List TypeId} {w w' : World} (h : Below w.heap.size w w') : FrT N Ts w w' :=
  ⟨h.os, h.tape, h.output, h.size, fun k o hk _ => by rw [h.block k (Array.getElem?_eq_some_iff.1 hk).1]; exact hk⟩
theorem FrT.below {N : Nat} {Ts : List TypeId} {w w' : World} (h : FrT N Ts w w') (hN : N ≤ w.heap.size) : Below N w w' :=
  ⟨h.os, h.tape, h.output, h.size, fun k hk => by
    have hx : w.heap[k]? = some w.heap[k] := Array.getElem?_eq_getElem (by omega)
    rw [hx]
    exact h.block k _ hx (.inl hk)⟩
theorem FrT.heap {N : Nat} {Ts : List TypeId} {w w' : World} {k : Nat} {cs : Array Value} {T : TypeId} {m : Nat × Nat} (h : FrT N Ts w w') (hk : w.heap[k]? = some (.cells cs T m)) (hT : T ∉ Ts) : w'.heap[k]? = some (.cells cs T m) :=
  h.block k _ hk (.inr fun U hU e => by
    simp only [tyOf, Option.some.injEq] at e
    exact hT (e ▸ hU))
theorem FrT.owns {N : Nat} {Ts : List TypeId} {w w' : World} {B : Nat} {T : TypeId} {s n : Nat} {v : Value} {xs : List Value} (h : FrT N Ts w w') (ho : w.ownsRow B T s v n xs) (hT : T ∉ Ts) : w'.ownsRow B T s v n xs := by
  refine ⟨ho.1, ?_⟩
  rcases ho.2 with h0 | ⟨g, cap, cur, hv, hb, hg, rest⟩
  · exact .inl h0
  · exact .inr ⟨g, cap, cur, hv, hb, h.heap hg hT, rest⟩
theorem FrT.grown {N : Nat} {Ts : List TypeId} {w w' : World} {B : Nat} {T : TypeId} {s n : Nat} {v : Value} {xs : List Value} (ho : w.ownsRow B T s v n xs) (hg : w.grownBy w' v.ownBlock) (hT : T ∈ Ts) (hN : N ≤ B) : FrT N Ts w w' := by
  refine ⟨hg.os, hg.tape, hg.output, hg.size, fun k o hk ht => ?_⟩
  rw [hg.block k (Array.getElem?_eq_some_iff.1 hk).1 fun e => ?_]
  · exact hk
  · rcases ho.2 with ⟨rfl, _⟩ | ⟨g, cap, cur, rfl, hb, hg2, _⟩
    · simp [Value.ownBlock] at e
    · simp only [Value.ownBlock, Option.some.injEq] at e
      subst e
      rw [hk] at hg2
      cases hg2
      rcases ht with ht | ht
      · omega
      · exact ht T hT rfl
theorem FrT.set {N : Nat} {Ts : List TypeId} {w : World} {F i : Nat} {cs : Array Value} {T : TypeId} {m : Nat × Nat} (hF : w.heap[F]? = some (.cells cs T m)) (hT : T ∈ Ts) (hN : N ≤ F) (v : Value) : FrT N Ts w (w.setCell ⟨F, i, none⟩ v) := by
  refine ⟨rfl, rfl, rfl, by simp, fun k o hk ht => ?_⟩
  by_cases e : k = F
  · subst e
    rw [hk] at hF
    cases hF
    rcases ht with ht | ht
    · omega
    · exact absurd rfl (ht T hT)
  · rw [heap_setCell_other w ⟨F, i, none⟩ k v e]
    exact hk

/-- A row that was laid since grows: nothing of what was there is touched. -/
theorem FrT.grownNew {N : Nat} {Ts : List TypeId} {w w1 w2 : World} {r : Option Nat} (h : FrT N Ts w w1) (hg : w1.grownBy w2 r) (hr : ∀ k, r = some k → w.heap.size ≤ k) : FrT N Ts w w2 :=
  ⟨hg.os.trans h.os, hg.tape.trans h.tape, hg.output.trans h.output, Nat.le_trans h.size hg.size, fun k o hk ht => by
    have h1 := h.block k o hk ht
    rw [hg.block k (Array.getElem?_eq_some_iff.1 h1).1 fun e => by have := hr k e.symm; have := (Array.getElem?_eq_some_iff.1 hk).1; omega]
    exact h1⟩

theorem cells5 (w : World) (g : Nat) (v0 v1 v2 v3 v4 : Value) (T : TypeId) (h : w.heap[g]? = some (.cells #[v0, v1, v2, v3, v4] T (0, 0))) :
    (w.cell? ⟨g, 0, none⟩ = some v0 ∧ w.cell? ⟨g, 1, none⟩ = some v1 ∧ w.cell? ⟨g, 2, none⟩ = some v2 ∧ w.cell? ⟨g, 3, none⟩ = some v3 ∧ w.cell? ⟨g, 4, none⟩ = some v4) ∧
    (w.frozen? ⟨g, 0, none⟩ = false ∧ w.frozen? ⟨g, 1, none⟩ = false ∧ w.frozen? ⟨g, 2, none⟩ = false ∧ w.frozen? ⟨g, 3, none⟩ = false ∧ w.frozen? ⟨g, 4, none⟩ = false) := by
  refine ⟨⟨?_, ?_, ?_, ?_, ?_⟩, ?_, ?_, ?_, ?_, ?_⟩
  all_goals first | exact (cell_of_row w g _ _ _ (0, 0) h).trans rfl | exact frozen_of_row w g _ _ _ h | fail
end Go.Proofs.Ytjhohbgehpddpaa
