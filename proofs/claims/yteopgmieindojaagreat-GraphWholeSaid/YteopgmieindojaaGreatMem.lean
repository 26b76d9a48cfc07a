/-
  Words on memory: a slice of bytes made into a string.
-/
import Derived.Test.YteopgmieindojaaGreatMem0
namespace Go.Proofs.YteopgmieindojaaGreat
open Go.RowKit

theorem conv_at {w1 : World} {p : Option Addr} {l : List UInt8} (h : Has w1 p l) {n c N : Nat} (hn : l.length = n) (hN : N = w1.heap.size) :
    ∀ W, Below N w1 W → (convert 31 9 (.slice p n c)).run Tryz.prog W = .ok (.string (str l)) W := fun W hb => by
  subst hN
  exact run_conv W _ _ _ Tryz.underlying31 Tryz.underlying5 Tryz.underlying9 (h.below hb) n c hn
/-- What a call gave, for the walk: the slice, that it is a string of l in every later world, and that the old world stands. -/
def Str (n : Nat) (l : List UInt8) (w : World) (e : Ending) (w' : World) : Prop :=
  ∃ p c N, e = .returned (.slice p n c) ∧ (∀ W, Below N w' W → (convert 31 9 (.slice p n c)).run Tryz.prog W = .ok (.string (str l)) W) ∧ N = w'.heap.size ∧ Below w.heap.size w w'
theorem GivesH.toStr {n : Nat} {l : List UInt8} {w w' : World} {e : Ending} (h : GivesH n l w e w') : Str n l w e w' := by
  obtain ⟨p, c, rfl, hl, _, _, hH, hb⟩ := h
  exact ⟨p, c, _, rfl, conv_at hH hl rfl, rfl, hb⟩
theorem conv_now {w : World} {p : Option Addr} {l : List UInt8} (h : Has w p l) {n cap : Nat} (hl : l.length = n) : (convert 31 9 (.slice p n cap)).run Tryz.prog w = .ok (.string (str l)) w :=
  run_conv w _ _ _ Tryz.underlying31 Tryz.underlying5 Tryz.underlying9 h n cap hl
end Go.Proofs.YteopgmieindojaaGreat
