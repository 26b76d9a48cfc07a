/-
  Contract of the document's answer for layer insn: heads.
-/
import Derived.Test.YtbedbkifdhjdfaaDoorIRField
import Derived.Test.YtbedbkifdhjdfaaDoorInsnRef
namespace Go.Proofs.YtbedbkifdhjdfaaDoor
open Go.RowKit

theorem lit_ownsB (w : World) (l : List UInt8) (n : Nat) (cs : Array Value) (h : cs = (l.map u8v).toArray) (hn : l.length = n) (hm : n ≤ maxLen) :
    (w.alloc (.cells cs 5)).ownsRow w.heap.size 5 1 (.slice (some ⟨w.heap.size, 0, none⟩) n n) n (l.map u8v) := by
  subst h
  exact ⟨by simp [hn], .inr ⟨w.heap.size, n, _, rfl, Nat.le_refl _, heap_alloc_new w _, Nat.le_refl _, hm, by simp [hn], by rw [← hn, Nat.mul_one]; exact List.take_of_length_le (by simp)⟩⟩

/-- What heads gives. -/
def GivesW (l : List UInt8) (w : World) (e : Ending) (w' : World) : Prop := ∃ v, e = .returned v ∧ w'.ownsRow w.heap.size 5 1 v l.length (l.map u8v) ∧ Below w.heap.size w w'

set_option maxRecDepth 100000 in
set_option maxHeartbeats 4000000 in
theorem rheads_any (c : Int) (w : World) (h : c = 1 ∨ c = 3 ∨ c = 4 ∨ c = 5 ∨ c = 8 ∨ c = 6 ∨ c = 7 ∨ c = 9 ∨ c = 10 ∨ c = 11 ∨ c = 12) : Calls Tryd.prog 16 #[.int .i64 c] w (GivesW (headsL c) w) := by
  rcases h with rfl | rfl | rfl | rfl | rfl | rfl | rfl | rfl | rfl | rfl | rfl
  all_goals
    go_enter Tryd.func16, Tryd.ntmps16
    go_wp2_with fail
    go_ret
    refine ⟨_, rfl, lit_ownsB w _ _ _ rfl rfl (by unfold maxLen; decide), (Below.refl _ w).alloc (Nat.le_refl _) _⟩
end Go.Proofs.YtbedbkifdhjdfaaDoor
