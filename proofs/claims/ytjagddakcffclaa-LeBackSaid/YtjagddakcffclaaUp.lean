/-
  Contracts for the laws of layer le: the example at their head; a slice of bytes that a call gave, made a string in a later world.
-/
import Derived.Test.YtjagddakcffclaaRefLay
import Derived.Deep.RegionWith
namespace Go.Proofs.Ytjagddakcffclaa
open Go.RowKit

theorem conv_at {w1 : World} {p : Option Addr} {l : List UInt8} (h : Has w1 p l) {n c N : Nat} (hn : l.length = n) (hN : N = w1.heap.size) :
    ∀ W, Below N w1 W → (convert 22 9 (.slice p n c)).run Try.prog W = .ok (.string (str l)) W := fun W hb => by
  subst hN
  exact run_conv W _ _ _ Try.underlying22 Try.underlying5 Try.underlying9 (h.below hb) n c hn

/-- What a call gave, for the walk: the slice, that it is a string of l in every later world, and that the old world stands. -/
def Str (n : Nat) (l : List UInt8) (w : World) (e : Ending) (w' : World) : Prop :=
  ∃ p c N, e = .returned (.slice p n c) ∧ (∀ W, Below N w' W → (convert 22 9 (.slice p n c)).run Try.prog W = .ok (.string (str l)) W) ∧ N = w'.heap.size ∧ Below w.heap.size w w'
theorem GivesH.toStr {n : Nat} {l : List UInt8} {w w' : World} {e : Ending} (h : GivesH n l w e w') : Str n l w e w' := by
  obtain ⟨p, c, rfl, hl, _, _, hH, hb⟩ := h
  exact ⟨p, c, _, rfl, conv_at hH hl rfl, rfl, hb⟩

theorem example_bytes : leB 4 258 = [2, 1, 0, 0] := by decide

theorem lit_has (W : World) : Has (W.alloc (.cells #[.int .u8 2, .int .u8 1, .int .u8 0, .int .u8 0] 5)) (some ⟨W.heap.size, 0, none⟩) [2, 1, 0, 0] :=
  Has.of_plain fun i x hx => by
    match i, hx with
    | 0, hx => simp at hx; subst hx; simp
    | 1, hx => simp at hx; subst hx; simp
    | 2, hx => simp at hx; subst hx; simp
    | 3, hx => simp at hx; subst hx; simp

/-- The literal, laid ahead of the call. -/
theorem lit_later {w W w1 : World} {N : Nat} (hN : N = w1.heap.size) (hb : Below W.heap.size W w1) :
    W = (w.alloc (.cells #[.int .u8 2, .int .u8 1, .int .u8 0, .int .u8 0] 5)).drew → ∀ X, Below N w1 X → (convert 22 9 (.slice (some ⟨w.heap.size, 0, none⟩) 4 4)).run Try.prog X = .ok (.string (str [2, 1, 0, 0])) X := by
  rintro rfl X hX
  subst hN
  have h1 : Has (w.alloc (.cells #[.int .u8 2, .int .u8 1, .int .u8 0, .int .u8 0] 5)).drew (some ⟨w.heap.size, 0, none⟩) [2, 1, 0, 0] := lit_has w
  exact run_conv X _ _ _ Try.underlying22 Try.underlying5 Try.underlying9 ((h1.below hb).below hX) 4 4 rfl

theorem lit_drew (W : World) : (convert 22 9 (.slice (some ⟨W.heap.size, 0, none⟩) 4 4)).run Try.prog (W.alloc (.cells #[.int .u8 2, .int .u8 1, .int .u8 0, .int .u8 0] 5)).drew = .ok (.string (str [2, 1, 0, 0])) (W.alloc (.cells #[.int .u8 2, .int .u8 1, .int .u8 0, .int .u8 0] 5)).drew := by
  have h1 : Has (W.alloc (.cells #[.int .u8 2, .int .u8 1, .int .u8 0, .int .u8 0] 5)).drew (some ⟨W.heap.size, 0, none⟩) [2, 1, 0, 0] := lit_has W
  exact run_conv _ _ _ _ Try.underlying22 Try.underlying5 Try.underlying9 h1 4 4 rfl
theorem below_drew {w W w1 : World} (hb : Below W.heap.size W w1) (h : W = w.drew) : Below w.heap.size w w1 := by
  subst h
  exact (Below.refl _ w).drew.trans hb
theorem below_alloc {w W w1 : World} (o : Obj) (hb : Below W.heap.size W w1) (h : W = (w.alloc o).drew) : Below w.heap.size w w1 := by
  subst h
  exact ((Below.refl _ w).alloc (Nat.le_refl _) o).drew.trans (hb.mono (by simp))

theorem up_any (w : World) : Calls Try.prog 5 #[] w fun e w' => e = .returned (.bool true) ∧ Below w.heap.size w w' := by
  have HP := Lib.hid fun W => (put_has 258 4 W (by omega) (by rfl)).mono fun _ _ h => h.toStr
  rw [example_bytes] at HP
  have hlit : ∀ W : World, (convert 22 9 (.slice (some ⟨W.heap.size, 0, none⟩) 4 4)).run Try.prog (W.alloc (.cells #[.int .u8 2, .int .u8 1, .int .u8 0, .int .u8 0] 5)) = .ok (.string (str [2, 1, 0, 0])) (W.alloc (.cells #[.int .u8 2, .int .u8 1, .int .u8 0, .int .u8 0] 5)) :=
    fun W => run_conv _ _ _ _ Try.underlying22 Try.underlying5 Try.underlying9 (lit_has W) 4 4 rfl
  have hlitd := lit_drew
  go_enter Try.func5, Try.ntmps5
  go_wp2
  go_region_with (go_at_call 10; refine (HP.out _).mono ?_; rintro e w1 ⟨p, c, N, rfl, hcv, hN, hb⟩; have hr := Below.refl N w1; have ha := fun o => (Below.refl N w1).alloc (Nat.le_of_eq hN) o; (first | (have hl2 := lit_later (w := w) hN hb rfl) | skip); (first | (have hbw := below_drew (w := w) hb rfl) | (have hbw := below_alloc (w := w) _ hb rfl)); have HN := Lib.hid hN; clear hN hb)
  all_goals
    go_wp2
    go_ret
    exact ⟨rfl, by first | exact hbw | exact hbw.alloc hbw.size _⟩

end Go.Proofs.Ytjagddakcffclaa
