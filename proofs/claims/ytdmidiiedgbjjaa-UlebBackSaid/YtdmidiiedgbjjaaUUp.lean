
/-
  Contract: the example at the head of the laws of layer uleb.
-/
import Derived.Test.YtdmidiiedgbjjaaUPut
import Derived.Deep.RegionWith
namespace Go.Proofs.Ytdmidiiedgbjjaa
open Go.RowKit

theorem example_bytes : ulebB 5 300 = [172, 2] := by decide

theorem lit_has (W : World) : Has (W.alloc (.cells #[.int .u8 172, .int .u8 2] 5)) (some ⟨W.heap.size, 0, none⟩) [172, 2] :=
  Has.of_plain fun i x hx => by
    match i, hx with
    | 0, hx => simp at hx; subst hx; simp
    | 1, hx => simp at hx; subst hx; simp

/-- The literal, laid ahead of the call. -/
theorem lit_later {w W w1 : World} {N : Nat} (hN : N = w1.heap.size) (hb : Below W.heap.size W w1) :
    W = (w.alloc (.cells #[.int .u8 172, .int .u8 2] 5)).drew → ∀ X, Below N w1 X → (convert 22 9 (.slice (some ⟨w.heap.size, 0, none⟩) 2 2)).run Try.prog X = .ok (.string (str [172, 2])) X := by
  rintro rfl X hX
  subst hN
  have h1 : Has (w.alloc (.cells #[.int .u8 172, .int .u8 2] 5)).drew (some ⟨w.heap.size, 0, none⟩) [172, 2] := lit_has w
  exact run_conv X _ _ _ Try.underlying22 Try.underlying5 Try.underlying9 ((h1.below hb).below hX) 2 2 rfl

theorem lit_drew (W : World) : (convert 22 9 (.slice (some ⟨W.heap.size, 0, none⟩) 2 2)).run Try.prog (W.alloc (.cells #[.int .u8 172, .int .u8 2] 5)).drew = .ok (.string (str [172, 2])) (W.alloc (.cells #[.int .u8 172, .int .u8 2] 5)).drew := by
  have h1 : Has (W.alloc (.cells #[.int .u8 172, .int .u8 2] 5)).drew (some ⟨W.heap.size, 0, none⟩) [172, 2] := lit_has W
  exact run_conv _ _ _ _ Try.underlying22 Try.underlying5 Try.underlying9 h1 2 2 rfl
theorem put_example (w : World) : Calls Try.prog 11 #[.int .i64 300] w (Str 2 [172, 2] w) := by
  have h := uput_yes 300 w (by omega)
  rw [example_bytes] at h
  exact h.mono fun _ _ h => h.toH.toStr
theorem up_any (w : World) : Calls Try.prog 5 #[] w fun e w' => e = .returned (.bool true) ∧ Below w.heap.size w w' := by
  have HP := Lib.hid fun W => put_example W
  have hlit : ∀ W : World, (convert 22 9 (.slice (some ⟨W.heap.size, 0, none⟩) 2 2)).run Try.prog (W.alloc (.cells #[.int .u8 172, .int .u8 2] 5)) = .ok (.string (str [172, 2])) (W.alloc (.cells #[.int .u8 172, .int .u8 2] 5)) :=
    fun W => run_conv _ _ _ _ Try.underlying22 Try.underlying5 Try.underlying9 (lit_has W) 2 2 rfl
  have hlitd := lit_drew
  go_enter Try.func5, Try.ntmps5
  go_wp2
  go_region_with (go_at_call 11; refine (HP.out _).mono ?_; rintro e w1 ⟨p, c, N, rfl, hcv, hN, hb⟩; have hr := Below.refl N w1; have ha := fun o => (Below.refl N w1).alloc (Nat.le_of_eq hN) o; (first | (have hl2 := lit_later (w := w) hN hb rfl) | skip); (first | (have hbw := below_drew (w := w) hb rfl) | (have hbw := below_alloc (w := w) _ hb rfl)); have HN := Lib.hid hN; clear hN hb)
  all_goals
    go_wp2
    go_ret
    exact ⟨rfl, by first | exact hbw | exact hbw.alloc hbw.size _⟩

end Go.Proofs.Ytdmidiiedgbjjaa
