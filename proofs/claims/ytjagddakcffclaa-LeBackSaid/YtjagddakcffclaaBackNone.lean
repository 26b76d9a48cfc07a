/-
  The walk of LeBack where it asks nothing: b is too long, or n is no width.
-/
import Derived.Test.YtjagddakcffclaaUp
namespace Go.Proofs.Ytjagddakcffclaa
open Go.RowKit

set_option maxRecDepth 100000 in
/-- Nothing is asked: b is too long, or n is no width. -/
theorem back_none (p : Option Addr) (len cap : Nat) (at_ n other : Int) (v : Nat) (w : World) (h : 10000 < len ∨ wid n = false) :
    Calls Try.prog 4 #[.slice p len cap, .int .i64 at_, .int .i64 n, .int .u64 v, .int .i64 other] w fun e w' => e = .returned (.bool true) ∧ Below w.heap.size w w' := by
  by_cases hb : 10000 < len
  · have hb' : (10000 : Int) < (len : Int) := by omega
    clear h
    go_enter Try.func4, Try.ntmps4
    go_wp2_with fail
    refine (up_any _).mono ?_
    rintro e w1 ⟨rfl, hb1⟩
    go_wp2_with fail
    go_ret
    exact ⟨rfl, hb1⟩
  · have hw : wid n = false := by exact h.resolve_left hb
    have hb' : ¬ (10000 : Int) < (len : Int) := by omega
    simp only [wid, Bool.or_eq_false_iff] at hw
    obtain ⟨⟨⟨h1, h2⟩, h4⟩, h8⟩ := hw
    have g1 : (n != 1) = true := by simpa using h1
    have g2 : (n != 2) = true := by simpa using h2
    have g4 : (n != 4) = true := by simpa using h4
    have g8 : (n != 8) = true := by simpa using h8
    clear h hb h1 h2 h4 h8
    go_enter Try.func4, Try.ntmps4
    go_wp2_with fail
    refine (up_any _).mono ?_
    rintro e w1 ⟨rfl, hb1⟩
    go_wp2_with fail
    go_ret
    exact ⟨rfl, hb1⟩

end Go.Proofs.Ytjagddakcffclaa
