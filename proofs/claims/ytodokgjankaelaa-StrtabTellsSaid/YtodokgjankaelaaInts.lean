/-
  Contract: Ints, where the two lists of numbers are the same.
-/
import Derived.Test.YtodokgjankaelaaMem
import Derived.Deep.QuietTactic
import Derived.BigQuiet
namespace Go.Proofs.Ytodokgjankaelaa
open Go.RowKit

theorem ints_same (p q : Option Addr) (n c d : Nat) (xs : List Int) (w : World) (hp : HasI w p xs) (hq : HasI w q xs) (hn : xs.length = n) (hm : n ≤ maxLen) :
    Calls Try.prog 13 #[.slice p n c, .slice q n d] w fun e w' => e = .returned (.int .i64 1) ∧ ∃ k, w' = w.drewN k := by
  unfold maxLen at hm
  have HP := Lib.hid hp
  have HQ := Lib.hid hq
  have HN := Lib.hid hn
  have hnn : ((n : Int) != (n : Int)) = false := by simp
  clear hp hq hn
  go_enter Try.func13, Try.ntmps13
  go_wp2
  go_loopw [5] (fun i wr => ∃ (k m : Nat), k ≤ n ∧ i = .int .i64 (k : Int) ∧ wr = w.drewN m) (fun i _ => n - (intOf i).toNat)
  case atStart => exact ⟨0, 0, Nat.zero_le _, rfl, rfl⟩
  case round =>
    obtain ⟨k, m, hk, rfl, rfl⟩ := hrel
    by_cases hlt : k < n
    · obtain ⟨b1, o1, x, hp1, hx, hc1⟩ := HP.out.at_ (i := k) (by rw [HN.out]; exact hlt)
      obtain ⟨b2, o2, x2, hp2, hx2, hc2⟩ := HQ.out.at_ (i := k) (by rw [HN.out]; exact hlt)
      obtain rfl : x2 = x := by rw [hx] at hx2; cases hx2; rfl
      have hxx : (x2 != x2) = false := by simp
      have k0 : (0 : Int) ≤ (k : Int) := by omega
      have k1 : (k : Int) < (n : Int) := by omega
      subst hp1
      subst hp2
      clear hx hx2
      go_wp2_with fail
      go_quiet (fail)
      go_wp2_with fail
      go_roundw
      case rel => exact ⟨k + 1, _, hlt, by go_num, rfl⟩
      case measure => simp [intOf]; omega
    · go_wp2_with fail
      go_ret
      exact ⟨rfl, m, rfl⟩

end Go.Proofs.Ytodokgjankaelaa
