/-
  Contracts of the functions of le and of its reference that only read: which widths there are, whether all bytes are there, the number of bytes, Get.
-/
import Derived.Test.YtbedbkifdhjdfaaDoorRefLe
import Derived.LoopTactic
import Derived.Lib.Hide
import Derived.Outline
namespace Go.Proofs.YtbedbkifdhjdfaaDoor
open Go.RowKit

theorem isWidth_any (n : Int) (w : World) : Calls Tryd.prog 22 #[.int .i64 n] w fun e w' => e = .returned (.bool (wid n)) ∧ w = w' := by
  by_cases h1 : n = 1
  · subst h1
    go_enter Tryd.func22, Tryd.ntmps22
    go_wp2
    go_ret
    exact ⟨rfl, rfl⟩
  by_cases h2 : n = 2
  · subst h2
    go_enter Tryd.func22, Tryd.ntmps22
    go_wp2
    go_ret
    exact ⟨rfl, rfl⟩
  by_cases h4 : n = 4
  · subst h4
    go_enter Tryd.func22, Tryd.ntmps22
    go_wp2
    go_ret
    exact ⟨rfl, rfl⟩
  by_cases h8 : n = 8
  · subst h8
    go_enter Tryd.func22, Tryd.ntmps22
    go_wp2
    go_ret
    exact ⟨rfl, rfl⟩
  have hw : wid n = false := by simp [wid, h1, h2, h4, h8]
  have H := Lib.hid hw
  clear hw
  have e1 : (n == 1) = false := by simpa using h1
  have e2 : (n == 2) = false := by simpa using h2
  have e4 : (n == 4) = false := by simpa using h4
  have e8 : (n == 8) = false := by simpa using h8
  clear h1 h2 h4 h8
  go_enter Tryd.func22, Tryd.ntmps22
  go_wp2
  go_ret
  exact ⟨ret_b H.out.symm, rfl⟩

theorem hasAll_any (p : Option Addr) (len cap : Nat) (at_ n : Int) (w : World) (hl : len ≤ maxLen) :
    Calls Tryd.prog 26 #[.slice p len cap, .int .i64 at_, .int .i64 n] w fun e w' => e = .returned (.bool (fitB len at_ n)) ∧ w = w' := by
  unfold maxLen at hl
  by_cases hw : wid n = true
  · have hn := (wid_iff n).1 hw
    have hn1 : 1 ≤ n := by omega
    have hn8 : n ≤ 8 := by omega
    by_cases h0 : 0 ≤ at_
    · by_cases h1 : at_ ≤ (len : Int) - n
      · have H : Hid (fitB len at_ n = true) := Lib.hid ((fitB_iff _ _ _).2 ⟨hn, h0, h1⟩)
        clear hn
        go_enter Tryd.func26, Tryd.ntmps26
        go_wp2_with (go_at_call 22; refine (isWidth_any _ _).mono ?_; rintro e w' ⟨rfl, rfl⟩)
        go_ret
        exact ⟨ret_b H.out.symm, rfl⟩
      · have H : Hid (fitB len at_ n = false) := Lib.hid (by simp [fitB, h1])
        clear hn
        go_enter Tryd.func26, Tryd.ntmps26
        go_wp2_with (go_at_call 22; refine (isWidth_any _ _).mono ?_; rintro e w' ⟨rfl, rfl⟩)
        go_ret
        exact ⟨ret_b (by rw [H.out]; simpa using h1), rfl⟩
    · have H : Hid (fitB len at_ n = false) := Lib.hid (by simp [fitB, h0])
      clear hn
      go_enter Tryd.func26, Tryd.ntmps26
      go_wp2_with (go_at_call 22; refine (isWidth_any _ _).mono ?_; rintro e w' ⟨rfl, rfl⟩)
      go_ret
      exact ⟨ret_b H.out.symm, rfl⟩
  · have hw' : wid n = false := by simpa using hw
    have H : Hid (fitB len at_ n = false) := Lib.hid (by simp [fitB, hw'])
    clear hw
    go_enter Tryd.func26, Tryd.ntmps26
    go_wp2_with (go_at_call 22; refine (isWidth_any _ _).mono ?_; rintro e w' ⟨rfl, rfl⟩)
    go_ret
    exact ⟨ret_b H.out.symm, rfl⟩

end Go.Proofs.YtbedbkifdhjdfaaDoor
