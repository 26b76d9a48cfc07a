/-
  Contracts of the project's ehdr: may, fields, number; the library's bytes.Equal.
-/
import Derived.Test.YteneljkpmheplaaBegun
import Derived.Test.YteneljkpmheplaaGet
import Derived.Test.YteneljkpmheplaaPut
namespace Go.Proofs.Yteneljkpmheplaa
open Go.RowKit

theorem number_any (p : Option Addr) (len cap : Nat) (l : List UInt8) (at_ n : Int) (w : World) (h : Has w p l) (hlen : l.length = len) (hcap : len ≤ cap) (hm : cap ≤ maxLen) :
    Calls Try.prog 10 #[.slice p len cap, .int .i64 at_, .int .i64 n] w fun e w' => e = .returned (.int .i64 (wrap64 (getB l at_ n : Int))) ∧ w = w' := by
  have HG := Lib.hid (get_any p len cap l at_ n w h hlen hcap hm)
  generalize getB l at_ n = q at *
  clear h hlen
  go_enter Try.func10, Try.ntmps10
  go_wp2_with (go_at_call 18; refine HG.out.mono ?_; rintro e w' ⟨rfl, rfl⟩)
  go_ret
  exact ⟨rfl, rfl⟩

theorem equal_any (p q : Option Addr) (n1 c1 n2 c2 : Nat) (l m : List UInt8) (w : World) (h1 : Has w p l) (h2 : Has w q m) (hn1 : l.length = n1) (hn2 : m.length = n2) :
    Calls Try.prog 11 #[.slice p n1 c1, .slice q n2 c2] w fun e w' => e = .returned (.bool (decide (l = m))) ∧ w = w' := by
  have k1 := conv_now (cap := c1) h1 hn1
  have k2 := conv_now (cap := c2) h2 hn2
  have hd : ((str l).toList == (str m).toList) = decide (l = m) := by
    by_cases e : l = m
    · subst e; simp
    · have := eq_no' (x := str m) (y := str l) fun x => e (str_inj x)
      rw [this]; simp [e]
  have HD := Lib.hid hd
  clear h1 h2 hn1 hn2 hd
  go_enter Try.func11, Try.ntmps11
  go_wp2_with fail
  go_ret
  exact ⟨by rw [← HD.out]; rfl, rfl⟩

theorem hmay_any (a m n : Int) (w : World) :
    Calls Try.prog 13 #[hd3 a m n] w fun e w' => e = .returned (.bool (decide (mayH a m n))) ∧ Below w.heap.size w w' := by
  have hb := (Below.refl _ w).alloc (Nat.le_refl _) (.cells #[.int .i64 a, .int .i64 m, .int .i64 n] 25)
  by_cases h0 : 0 ≤ a
  · by_cases h1 : a ≤ 2147483647
    · by_cases h2 : 1 ≤ m
      · by_cases h3 : m ≤ 65535
        · by_cases h4 : 1 ≤ n
          · by_cases h5 : n < m
            · have HM : Hid (decide (mayH a m n) = true) := Lib.hid (decide_eq_true (by unfold mayH; omega))
              go_enter Try.func13, Try.ntmps13
              go_wp2_with fail
              go_ret
              exact ⟨by rw [HM.out]; rfl, hb⟩
            · have HM : Hid (decide (mayH a m n) = false) := Lib.hid (decide_eq_false (by unfold mayH; omega))
              go_enter Try.func13, Try.ntmps13
              go_wp2_with fail
              go_ret
              exact ⟨by rw [HM.out]; rfl, hb⟩
          · have HM : Hid (decide (mayH a m n) = false) := Lib.hid (decide_eq_false (by unfold mayH; omega))
            go_enter Try.func13, Try.ntmps13
            go_wp2_with fail
            go_ret
            exact ⟨by rw [HM.out]; rfl, hb⟩
        · have HM : Hid (decide (mayH a m n) = false) := Lib.hid (decide_eq_false (by unfold mayH; omega))
          go_enter Try.func13, Try.ntmps13
          go_wp2_with fail
          go_ret
          exact ⟨by rw [HM.out]; rfl, hb⟩
      · have HM : Hid (decide (mayH a m n) = false) := Lib.hid (decide_eq_false (by unfold mayH; omega))
        go_enter Try.func13, Try.ntmps13
        go_wp2_with fail
        go_ret
        exact ⟨by rw [HM.out]; rfl, hb⟩
    · have HM : Hid (decide (mayH a m n) = false) := Lib.hid (decide_eq_false (by unfold mayH; omega))
      go_enter Try.func13, Try.ntmps13
      go_wp2_with fail
      go_ret
      exact ⟨by rw [HM.out]; rfl, hb⟩
  · have HM : Hid (decide (mayH a m n) = false) := Lib.hid (decide_eq_false (by unfold mayH; omega))
    go_enter Try.func13, Try.ntmps13
    go_wp2_with fail
    go_ret
    exact ⟨by rw [HM.out]; rfl, hb⟩

/-- The cells of the list of numbers. -/
def fcells (a m n : Int) : Array Value := #[.int .u64 1, .int .i64 2, .int .u64 62, .int .i64 2, .int .u64 1, .int .i64 4, .int .u64 0, .int .i64 8, .int .u64 0, .int .i64 8, .int .u64 a, .int .i64 8, .int .u64 0, .int .i64 4, .int .u64 64, .int .i64 2, .int .u64 0, .int .i64 2, .int .u64 0, .int .i64 2, .int .u64 64, .int .i64 2, .int .u64 m, .int .i64 2, .int .u64 n, .int .i64 2]
theorem hfields_any (a m n : Nat) (w : World) (ha : a ≤ 2147483647) (hm : m ≤ 65535) (hn : n ≤ 65535) :
    Calls Try.prog 14 #[hd3 a m n] w fun e w' => e = .returned (.slice (some ⟨w.heap.size + 1, 0, none⟩) 13 13) ∧ w' = (w.alloc (.cells #[.int .i64 (a : Int), .int .i64 (m : Int), .int .i64 (n : Int)] 25)).alloc (.cells (fcells a m n) 42) := by
  have e1 : IntKind.u64.wrap (a : Int) = (a : Int) := by rw [conv_u64, show u64n (a : Int) = a from u64n_nat a (by omega)]
  have e2 : IntKind.u64.wrap (m : Int) = (m : Int) := by rw [conv_u64, show u64n (m : Int) = m from u64n_nat m (by omega)]
  have e3 : IntKind.u64.wrap (n : Int) = (n : Int) := by rw [conv_u64, show u64n (n : Int) = n from u64n_nat n (by omega)]
  clear ha hm hn
  go_enter Try.func14, Try.ntmps14
  go_wp2_with fail
  go_ret
  refine ⟨?_, ?_⟩
  · rfl
  · rfl
/-- What the cells are: a number, and of how many bytes it is. -/
theorem fcells_at (a m n : Nat) (k : Nat) (hk : k < 13) : ∃ v wd : Nat, (hdrL a m n)[2 * k]? = some (v : Int) ∧ (hdrL a m n)[2 * k + 1]? = some (wd : Int) ∧ (fcells a m n)[2 * k]? = some (.int .u64 (v : Int)) ∧ (fcells a m n)[2 * k + 1]? = some (.int .i64 (wd : Int)) := by
  match k, hk with
  | 0, _ => exact ⟨1, 2, rfl, rfl, rfl, rfl⟩
  | 1, _ => exact ⟨62, 2, rfl, rfl, rfl, rfl⟩
  | 2, _ => exact ⟨1, 4, rfl, rfl, rfl, rfl⟩
  | 3, _ => exact ⟨0, 8, rfl, rfl, rfl, rfl⟩
  | 4, _ => exact ⟨0, 8, rfl, rfl, rfl, rfl⟩
  | 5, _ => exact ⟨a, 8, rfl, rfl, rfl, rfl⟩
  | 6, _ => exact ⟨0, 4, rfl, rfl, rfl, rfl⟩
  | 7, _ => exact ⟨64, 2, rfl, rfl, rfl, rfl⟩
  | 8, _ => exact ⟨0, 2, rfl, rfl, rfl, rfl⟩
  | 9, _ => exact ⟨0, 2, rfl, rfl, rfl, rfl⟩
  | 10, _ => exact ⟨64, 2, rfl, rfl, rfl, rfl⟩
  | 11, _ => exact ⟨m, 2, rfl, rfl, rfl, rfl⟩
  | 12, _ => exact ⟨n, 2, rfl, rfl, rfl, rfl⟩

end Go.Proofs.Yteneljkpmheplaa
