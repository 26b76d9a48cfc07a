/-
  Contracts of the project's insn: small functions: names, registers, number; strings.HasPrefix.
-/
import Derived.Test.YtbedbkifdhjdfaaDoorInsnPure
import Derived.Test.YtbedbkifdhjdfaaDoorGet
import Derived.Test.YtbedbkifdhjdfaaDoorStrs
import Derived.BigQuiet
import Derived.Lib.Split
namespace Go.Proofs.YtbedbkifdhjdfaaDoor
open Go.RowKit

/-- A shape, as a value. -/
abbrev shpV (s : Shp) : Value := .agg #[.string (str s.first), .int .i64 (s.base : Int), .bool s.r, .bool s.m, .bool s.mem, .int .i64 (s.width : Int)]

theorem slHasPre_any (s p : ByteArray) (w : World) :
    Calls Tryd.prog 24 #[.string s, .string p] w fun e w' => e = .returned (.bool (decide (lst p <+: lst s))) ∧ w' = w := by
  have hs : (lst s).length = s.size := by simp
  have hp : (lst p).length = p.size := by simp
  by_cases hl : p.size ≤ s.size
  · have hI : (p.size : Int) ≤ (s.size : Int) := by omega
    have he : ((s.extract 0 p.size).toList == p.toList) = decide (lst p <+: lst s) := by
      have e1 : lst (s.extract 0 p.size) = (lst s).take p.size := Lib.extract_from_zero s p.size
      rw [ByteArray.toList_eq, ByteArray.toList_eq]
      show (lst (s.extract 0 p.size) == lst p) = _
      rw [e1]
      by_cases h : lst p <+: lst s
      · rw [decide_eq_true h, beq_iff_eq]
        have := List.prefix_iff_eq_take.1 h
        rw [hp] at this
        exact this.symm
      · rw [decide_eq_false h, beq_eq_false_iff_ne]
        intro e
        apply h
        rw [← e]
        exact List.take_prefix _ _
    have HE := Lib.hid he
    clear he hs hp
    generalize decide (lst p <+: lst s) = q at *
    go_enter Tryd.func24, Tryd.ntmps24
    go_wp2_with fail
    go_ret
    rw [← HE.out]
    exact ⟨rfl, rfl⟩
  · have hI : ¬ (p.size : Int) ≤ (s.size : Int) := by omega
    have he : decide (lst p <+: lst s) = false := decide_eq_false fun h => by have := h.length_le; omega
    rw [he]
    clear he hs hp
    go_enter Tryd.func24, Tryd.ntmps24
    go_wp2_with fail
    go_ret
    exact ⟨rfl, rfl⟩

theorem hasPre_any (s p : ByteArray) (w : World) :
    Calls Tryd.prog 18 #[.string s, .string p] w fun e w' => e = .returned (.bool (decide (lst p <+: lst s))) ∧ w' = w := by
  have HS := Lib.hid fun W => slHasPre_any s p W
  generalize decide (lst p <+: lst s) = q at *
  go_enter Tryd.func18, Tryd.ntmps18
  go_wp2_with fail
  refine (HS.out _).mono ?_
  rintro e w' ⟨rfl, rfl⟩
  go_wp2_with fail
  go_ret
  exact ⟨rfl, rfl⟩

theorem inames_any (f : ByteArray) (b wd : Int) (r m q : Bool) (w : World) :
    Calls Tryd.prog 14 #[.agg #[.string f, .int .i64 b, .bool r, .bool m, .bool q, .int .i64 wd]] w fun e w' => e = .returned (.bool (r || m)) ∧ Below w.heap.size w w' := by
  have hb : Below w.heap.size w (w.alloc (.cells #[.string f, .int .i64 b, .bool r, .bool m, .bool q, .int .i64 wd] 37)) := (Below.refl _ w).alloc (Nat.le_refl _) _
  cases r
  · go_enter Tryd.func14, Tryd.ntmps14
    go_wp2_with fail
    go_ret
    exact ⟨rfl, hb⟩
  · go_enter Tryd.func14, Tryd.ntmps14
    go_wp2_with fail
    go_ret
    exact ⟨rfl, hb⟩

/-- int of a number of 8 bytes, int32 of a number. -/
theorem sgn4 (v : Nat) (hv : v < 4294967296) : wrap64 (wrap32 (v : Int)) = sgn 4 v := by
  unfold sgn wrap64 wrap32
  rw [if_pos rfl]
  split <;> omega
theorem sgn8 (v : Nat) (hv : v < 18446744073709551616) : wrap64 (v : Int) = sgn 8 v := by
  unfold sgn wrap64
  rw [if_neg (by decide)]
  split <;> omega
end Go.Proofs.YtbedbkifdhjdfaaDoor
