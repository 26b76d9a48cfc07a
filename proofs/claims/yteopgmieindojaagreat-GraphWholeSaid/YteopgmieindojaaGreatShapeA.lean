/-
  Contracts of the reference's Has, flags, align.
-/
import Derived.Test.YteopgmieindojaaGreatObjMem
import Derived.OwnWalk
import Derived.LoopTactic
import Derived.Lib.Hide
import Derived.Outline
import Derived.WalkSpells
namespace Go.Proofs.YteopgmieindojaaGreat
open Go.RowKit

/-- A section's value: its nine cells. -/
abbrev secV (nm : ByteArray) (ty fl al en li sz : Int) (vd vr : Value) : Value := .agg #[.string nm, .int .i64 ty, .int .i64 fl, .int .i64 al, .int .i64 en, .int .i64 li, .int .i64 sz, vd, vr]
def hasF (fl k : Int) : Bool := decide (0 ≤ fl) && ((fl / k).tmod 2 == 1)

theorem has_any (nm : ByteArray) (ty fl al en li sz : Int) (vd vr : Value) (k : Int) (w : World) (hk : 0 < k) (hk2 : k ≤ 2097152) (hf : -9223372036854775808 ≤ fl ∧ fl ≤ 9223372036854775807) :
    Calls Tryz.prog 31 #[secV nm ty fl al en li sz vd vr, .int .i64 k] w fun e w' => e = .returned (.bool (hasF fl k)) ∧ Below w.heap.size w w' := by
  have hb := (Below.refl _ w).alloc (Nat.le_refl _) (.cells #[.string nm, .int .i64 ty, .int .i64 fl, .int .i64 al, .int .i64 en, .int .i64 li, .int .i64 sz, vd, vr] 89)
  by_cases h0 : 0 ≤ fl
  · have HR : Hid (hasF fl k = ((fl / k).tmod 2 == 1)) := Lib.hid (by simp [hasF, h0])
    go_enter Tryz.func31, Tryz.ntmps31
    go_wp2_with fail
    go_ret
    exact ⟨by rw [HR.out]; rfl, hb⟩
  · have HR : Hid (hasF fl k = false) := Lib.hid (by simp [hasF, h0])
    go_enter Tryz.func31, Tryz.ntmps31
    go_wp2_with fail
    go_ret
    exact ⟨by rw [HR.out]; rfl, hb⟩

def flagL : List Int := [1, 2, 4, 16, 32, 128, 512, 2097152]
def flagStep (n l : Int) : Int := if hasF n l = true then n - l else n
def flagsB (n : Int) : Bool := flagL.foldl flagStep n == 0
theorem flagL_at (k : Nat) (h : k < 8) : ∃ l, flagL[k]? = some l ∧ 0 < l ∧ l ≤ 2097152 := by
  match k, h with
  | 0, _ => exact ⟨1, rfl, by omega, by omega⟩
  | 1, _ => exact ⟨2, rfl, by omega, by omega⟩
  | 2, _ => exact ⟨4, rfl, by omega, by omega⟩
  | 3, _ => exact ⟨16, rfl, by omega, by omega⟩
  | 4, _ => exact ⟨32, rfl, by omega, by omega⟩
  | 5, _ => exact ⟨128, rfl, by omega, by omega⟩
  | 6, _ => exact ⟨512, rfl, by omega, by omega⟩
  | 7, _ => exact ⟨2097152, rfl, by omega, by omega⟩
theorem fold_step {n l : Int} {k : Nat} (h : flagL[k]? = some l) : (flagL.take (k + 1)).foldl flagStep n = flagStep ((flagL.take k).foldl flagStep n) l := by
  rw [List.take_add_one, h]
  simp

theorem flags_any (n : Int) (w : World) (hn : -9223372036854775808 ≤ n ∧ n ≤ 9223372036854775807) :
    Calls Tryz.prog 167 #[.int .i64 n] w fun e w' => e = .returned (.bool (flagsB n)) ∧ Below w.heap.size w w' := by
  have hb := (Below.refl _ w).alloc (Nat.le_refl _) (.cells #[.int .i64 1, .int .i64 2, .int .i64 4, .int .i64 16, .int .i64 32, .int .i64 128, .int .i64 512, .int .i64 2097152] 3)
  have hcl : ∀ (k : Nat) (l : Int), flagL[k]? = some l → (w.alloc (.cells #[.int .i64 1, .int .i64 2, .int .i64 4, .int .i64 16, .int .i64 32, .int .i64 128, .int .i64 512, .int .i64 2097152] 3)).cell? ⟨w.heap.size, k, none⟩ = some (.int .i64 l) := fun k l hl => by
    rw [cell_of_row _ w.heap.size k _ 3 (0, 0) (heap_alloc_new w _)]
    match k, hl with
    | 0, hl => cases hl; rfl
    | 1, hl => cases hl; rfl
    | 2, hl => cases hl; rfl
    | 3, hl => cases hl; rfl
    | 4, hl => cases hl; rfl
    | 5, hl => cases hl; rfl
    | 6, hl => cases hl; rfl
    | 7, hl => cases hl; rfl
  have HC := Lib.hid hcl
  have HN := Lib.hid hn
  clear hcl hn
  go_enter Tryz.func167, Tryz.ntmps167
  go_wp2_with fail
  generalize w.alloc (.cells #[.int .i64 1, .int .i64 2, .int .i64 4, .int .i64 16, .int .i64 32, .int .i64 128, .int .i64 512, .int .i64 2097152] 3) = w1 at *
  generalize hg : w.heap.size = g at *
  go_loop [0, 4] (fun r0 r4 => ∃ (k : Nat) (m : Int), k ≤ 8 ∧ r4 = .int .i64 (k : Int) ∧ r0 = .int .i64 m ∧ m = (flagL.take k).foldl flagStep n ∧ -9223372036854775808 ≤ m ∧ m ≤ 9223372036854775807) (fun _ r4 => 8 - (intOf r4).toNat)
  case atStart => exact ⟨0, n, Nat.zero_le _, rfl, rfl, rfl, HN.out.1, HN.out.2⟩
  case round =>
    obtain ⟨k, m, hk, rfl, rfl, hm, hm0, hm1⟩ := hrel
    have HM := Lib.hid hm
    clear hm
    by_cases hlt : k < 8
    · obtain ⟨l, hl, hl0, hl1⟩ := flagL_at k hlt
      have hc := HC.out k l hl
      have HST := Lib.hid (fold_step (n := n) hl)
      have hI : (k : Int) < 8 := by omega
      have hI0 : (0 : Int) ≤ (k : Int) := by omega
      have hlne : ¬ l = 0 := by omega
      clear hl
      by_cases h0 : 0 ≤ m
      · cases hq : ((m / l).tmod 2 == 1) with
        | true =>
          have HF : Hid (flagStep m l = m - l) := Lib.hid (by unfold flagStep hasF; rw [hq]; simp [h0])
          have hw : IntKind.i64.wrap (m - l) = m - l := IntWalk.i64_in _ (by omega)
          go_wp2_with fail
          go_round
          case rel => exact ⟨k + 1, m - l, hlt, by go_num, rfl, by rw [HST.out, ← HM.out, HF.out], by omega, by omega⟩
          case measure => simp [intOf]; omega
        | false =>
          have HF : Hid (flagStep m l = m) := Lib.hid (by unfold flagStep hasF; rw [hq]; simp)
          go_wp2_with fail
          go_round
          case rel => exact ⟨k + 1, m, hlt, by go_num, rfl, by rw [HST.out, ← HM.out, HF.out], by omega, by omega⟩
          case measure => simp [intOf]; omega
      · have HF : Hid (flagStep m l = m) := Lib.hid (by unfold flagStep hasF; simp [h0])
        go_wp2_with fail
        go_round
        case rel => exact ⟨k + 1, m, hlt, by go_num, rfl, by rw [HST.out, ← HM.out, HF.out], by omega, by omega⟩
        case measure => simp [intOf]; omega
    · have hI : ¬ (k : Int) < 8 := by omega
      have HR : Hid (flagsB n = (m == 0)) := Lib.hid (by
        rw [HM.out]
        unfold flagsB
        rw [List.take_of_length_le (by simp [flagL]; omega)])
      subst hg
      go_wp2_with fail
      go_ret
      exact ⟨by rw [HR.out]; rfl, hb⟩

end Go.Proofs.YteopgmieindojaaGreat
