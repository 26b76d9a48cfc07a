
/-
  Contracts: le.Put and the reference's Put: a number's lowest bytes, in new memory.
-/
import Derived.Test.YtbedbkifdhjdfaaDoorLeaf
import Derived.OwnWalk
namespace Go.Proofs.YtbedbkifdhjdfaaDoor
open Go.RowKit

theorem put_no (v n : Int) (w : World) (hn : wid n = false) :
    Calls Tryd.prog 15 #[.int .u64 v, .int .i64 n] w fun e w' => e = .returned (.slice none 0 0) ∧ w = w' := by
  go_enter Tryd.func15, Tryd.ntmps15
  go_wp2_with (go_at_call 22; refine (isWidth_any _ _).mono ?_; rintro e w' ⟨rfl, rfl⟩)
  go_ret
  exact ⟨rfl, rfl⟩

/-- The row behind k rounds: the first k bytes, zeros behind them. -/
def rowAt (n v k : Nat) : List Value := ((leB n v).take k).map u8v ++ List.replicate (n - k) (.int .u8 0)
theorem rowAt_zero (n v : Nat) : rowAt n v 0 = List.replicate n (.int .u8 0) := by simp [rowAt]
theorem rowAt_full (n v : Nat) : rowAt n v n = (leB n v).map u8v := by
  unfold rowAt
  rw [List.take_of_length_le (by rw [leB_length]; exact Nat.le_refl _)]
  simp
theorem rowAt_step (n v k : Nat) (hk : k < n) : (rowAt n v k).set k (u8v (UInt8.ofNat (v / 256 ^ k))) = rowAt n v (k + 1) := by
  have hl : (((leB n v).take k).map u8v).length = k := by simp [leB_length]; omega
  unfold rowAt
  rw [List.set_append_right _ _ (by omega), hl, Nat.sub_self]
  have e : (leB n v).take (k + 1) = (leB n v).take k ++ [UInt8.ofNat (v / 256 ^ k)] := by
    rw [List.take_add_one, leB_get n v k hk]
    rfl
  rw [e, show n - k = (n - (k + 1)) + 1 by omega, List.replicate_succ, List.set_cons_zero]
  simp
theorem byte_of (v k : Nat) : ((v : Int) / 2 ^ (8 * k) % 256 : Int) = ((UInt8.ofNat (v / 256 ^ k)).toNat : Int) := by
  have e : (2 : Int) ^ (8 * k) = ((256 ^ k : Nat) : Int) := by
    rw [Int.pow_mul]
    norm_cast
  rw [e]
  generalize 256 ^ k = m
  rw [UInt8.toNat_ofNat', Int.natCast_emod, Int.natCast_ediv]
  rfl
theorem rowAt_length (n v k : Nat) (hk : k ≤ n) : (rowAt n v k).length = n := by
  simp [rowAt, leB_length]
  omega

theorem put_yes (v n : Nat) (w : World) (_hv : v < 18446744073709551616) (hn : wid n = true) :
    Calls Tryd.prog 15 #[.int .u64 v, .int .i64 n] w (Gives (leB n v) w) := by
  have hn' := (wid_iff _).1 hn
  have hn1 : 1 ≤ n := by omega
  have hn8 : n ≤ 8 := by omega
  clear hn'
  obtain ⟨i0, hi, hz0, hz1, hz2⟩ := info_parts Tryd.infoU8
  have hb8 : i0.bytes * n ≤ 281474976710656 := by rw [hz2]; omega
  have HI := Lib.hid hi
  have H0 := Lib.hid hz0
  have H1 := Lib.hid hz1
  clear hi hz0 hz1 hz2
  go_enter Tryd.func15, Tryd.ntmps15
  go_wp2_with (first | (go_at_call 22; refine (isWidth_any _ _).mono ?_; rintro e w' ⟨rfl, rfl⟩) | (at_make; refine wpList_make_full _ rfl _ _ 22 rfl w.heap.size 5 i0 (.int .u8 0) 1 Tryd.underlying22 HI.out H0.out H1.out _ _ _ _ n rfl rfl rfl rfl hb8 (by unfold maxLen; omega) (Nat.le_refl _) ?_))
  intro w1 hown hgrow
  have hbel : Below w.heap.size w w1 := (Below.refl _ w).grown hgrow (Nat.le_refl _) (fun k h => by cases h)
  have hown0 : w1.ownsRow w.heap.size 5 1 (.slice (some ⟨w.heap.size, 0, none⟩) n n) n (rowAt n v 0) := by
    rw [rowAt_zero, ← toList_madeCells_one]
    exact hown
  clear hown hgrow
  go_wp2
  go_loopw [6, 14] (fun _ i wr => ∃ k : Nat, k ≤ n ∧ i = .int .i64 k ∧ wr.ownsRow w.heap.size 5 1 (.slice (some ⟨w.heap.size, 0, none⟩) n n) n (rowAt n v k) ∧ Below w.heap.size w wr) (fun _ i _ => n - (intOf i).toNat)
  case atStart => exact ⟨0, Nat.zero_le _, rfl, hown0, hbel⟩
  case round =>
    obtain ⟨k, hk, rfl, hown, hb⟩ := hrel
    clear hown0 hbel
    by_cases hlt : k < n
    · have hc : wr.cell? ⟨w.heap.size, k, none⟩ = some ((rowAt n v k)[k]'(by rw [rowAt_length n v k hk]; exact hlt)) := by
        rw [hown.cellAt k (by omega)]
        exact List.getElem?_eq_getElem _
      generalize (rowAt n v k)[k]'(by rw [rowAt_length n v k hk]; exact hlt) = u0 at hc
      have hf := hown.frozenAt k
      have hst := hown.stored k (u8v (UInt8.ofNat (v / 256 ^ k)))
      rw [rowAt_step n v k hlt] at hst
      have HS := Lib.hid hst
      clear hst
      go_wp2
      go_roundw
      case rel =>
        refine ⟨k + 1, hlt, by go_num, ?_, ?_⟩
        · rw [byte_of]
          exact HS.out.1
        · exact hb.setCell (Nat.le_refl _) _
      case measure => simp [intOf]; omega
    · have hkn : k = n := by omega
      have HK := Lib.hid hkn
      clear hkn
      go_wp2
      go_ret
      refine ⟨_, rfl, ?_, hb⟩
      rw [leB_length, ← rowAt_full]
      rw [HK.out] at hown
      exact hown

end Go.Proofs.YtbedbkifdhjdfaaDoor
