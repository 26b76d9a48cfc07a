/-
  Contract of the project's mayHead.
  Contracts: le.Put and the reference's Put: a number's lowest bytes, in new memory.
-/
import Derived.Test.YtenmcmnhiejbgaaGreatJg05
import Derived.Test.YtenmcmnhiejbgaaGreatJg02
import Derived.OwnWalk
namespace Go.Proofs.YtenmcmnhiejbgaaGreat
open Go.RowKit

def zeroT (t : Ten) : Bool := (t.a == 0) && ((t.b == 0) && ((t.c == 0) && ((t.d == 0) && ((t.e == 0) && ((t.f == 0) && ((t.g == 0) && ((t.h == 0) && ((t.i == 0) && (t.j == 0)))))))))
def tyOK (b : Int) : Bool := (b == 1) || ((b == 2) || ((b == 3) || ((b == 4) || ((b == 17) || (b == 1879002115)))))
/-- May header i be by itself, of bytes so many? -/
def headMay (n i : Nat) (t : Ten) : Bool := bif i == 0 then zeroT t else bif t.b == 8 then t.d == 0 else bif tyOK t.b then (t.d == 0) && decide (t.e + t.f ≤ (n : Int)) else false

set_option maxRecDepth 100000 in
set_option maxHeartbeats 4000000 in
theorem mayHead_any (F i : Nat) (t : Ten) (bp : Option Addr) (bl bc : Nat) (w : World) (hc : w.cell? ⟨F, 0, none⟩ = some (.slice bp bl bc)) (hm : t.may) :
    Calls Tryz.prog 84 #[filP F, t.v, .int .i64 (i : Int)] w fun e w' => e = .returned (.bool (headMay bl i t)) ∧ Below w.heap.size w w' := by
  have he := (fitsB_iff _).1 (hm t.e (by simp [Ten.l]))
  have hf := (fitsB_iff _).1 (hm t.f (by simp [Ten.l]))
  have hb1 : Below w.heap.size w (w.alloc (.cells #[.int .i64 t.a, .int .i64 t.b, .int .i64 t.c, .int .i64 t.d, .int .i64 t.e, .int .i64 t.f, .int .i64 t.g, .int .i64 t.h, .int .i64 t.i, .int .i64 t.j] 104)) := (Below.refl _ w).alloc (Nat.le_refl _) _
  obtain ⟨s0, s1, s2, s3, s4, s5, s6, s7, s8, s9⟩ := cells_ten _ _ _ _ _ _ _ _ _ _ _ _ _ (heap_new w (.cells #[.int .i64 t.a, .int .i64 t.b, .int .i64 t.c, .int .i64 t.d, .int .i64 t.e, .int .i64 t.f, .int .i64 t.g, .int .i64 t.h, .int .i64 t.i, .int .i64 t.j] 104))
  have c0 := cell_later hb1 hc
  have k1 : IntKind.i64.wrap (t.e + t.f) = t.e + t.f := IntWalk.i64_in _ (by omega)
  have hr : headMay bl i t = bif i == 0 then zeroT t else bif t.b == 8 then t.d == 0 else bif tyOK t.b then (t.d == 0) && decide (t.e + t.f ≤ (bl : Int)) else false := rfl
  generalize headMay bl i t = res at *
  have HR := Lib.hid hr
  clear hr hc hm he hf
  go_enter Tryz.func84, Tryz.ntmps84
  go_upto_region 1 with fail
  generalize w.alloc (.cells #[.int .i64 t.a, .int .i64 t.b, .int .i64 t.c, .int .i64 t.d, .int .i64 t.e, .int .i64 t.f, .int .i64 t.g, .int .i64 t.h, .int .i64 t.i, .int .i64 t.j] 104) = W1 at *
  by_cases hi : i = 0
  · subst hi
    have hE : Hid (res = zeroT t) := Lib.hid (by rw [HR.out]; rfl)
    clear HR
    go_wp2_with fail
    all_goals go_ret
    all_goals rw [hE.out]
    all_goals refine ⟨?_, hb1⟩
    all_goals simp [zeroT, *]
  · have hE : Hid (res = bif t.b == 8 then t.d == 0 else bif tyOK t.b then (t.d == 0) && decide (t.e + t.f ≤ (bl : Int)) else false) := Lib.hid (by rw [HR.out, show (i == 0) = false by simpa using hi]; rfl)
    have hi0 : ((i : Int) == 0) = false := by simp; omega
    clear HR hi
    generalize t.b = ty at *
    by_cases h8 : ty = 8
    · subst h8
      have hE2 : Hid (res = (t.d == 0)) := Lib.hid (by rw [hE.out]; rfl)
      go_wp2_with fail
      go_ret
      rw [hE2.out]
      exact ⟨rfl, hb1⟩
    · have e8 : (ty == 8) = false := by simpa using h8
      have hE2 : Hid (res = bif tyOK ty then (t.d == 0) && decide (t.e + t.f ≤ (bl : Int)) else false) := Lib.hid (by rw [hE.out, e8]; rfl)
      clear hE h8
      cases hty : tyOK ty with
      | true =>
        have hE3 : Hid (res = ((t.d == 0) && decide (t.e + t.f ≤ (bl : Int)))) := Lib.hid (by rw [hE2.out, hty]; rfl)
        have h6 : ty = 1 ∨ ty = 2 ∨ ty = 3 ∨ ty = 4 ∨ ty = 17 ∨ ty = 1879002115 := by
          unfold tyOK at hty
          simpa using hty
        clear hty e8 hE2
        obtain ⟨c, hcc⟩ : ∃ c, c = (t.d == 0) := ⟨_, rfl⟩
        obtain ⟨d, hdd⟩ : ∃ d, d = decide (t.e + t.f ≤ (bl : Int)) := ⟨_, rfl⟩
        rw [← hcc, ← hdd] at hE3
        rcases h6 with rfl | rfl | rfl | rfl | rfl | rfl <;> go_upto_region 12 with fail
        all_goals
          cases c with
          | false =>
            have hc0 : (t.d == 0) = false := hcc.symm
            have hE4 : Hid (res = false) := Lib.hid (by rw [hE3.out]; rfl)
            clear hcc hdd
            go_quiet (fail)
            go_wp2_with fail
            go_ret
            rw [hE4.out]
            exact ⟨rfl, below_drewN hb1 _⟩
          | true =>
            have hc0 : (t.d == 0) = true := hcc.symm
            have hE4 : Hid (res = d) := Lib.hid (by rw [hE3.out]; rfl)
            clear hcc
            cases d with
            | false =>
              have hd0 : decide (t.e + t.f ≤ (bl : Int)) = false := hdd.symm
              clear hdd
              go_quiet (fail)
              go_wp2_with fail
              go_ret
              rw [hE4.out]
              exact ⟨rfl, below_drewN hb1 _⟩
            | true =>
              have hd0 : decide (t.e + t.f ≤ (bl : Int)) = true := hdd.symm
              clear hdd
              go_quiet (fail)
              go_wp2_with fail
              go_ret
              rw [hE4.out]
              exact ⟨rfl, below_drewN hb1 _⟩
      | false =>
        have hE3 : Hid (res = false) := Lib.hid (by rw [hE2.out, hty]; rfl)
        unfold tyOK at hty
        simp only [Bool.or_eq_false_iff] at hty
        obtain ⟨f1, f2, f3, f4, f5, f6⟩ := hty
        clear hE2
        go_wp2_with fail
        go_ret
        rw [hE3.out]
        exact ⟨rfl, hb1⟩
end Go.Proofs.YtenmcmnhiejbgaaGreat

namespace Go.Proofs.YtenmcmnhiejbgaaGreat
open Go.RowKit

/-- The row behind k rounds: the first k bytes, zeros behind them. -/
def rowAt (n v k : Nat) : List Value := ((leB n v).take k).map u8v ++ List.replicate (n - k) (.int .u8 0)
theorem rowAt_zero (n v : Nat) : rowAt n v 0 = List.replicate n (.int .u8 0) := by simp [rowAt]
theorem rowAt_full (n v : Nat) : rowAt n v n = (leB n v).map u8v := by
  unfold rowAt
  rw [List.take_of_length_le (by rw [leB_length]; exact Nat.le_refl _)]
  simp
theorem rowAt_step (n v k : Nat) (hk : k < n) : (rowAt n v k).set k (u8v (UInt8.ofNat (v / 256 ^ k))) = rowAt n v (k + 1) := by
  have hl : (((leB n v).take k).map u8v).length = k := by simp [leB_length]; omega
  unfold rowAt
  rw [List.set_append_right _ _ (by omega), hl, Nat.sub_self]
  have e : (leB n v).take (k + 1) = (leB n v).take k ++ [UInt8.ofNat (v / 256 ^ k)] := by
    rw [List.take_add_one, leB_get n v k hk]
    rfl
  rw [e, show n - k = (n - (k + 1)) + 1 by omega, List.replicate_succ, List.set_cons_zero]
  simp
theorem byte_of (v k : Nat) : ((v : Int) / 2 ^ (8 * k) % 256 : Int) = ((UInt8.ofNat (v / 256 ^ k)).toNat : Int) := by
  have e : (2 : Int) ^ (8 * k) = ((256 ^ k : Nat) : Int) := by
    rw [Int.pow_mul]
    norm_cast
  rw [e]
  generalize 256 ^ k = m
  rw [UInt8.toNat_ofNat', Int.natCast_emod, Int.natCast_ediv]
  rfl
theorem rowAt_length (n v k : Nat) (hk : k ≤ n) : (rowAt n v k).length = n := by
  simp [rowAt, leB_length]
  omega

theorem put_yes (v n : Nat) (w : World) (_hv : v < 18446744073709551616) (hn : wid n = true) :
    Calls Tryz.prog 107 #[.int .u64 v, .int .i64 n] w (Gives (leB n v) w) := by
  have hn' := (wid_iff _).1 hn
  have hn1 : 1 ≤ n := by omega
  have hn8 : n ≤ 8 := by omega
  clear hn'
  obtain ⟨i0, hi, hz0, hz1, hz2⟩ := info_parts Tryz.infoU8
  have hb8 : i0.bytes * n ≤ 281474976710656 := by rw [hz2]; omega
  have HI := Lib.hid hi
  have H0 := Lib.hid hz0
  have H1 := Lib.hid hz1
  clear hi hz0 hz1 hz2
  go_enter Tryz.func107, Tryz.ntmps107
  go_wp2_with (first | (go_at_call 129; refine (isWidth_any _ _).mono ?_; rintro e w' ⟨rfl, rfl⟩) | (at_make; refine wpList_make_full _ rfl _ _ 31 rfl w.heap.size 5 i0 (.int .u8 0) 1 Tryz.underlying31 HI.out H0.out H1.out _ _ _ _ n rfl rfl rfl rfl hb8 (by unfold maxLen; omega) (Nat.le_refl _) ?_))
  intro w1 hown hgrow
  have hbel : Below w.heap.size w w1 := (Below.refl _ w).grown hgrow (Nat.le_refl _) (fun k h => by cases h)
  have hown0 : w1.ownsRow w.heap.size 5 1 (.slice (some ⟨w.heap.size, 0, none⟩) n n) n (rowAt n v 0) := by
    rw [rowAt_zero, ← toList_madeCells_one]
    exact hown
  clear hown hgrow
  go_wp2
  go_loopw [6, 14] (fun _ i wr => ∃ k : Nat, k ≤ n ∧ i = .int .i64 k ∧ wr.ownsRow w.heap.size 5 1 (.slice (some ⟨w.heap.size, 0, none⟩) n n) n (rowAt n v k) ∧ Below w.heap.size w wr) (fun _ i _ => n - (intOf i).toNat)
  case atStart => exact ⟨0, Nat.zero_le _, rfl, hown0, hbel⟩
  case round =>
    obtain ⟨k, hk, rfl, hown, hb⟩ := hrel
    clear hown0 hbel
    by_cases hlt : k < n
    · have hc : wr.cell? ⟨w.heap.size, k, none⟩ = some ((rowAt n v k)[k]'(by rw [rowAt_length n v k hk]; exact hlt)) := by
        rw [hown.cellAt k (by omega)]
        exact List.getElem?_eq_getElem _
      generalize (rowAt n v k)[k]'(by rw [rowAt_length n v k hk]; exact hlt) = u0 at hc
      have hf := hown.frozenAt k
      have hst := hown.stored k (u8v (UInt8.ofNat (v / 256 ^ k)))
      rw [rowAt_step n v k hlt] at hst
      have HS := Lib.hid hst
      clear hst
      go_wp2
      go_roundw
      case rel =>
        refine ⟨k + 1, hlt, by go_num, ?_, ?_⟩
        · rw [byte_of]
          exact HS.out.1
        · exact hb.setCell (Nat.le_refl _) _
      case measure => simp [intOf]; omega
    · have hkn : k = n := by omega
      have HK := Lib.hid hkn
      clear hkn
      go_wp2
      go_ret
      refine ⟨_, rfl, ?_, hb⟩
      rw [leB_length, ← rowAt_full]
      rw [HK.out] at hown
      exact hown

end Go.Proofs.YtenmcmnhiejbgaaGreat
