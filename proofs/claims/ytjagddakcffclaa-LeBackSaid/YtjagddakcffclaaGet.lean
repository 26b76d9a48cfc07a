/-
  Contracts: the reference's Num and Get, and le.Get: the number of the bytes from a place on.
-/
import Derived.Test.YtjagddakcffclaaLeaf
import Derived.Laws.BitsAllLaws
import Derived.Laws.Bits64
namespace Go.Proofs.Ytjagddakcffclaa
open Go.RowKit

theorem ret_u64 {a b : Int} (h : a = b) : Ending.returned (.int .u64 a) = .returned (.int .u64 b) := by rw [h]

theorem num_any (p : Option Addr) (cap : Nat) (l : List UInt8) (w : World) (h : Has w p l) (hl : l.length ≤ 8) (n : Nat) (hn : l.length = n) :
    Calls Try.prog 14 #[.slice p n cap] w fun e w' => e = .returned (.int .u64 (num l : Int)) ∧ w = w' := by
  subst hn
  go_enter Try.func14, Try.ntmps14
  go_wp2
  go_loop [3, 4] (fun v i => ∃ k : Int, -1 ≤ k ∧ k < l.length ∧ i = .int .i64 k ∧ v = .int .u64 (num (l.drop (k + 1).toNat) : Int)) (fun _ i => (intOf i + 1).toNat)
  case atStart => exact ⟨(l.length : Int) - 1, by omega, by omega, rfl, by simp [num]⟩
  case round =>
    obtain ⟨k, hk, hkl, rfl, rfl⟩ := hrel
    by_cases h0 : 0 ≤ k
    · obtain ⟨j, rfl⟩ := Int.eq_ofNat_of_zero_le h0
      obtain ⟨b, off, x, rfl, hx, hc⟩ := h.at_ (i := j) (by omega)
      have hx8 := x.toNat_lt
      have e1 : ((j : Int) + 1).toNat = j + 1 := by omega
      have hd := num_drop l j x hx
      have hlt := num_drop_lt l (j + 1) hl (by omega)
      rw [e1]
      have HD := Lib.hid hd
      clear hd e1
      generalize num (l.drop (j + 1)) = q at *
      go_wp2
      go_round
      case rel =>
        refine ⟨(j : Int) - 1, by omega, by omega, rfl, ?_⟩
        have e2 : ((j : Int) - 1 + 1).toNat = j := by omega
        rw [e2, HD.out]
        congr 1
        omega
      case measure => simp [intOf]
    · go_wp2
      go_ret
      have e2 : (k + 1).toNat = 0 := by omega
      exact ⟨ret_u64 (by rw [e2]; rfl), rfl⟩

/-- The n bytes from at on. -/
def win (l : List UInt8) (at_ n : Nat) : List UInt8 := (l.take (at_ + n)).drop at_
theorem win_length (l : List UInt8) (at_ n : Nat) (h : at_ + n ≤ l.length) : (win l at_ n).length = n := by simp [win]; omega
theorem win_get (l : List UInt8) (at_ n i : Nat) (hi : i < n) : (win l at_ n)[i]? = l[at_ + i]? := by
  simp only [win, List.getElem?_drop, List.getElem?_take]
  rw [if_pos (by omega)]

/-- What Get tells. -/
def getB (l : List UInt8) (at_ n : Int) : Nat := if fitB l.length at_ n = true then num (win l at_.toNat n.toNat) else 0

theorem refGet_any (p : Option Addr) (len cap : Nat) (l : List UInt8) (at_ n : Int) (w : World) (h : Has w p l) (hlen : l.length = len) (hcap : len ≤ cap) (hm : cap ≤ maxLen)
    (ha0 : -9223372036854775808 ≤ at_) (ha1 : at_ ≤ 9223372036854775807) :
    Calls Try.prog 7 #[.slice p len cap, .int .i64 at_, .int .i64 n] w fun e w' => e = .returned (.tuple #[.int .u64 (getB l at_ n : Int), .bool (fitB len at_ n)]) ∧ w = w' := by
  unfold maxLen at hm
  by_cases hf : fitB len at_ n = true
  · obtain ⟨hn, h0, h1⟩ := (fitB_iff _ _ _).1 hf
    obtain ⟨j, rfl⟩ := Int.eq_ofNat_of_zero_le h0
    obtain ⟨k, rfl⟩ := Int.eq_ofNat_of_zero_le (show 0 ≤ n by omega)
    have hw : wid k = true := (wid_iff _).2 hn
    have hk8 : k ≤ 8 := by omega
    have hk1 : 1 ≤ k := by omega
    have hjk : j + k ≤ len := by omega
    have hcut : Has w (p.map (·.add j)) (win l j k) := by
      have h2 := h.cut j (j + k) cap (by omega) (by omega)
      rwa [if_neg (by omega)] at h2
    have HG : Hid (getB l j k = num (win l j k)) := Lib.hid (by simp [getB, hlen, hf])
    have HF := Lib.hid hf
    have HW := Lib.hid (win_length l j k (by omega))
    clear hf hn hlen
    go_enter Try.func7, Try.ntmps7
    go_wp2_with (first | (go_at_call 13; refine (wide_any _ _).mono ?_; rintro e w' ⟨rfl, rfl⟩) | (go_at_call 14; refine (num_any _ _ (win l j k) _ hcut (by rw [HW.out]; exact hk8) _ HW.out).mono ?_; rintro e w' ⟨rfl, rfl⟩))
    go_ret2
    rw [HG.out, HF.out]
    exact ⟨rfl, rfl⟩
  · have hf' : fitB len at_ n = false := by simpa using hf
    have HF := Lib.hid hf'
    have HG : Hid (getB l at_ n = 0) := Lib.hid (by simp [getB, hlen, hf'])
    by_cases hw : wid n = true
    · have hn := (wid_iff n).1 hw
      have hn1 : 1 ≤ n := by omega
      have hn8 : n ≤ 8 := by omega
      have hout : ¬ (0 ≤ at_ ∧ at_ ≤ (len : Int) - n) := fun h2 => hf ((fitB_iff _ _ _).2 ⟨hn, h2⟩)
      clear hf hf' hn hlen
      by_cases h0 : at_ < 0
      · clear hout
        go_enter Try.func7, Try.ntmps7
        go_wp2_with (go_at_call 13; refine (wide_any _ _).mono ?_; rintro e w' ⟨rfl, rfl⟩)
        go_ret2
        rw [HG.out, HF.out]
        exact ⟨rfl, rfl⟩
      · have h1 : (len : Int) - n < at_ := by omega
        clear hout
        by_cases h2 : (len : Int) < at_
        · go_enter Try.func7, Try.ntmps7
          go_wp2_with (go_at_call 13; refine (wide_any _ _).mono ?_; rintro e w' ⟨rfl, rfl⟩)
          go_ret2
          rw [HG.out, HF.out]
          exact ⟨rfl, rfl⟩
        · have h3 : (len : Int) - at_ < n := by omega
          go_enter Try.func7, Try.ntmps7
          go_wp2_with (go_at_call 13; refine (wide_any _ _).mono ?_; rintro e w' ⟨rfl, rfl⟩)
          go_ret2
          rw [HG.out, HF.out]
          exact ⟨rfl, rfl⟩
    · have hw' : wid n = false := by simpa using hw
      clear hf hf' hw hlen
      go_enter Try.func7, Try.ntmps7
      go_wp2_with (go_at_call 13; refine (wide_any _ _).mono ?_; rintro e w' ⟨rfl, rfl⟩)
      go_ret2
      rw [HG.out, HF.out]
      exact ⟨rfl, rfl⟩

/-- 'v<<8 | x' where nothing is shifted out. -/
theorem or_byte (q x : Nat) (hq : q < 72057594037927936) (hx : x < 256) : bits .or .u64 ((q : Int) * 256) (x : Int) = ((x + 256 * q : Nat) : Int) := by
  rw [show (q : Int) * 256 = ((q * 256 : Nat) : Int) by omega, u64_or_nat _ _ (by omega) (by omega)]
  congr 1
  have h := Nat.two_pow_add_eq_or_of_lt (i := 8) (b := x) (by omega) q
  rw [show (2 : Nat) ^ 8 = 256 from rfl] at h
  rw [Nat.mul_comm q 256, ← h]
  omega

theorem get_any (p : Option Addr) (len cap : Nat) (l : List UInt8) (at_ n : Int) (w : World) (h : Has w p l) (hlen : l.length = len) (hcap : len ≤ cap) (hm : cap ≤ maxLen) :
    Calls Try.prog 6 #[.slice p len cap, .int .i64 at_, .int .i64 n] w fun e w' => e = .returned (.tuple #[.int .u64 (getB l at_ n : Int), .bool (fitB len at_ n)]) ∧ w = w' := by
  have hml : len ≤ maxLen := by omega
  unfold maxLen at hm
  by_cases hf : fitB len at_ n = true
  · obtain ⟨hn, h0, h1⟩ := (fitB_iff _ _ _).1 hf
    obtain ⟨j, rfl⟩ := Int.eq_ofNat_of_zero_le h0
    obtain ⟨k, rfl⟩ := Int.eq_ofNat_of_zero_le (show 0 ≤ n by omega)
    have hk8 : k ≤ 8 := by omega
    have hk1 : 1 ≤ k := by omega
    have hjk : j + k ≤ len := by omega
    have HG : Hid (getB l j k = num (win l j k)) := Lib.hid (by simp [getB, hlen, hf])
    have HF := Lib.hid hf
    have HW := Lib.hid (win_length l j k (by omega))
    have hw8 : (win l j k).length ≤ 8 := by rw [HW.out]; exact hk8
    obtain ⟨b, off, rfl, hcell⟩ := h.plain (by omega)
    have hg : ∀ i x, (win l j k)[i]? = some x → w.cell? ⟨b, off + (j + i), none⟩ = some (.int .u8 (x.toNat : Int)) := fun i x hx => by
      have hi : i < k := by have := (List.getElem?_eq_some_iff.1 hx).1; rw [HW.out] at this; exact this
      rw [win_get l j k i hi] at hx
      exact hcell _ _ hx
    have HC := Lib.hid hg
    generalize win l j k = u at *
    clear hn hlen h hcell hg
    go_enter Try.func6, Try.ntmps6
    go_wp2_with (go_at_call 12; refine (hasAll_any _ _ _ _ _ _ hml).mono ?_; rintro e w' ⟨rfl, rfl⟩)
    have HU := HW.out
    go_loop [8, 9] (fun v i => ∃ k : Int, -1 ≤ k ∧ k < u.length ∧ i = .int .i64 k ∧ v = .int .u64 (num (u.drop (k + 1).toNat) : Int)) (fun _ i => (intOf i + 1).toNat)
    case atStart => exact ⟨(k : Int) - 1, by omega, by omega, rfl, by simp [← HU, num]⟩
    case round =>
      obtain ⟨i, hi, hil, rfl, rfl⟩ := hrel
      clear HU
      by_cases h0 : 0 ≤ i
      · obtain ⟨m, rfl⟩ := Int.eq_ofNat_of_zero_le h0
        have hmu : m < u.length := by omega
        obtain ⟨x, hx⟩ : ∃ x, u[m]? = some x := ⟨_, List.getElem?_eq_getElem hmu⟩
        have hc := HC.out m x hx
        have hx8 := x.toNat_lt
        have e1 : ((m : Int) + 1).toNat = m + 1 := by omega
        have hd := num_drop u m x hx
        have hlt := num_drop_lt u (m + 1) hw8 (by omega)
        rw [e1]
        have HD := Lib.hid hd
        have hmk : m < k := by have := HW.out; omega
        clear hd e1 hx
        generalize num (u.drop (m + 1)) = q at *
        go_wp2
        go_round
        case rel =>
          refine ⟨(m : Int) - 1, by omega, by omega, rfl, ?_⟩
          have e2 : ((m : Int) - 1 + 1).toNat = m := by omega
          rw [e2, HD.out, or_byte _ _ hlt hx8]
        case measure => simp [intOf]
      · go_wp2
        go_ret2
        have e2 : (i + 1).toNat = 0 := by omega
        rw [e2, HG.out]
        exact ⟨rfl, rfl⟩
  · have hf' : fitB len at_ n = false := by simpa using hf
    have HG : Hid (getB l at_ n = 0) := Lib.hid (by simp [getB, hlen, hf'])
    clear hf hlen
    go_enter Try.func6, Try.ntmps6
    go_wp2_with (go_at_call 12; refine (hasAll_any _ _ _ _ _ _ hml).mono ?_; rintro e w' ⟨rfl, rfl⟩)
    go_ret2
    rw [HG.out, hf']
    exact ⟨rfl, rfl⟩

end Go.Proofs.Ytjagddakcffclaa
