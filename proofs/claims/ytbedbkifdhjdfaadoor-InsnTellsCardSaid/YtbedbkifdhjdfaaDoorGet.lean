/-
  Contract: le.Get: the number of the bytes from a place on.
-/
import Derived.Test.YtbedbkifdhjdfaaDoorLeaf
import Derived.Laws.BitsAllLaws
import Derived.Laws.Bits64
namespace Go.Proofs.YtbedbkifdhjdfaaDoor
open Go.RowKit

/-- 'v<<8 | x' where nothing is shifted out. -/
theorem or_byte (q x : Nat) (hq : q < 72057594037927936) (hx : x < 256) : bits .or .u64 ((q : Int) * 256) (x : Int) = ((x + 256 * q : Nat) : Int) := by
  rw [show (q : Int) * 256 = ((q * 256 : Nat) : Int) by omega, u64_or_nat _ _ (by omega) (by omega)]
  congr 1
  have h := Nat.two_pow_add_eq_or_of_lt (i := 8) (b := x) (by omega) q
  rw [show (2 : Nat) ^ 8 = 256 from rfl] at h
  rw [Nat.mul_comm q 256, ← h]
  omega

theorem get_any (p : Option Addr) (len cap : Nat) (l : List UInt8) (at_ n : Int) (w : World) (h : Has w p l) (hlen : l.length = len) (hcap : len ≤ cap) (hm : cap ≤ maxLen) :
    Calls Tryd.prog 25 #[.slice p len cap, .int .i64 at_, .int .i64 n] w fun e w' => e = .returned (.tuple #[.int .u64 (getB l at_ n : Int), .bool (fitB len at_ n)]) ∧ w = w' := by
  have hml : len ≤ maxLen := by omega
  unfold maxLen at hm
  by_cases hf : fitB len at_ n = true
  · obtain ⟨hn, h0, h1⟩ := (fitB_iff _ _ _).1 hf
    obtain ⟨j, rfl⟩ := Int.eq_ofNat_of_zero_le h0
    obtain ⟨k, rfl⟩ := Int.eq_ofNat_of_zero_le (show 0 ≤ n by omega)
    have hk8 : k ≤ 8 := by omega
    have hk1 : 1 ≤ k := by omega
    have hjk : j + k ≤ len := by omega
    have HG : Hid (getB l j k = num (win l j k)) := Lib.hid (by simp [getB, hlen, hf])
    have HF := Lib.hid hf
    have HW := Lib.hid (win_length l j k (by omega))
    have hw8 : (win l j k).length ≤ 8 := by rw [HW.out]; exact hk8
    obtain ⟨b, off, rfl, hcell⟩ := h.plain (by omega)
    have hg : ∀ i x, (win l j k)[i]? = some x → w.cell? ⟨b, off + (j + i), none⟩ = some (.int .u8 (x.toNat : Int)) := fun i x hx => by
      have hi : i < k := by have := (List.getElem?_eq_some_iff.1 hx).1; rw [HW.out] at this; exact this
      rw [win_get l j k i hi] at hx
      exact hcell _ _ hx
    have HC := Lib.hid hg
    generalize win l j k = u at *
    clear hn hlen h hcell hg
    go_enter Tryd.func25, Tryd.ntmps25
    go_wp2_with (go_at_call 26; refine (hasAll_any _ _ _ _ _ _ hml).mono ?_; rintro e w' ⟨rfl, rfl⟩)
    have HU := HW.out
    go_loop [8, 9] (fun v i => ∃ k : Int, -1 ≤ k ∧ k < u.length ∧ i = .int .i64 k ∧ v = .int .u64 (num (u.drop (k + 1).toNat) : Int)) (fun _ i => (intOf i + 1).toNat)
    case atStart => exact ⟨(k : Int) - 1, by omega, by omega, rfl, by simp [← HU, num]⟩
    case round =>
      obtain ⟨i, hi, hil, rfl, rfl⟩ := hrel
      clear HU
      by_cases h0 : 0 ≤ i
      · obtain ⟨m, rfl⟩ := Int.eq_ofNat_of_zero_le h0
        have hmu : m < u.length := by omega
        obtain ⟨x, hx⟩ : ∃ x, u[m]? = some x := ⟨_, List.getElem?_eq_getElem hmu⟩
        have hc := HC.out m x hx
        have hx8 := x.toNat_lt
        have e1 : ((m : Int) + 1).toNat = m + 1 := by omega
        have hd := num_drop u m x hx
        have hlt := num_drop_lt u (m + 1) hw8 (by omega)
        rw [e1]
        have HD := Lib.hid hd
        have hmk : m < k := by have := HW.out; omega
        clear hd e1 hx
        generalize num (u.drop (m + 1)) = q at *
        go_wp2
        go_round
        case rel =>
          refine ⟨(m : Int) - 1, by omega, by omega, rfl, ?_⟩
          have e2 : ((m : Int) - 1 + 1).toNat = m := by omega
          rw [e2, HD.out, or_byte _ _ hlt hx8]
        case measure => simp [intOf]
      · go_wp2
        go_ret2
        have e2 : (i + 1).toNat = 0 := by omega
        rw [e2, HG.out]
        exact ⟨rfl, rfl⟩
  · have hf' : fitB len at_ n = false := by simpa using hf
    have HG : Hid (getB l at_ n = 0) := Lib.hid (by simp [getB, hlen, hf'])
    clear hf hlen
    go_enter Tryd.func25, Tryd.ntmps25
    go_wp2_with (go_at_call 26; refine (hasAll_any _ _ _ _ _ _ hml).mono ?_; rintro e w' ⟨rfl, rfl⟩)
    go_ret2
    rw [HG.out, hf']
    exact ⟨rfl, rfl⟩

end Go.Proofs.YtbedbkifdhjdfaaDoor
