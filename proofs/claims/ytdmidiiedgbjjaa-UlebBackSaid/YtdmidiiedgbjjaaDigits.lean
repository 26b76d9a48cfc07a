/-
  Contract: the reference's Digits: the number that begins at a place, and how many bytes it has.
-/
import Derived.Test.YtdmidiiedgbjjaaUlebWords
import Derived.Test.YtdmidiiedgbjjaaChecked
import Derived.LoopTactic
import Derived.Lib.Hide
import Derived.Outline
namespace Go.Proofs.Ytdmidiiedgbjjaa
open Go.RowKit

/-- How far the digits above 127 go. -/
theorem scan : ∀ (f : Nat) (l : List UInt8), ∃ k, k ≤ f ∧ k ≤ l.length ∧ (∀ i y, i < k → l[i]? = some y → 128 ≤ y.toNat) ∧ (k = f ∨ l.length = k ∨ ∃ x, l[k]? = some x ∧ x.toNat < 128)
  | 0, l => ⟨0, Nat.le_refl _, Nat.zero_le _, fun i y h => absurd h (by omega), .inl rfl⟩
  | f + 1, [] => ⟨0, Nat.zero_le _, Nat.le_refl _, fun i y h => absurd h (by omega), .inr (.inl rfl)⟩
  | f + 1, x :: r => by
    by_cases hx : x.toNat < 128
    · exact ⟨0, Nat.zero_le _, Nat.zero_le _, fun i y h => absurd h (by omega), .inr (.inr ⟨x, rfl, hx⟩)⟩
    · obtain ⟨k, h1, h2, h3, h4⟩ := scan f r
      refine ⟨k + 1, by omega, by simpa using h2, fun i y hi hy => ?_, ?_⟩
      · match i, hy with
        | 0, hy => simp at hy; subst hy; omega
        | i + 1, hy => exact h3 i y (by omega) (by simpa using hy)
      · rcases h4 with h4 | h4 | ⟨z, hz, hz'⟩
        · exact .inl (by omega)
        · exact .inr (.inl (by simpa using h4))
        · exact .inr (.inr ⟨z, by simpa using hz, hz'⟩)

/-- What Digits tells. -/
def digV (l : List UInt8) : Nat × Nat := (digs5 l).getD (0, 0)

theorem digV_miss {l : List UInt8} {k : Nat} (h : k = 5 ∨ l.length = k) (hk : k ≤ 5) (hb : ∀ i y, i < k → l[i]? = some y → 128 ≤ y.toNat) : digV l = (0, 0) := by
  simp [digV, digs5, digs_miss 5 k l h hk hb]
theorem digV_hit {l : List UInt8} {k : Nat} {x : UInt8} (hk : k < 5) (hb : ∀ i y, i < k → l[i]? = some y → 128 ≤ y.toNat) (hx : l[k]? = some x) (hx' : x.toNat < 128) :
    digV l = if dval (l.take (k + 1)) ≤ 2147483647 then (dval (l.take (k + 1)), k + 1) else (0, 0) := by
  have h := digs_hit 5 k l x hk hb hx hx'
  simp only [digV, digs5, h]
  split <;> rfl

theorem ret_ii {a b c d : Int} (h : a = c) (k : b = d) : Ending.returned (.tuple #[.int .i64 a, .int .i64 b]) = .returned (.tuple #[.int .i64 c, .int .i64 d]) := by rw [h, k]

theorem digits_out (p : Option Addr) (len cap : Nat) (at_ : Int) (w : World) (h : at_ < 0 ∨ (len : Int) ≤ at_) :
    Calls Try.prog 7 #[.slice p len cap, .int .i64 at_] w fun e w' => e = .returned (.tuple #[.int .i64 0, .int .i64 0]) ∧ w = w' := by
  by_cases h0 : at_ < 0
  · clear h
    go_enter Try.func7, Try.ntmps7
    go_wp2
    go_ret2
    exact ⟨rfl, rfl⟩
  · have h1 : (len : Int) ≤ at_ := h.resolve_left h0
    clear h
    go_enter Try.func7, Try.ntmps7
    go_wp2
    go_ret2
    exact ⟨rfl, rfl⟩

theorem take_drop_comm' (l : List UInt8) (a k : Nat) : (l.take (a + k + 1)).drop a = (l.drop a).take (k + 1) := by
  rw [List.drop_take]
  congr 1
  omega

set_option maxHeartbeats 1000000 in
theorem digits_in (p : Option Addr) (len cap : Nat) (l : List UInt8) (a : Nat) (w : World) (h : Has w p l) (hlen : l.length = len) (ha : a < len) (hbig : len ≤ 1000000000) :
    Calls Try.prog 7 #[.slice p len cap, .int .i64 a] w fun e w' => e = .returned (.tuple #[.int .i64 ((digV (l.drop a)).1 : Int), .int .i64 ((digV (l.drop a)).2 : Int)]) ∧ w = w' := by
  obtain ⟨k, hk5, hkl, hb, hend⟩ := scan 5 (l.drop a)
  have hld : (l.drop a).length = len - a := by rw [List.length_drop, hlen]
  obtain ⟨e, he⟩ : ∃ e, e = a + k := ⟨_, rfl⟩
  have hel : e ≤ len := by omega
  have hae : a ≤ e := by omega
  have hea : e ≤ a + k := by omega
  have heg : a + k ≤ e := by omega
  obtain ⟨b, off, rfl, hcell⟩ := h.plain (by omega)
  have HC := Lib.hid hcell
  have HB := Lib.hid hb
  have HE := Lib.hid hend
  have HL := Lib.hid hlen
  have HD := Lib.hid hld
  have HK := Lib.hid he
  clear h hcell hb hend hkl hlen hld he
  go_enter Try.func7, Try.ntmps7
  go_wp2
  go_loop [6] (fun n => ∃ s : Nat, a ≤ s ∧ s ≤ e ∧ n = .int .i64 (s : Int)) (fun n => e - (intOf n).toNat)
  case atStart => exact ⟨a, Nat.le_refl _, hae, rfl⟩
  case round =>
    obtain ⟨s, hs1, hs2, rfl⟩ := hrel
    by_cases hse : s < e
    · obtain ⟨y, hy⟩ : ∃ y, l[s]? = some y := ⟨_, List.getElem?_eq_getElem (by have := HL.out; omega)⟩
      have hc := HC.out _ _ hy
      have hy1 : 128 ≤ y.toNat := HB.out (s - a) y (by omega) (by rw [List.getElem?_drop, show a + (s - a) = s by omega]; exact hy)
      have hy2 := y.toNat_lt
      have hI1 : (s : Int) < (len : Int) := by omega
      have hI2 : (s : Int) < (a : Int) + 5 := by omega
      have hI3 : (127 : Int) < (y.toNat : Int) := by omega
      clear hy
      go_wp2
      go_round
      case rel => exact ⟨s + 1, by omega, by omega, by go_num⟩
      case measure => simp [intOf]; omega
    · obtain rfl : s = e := by omega
      by_cases hq : s = len
      · have HV : Hid (digV (l.drop a) = (0, 0)) := Lib.hid (digV_miss (k := k) (.inr (by have := HD.out; have := HK.out; omega)) hk5 HB.out)
        have t1 : ((s : Int) == (len : Int)) = true := by simp; omega
        have t2 : ¬ (s : Int) < (len : Int) := by omega
        clear hq
        go_wp2
        go_ret2
        rw [HV.out]
        exact ⟨rfl, rfl⟩
      have t1 : ((s : Int) == (len : Int)) = false := by simp; omega
      have t2 : (s : Int) < (len : Int) := by omega
      by_cases hk : k = 5
      · have HV : Hid (digV (l.drop a) = (0, 0)) := Lib.hid (digV_miss (k := k) (.inl hk) hk5 HB.out)
        have t3 : ¬ (s : Int) < (a : Int) + 5 := by omega
        have t4 : ((s : Int) == (a : Int) + 5) = true := by simp; omega
        clear hq hk
        go_wp2
        go_ret2
        rw [HV.out]
        exact ⟨rfl, rfl⟩
      obtain ⟨x, hx, hx8⟩ : ∃ x, (l.drop a)[k]? = some x ∧ x.toNat < 128 := by
        rcases HE.out with h1 | h1 | h1
        · exact absurd h1 hk
        · exact absurd (show s = len by have := HD.out; have := HK.out; omega) hq
        · exact h1
      have hc := HC.out s x (by rw [List.getElem?_drop, ← HK.out] at hx; exact hx)
      have HV := Lib.hid (digV_hit (by omega) HB.out hx hx8)
      have HT : Hid ((l.take (s + 1)).drop a = (l.drop a).take (k + 1)) := Lib.hid (by rw [HK.out]; exact take_drop_comm' l a k)
      have t3 : (s : Int) < (a : Int) + 5 := by omega
      have t4 : ((s : Int) == (a : Int) + 5) = false := by simp; omega
      have t5 : ¬ (127 : Int) < (x.toNat : Int) := by omega
      clear hq hk hx
      go_wp2
      go_loop [7, 8] (fun v i => ∃ t : Int, (a : Int) - 1 ≤ t ∧ t ≤ s ∧ i = .int .i64 t ∧ v = .int .i64 (dval ((l.take (s + 1)).drop (t + 1).toNat) : Int)) (fun _ i => (intOf i + 1 - a).toNat)
      case atStart => exact ⟨s, by omega, by omega, rfl, by rw [show ((s : Int) + 1).toNat = s + 1 by omega, List.drop_of_length_le (by simp; omega)]; rfl⟩
      case round =>
        obtain ⟨t, ht1, ht2, rfl, rfl⟩ := hrel
        clear hc
        by_cases hta : (a : Int) ≤ t
        · obtain ⟨m, rfl⟩ := Int.eq_ofNat_of_zero_le (show 0 ≤ t by omega)
          obtain ⟨z, hz⟩ : ∃ z, l[m]? = some z := ⟨_, List.getElem?_eq_getElem (by have := HL.out; omega)⟩
          have hz2 : (l.take (s + 1))[m]? = some z := by rw [List.getElem?_take, if_pos (by omega)]; exact hz
          have hd := dval_drop _ m z hz2
          have hlt := dval_lt ((l.take (s + 1)).drop (m + 1))
          have hl4 : ((l.take (s + 1)).drop (m + 1)).length ≤ 4 := by simp; omega
          have h128 : 128 ^ ((l.take (s + 1)).drop (m + 1)).length ≤ 128 ^ 4 := Nat.pow_le_pow_right (by omega) hl4
          have e4 : (128 : Nat) ^ 4 = 268435456 := by decide
          have hq28 : dval ((l.take (s + 1)).drop (m + 1)) < 268435456 := by omega
          have hcz := HC.out m z hz
          have hz8 := z.toNat_lt
          have e1 : ((m : Int) + 1).toNat = m + 1 := by omega
          rw [e1]
          have HDD := Lib.hid hd
          clear hd hz hz2 hlt hl4 h128 e4 e1
          generalize dval ((l.take (s + 1)).drop (m + 1)) = q at *
          go_wp2
          go_round
          case rel =>
            refine ⟨(m : Int) - 1, by omega, by omega, rfl, ?_⟩
            have e2 : ((m : Int) - 1 + 1).toNat = m := by omega
            rw [e2, HDD.out]
            congr 1
            omega
          case measure => simp [intOf]; omega
        · have e2 : (t + 1).toNat = a := by omega
          rw [e2, HT.out]
          have HVV := HV
          clear HV HT HB HE HC HD
          generalize dval ((l.drop a).take (k + 1)) = q at *
          by_cases hq : q ≤ 2147483647
          · rw [if_pos hq] at HVV
            have hqI : ¬ (2147483647 : Int) < (q : Int) := by omega
            go_wp2
            go_ret2
            rw [HVV.out]
            exact ⟨ret_ii rfl (by omega), rfl⟩
          · rw [if_neg hq] at HVV
            have hqI : (2147483647 : Int) < (q : Int) := by omega
            go_wp2
            go_ret2
            rw [HVV.out]
            exact ⟨rfl, rfl⟩

end Go.Proofs.Ytdmidiiedgbjjaa
