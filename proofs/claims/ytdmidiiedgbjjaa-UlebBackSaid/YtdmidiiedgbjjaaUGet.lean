/-
  Contracts: uleb.whole and uleb.Get: the number that begins at a place, and the place behind it.
-/
import Derived.Test.YtdmidiiedgbjjaaDigits
import Derived.Deep.DeepCutAuto
namespace Go.Proofs.Ytdmidiiedgbjjaa
open Go.RowKit

/-- What a Get of two numbers and a bool tells. -/
abbrev got (a b : Int) (ok : Bool) : Ending := .returned (.tuple #[.int .i64 a, .int .i64 b, .bool ok])

theorem whole_yes (v : Nat) (next : Int) (w : World) (h : v ≤ 2147483647) :
    Calls Try.prog 13 #[.int .u64 v, .int .i64 next] w fun e w' => e = got v next true ∧ w = w' := by
  have hI : ¬ (2147483647 : Int) < (v : Int) := by omega
  go_enter Try.func13, Try.ntmps13
  go_wp2
  go_ret3
  exact ⟨rfl, rfl⟩
theorem whole_no (v : Nat) (next : Int) (w : World) (h : 2147483647 < v) :
    Calls Try.prog 13 #[.int .u64 v, .int .i64 next] w fun e w' => e = got 0 0 false ∧ w = w' := by
  have hI : (2147483647 : Int) < (v : Int) := by omega
  go_enter Try.func13, Try.ntmps13
  go_wp2
  go_ret3
  exact ⟨rfl, rfl⟩

theorem uget_out (p : Option Addr) (len cap : Nat) (at_ : Int) (w : World) (h : at_ < 0 ∨ (len : Int) ≤ at_) :
    Calls Try.prog 6 #[.slice p len cap, .int .i64 at_] w fun e w' => e = got 0 0 false ∧ w = w' := by
  by_cases h0 : at_ < 0
  · clear h
    go_enter Try.func6, Try.ntmps6
    go_wp2
    go_ret3
    exact ⟨rfl, rfl⟩
  · have h1 : (len : Int) ≤ at_ := h.resolve_left h0
    clear h
    go_enter Try.func6, Try.ntmps6
    go_wp2
    go_ret3
    exact ⟨rfl, rfl⟩

theorem dval_snoc : ∀ (l : List UInt8) (x : UInt8), dval (l ++ [x]) = dval l + (x.toNat % 128) * 128 ^ l.length
  | [], x => by simp [dval]
  | y :: r, x => by
    have h := dval_snoc r x
    simp only [List.cons_append, dval, h, List.length_cons, Nat.pow_succ, Nat.mul_add]
    rw [Nat.add_assoc]
    congr 1
    rw [Nat.mul_comm (128 ^ r.length) 128, ← Nat.mul_assoc, ← Nat.mul_assoc, Nat.mul_comm 128 (x.toNat % 128)]

theorem dval_take (l : List UInt8) (k : Nat) (x : UInt8) (h : l[k]? = some x) : dval (l.take (k + 1)) = dval (l.take k) + (x.toNat % 128) * 128 ^ k := by
  have hk : k < l.length := (List.getElem?_eq_some_iff.1 h).1
  rw [List.take_succ_eq_append_getElem hk, (List.getElem?_eq_some_iff.1 h).2, dval_snoc, List.length_take, Nat.min_eq_left (by omega)]

/-- What Get tells of the digits d that stand at a. -/
def ugot (d : List UInt8) (a : Nat) : Ending :=
  match digs5 d with
  | some (v, u) => got v ((a : Int) + u) true
  | none => got 0 0 false

theorem ugot_miss {d : List UInt8} {k : Nat} (a : Nat) (h : k = 5 ∨ d.length = k) (hk : k ≤ 5) (hb : ∀ i y, i < k → d[i]? = some y → 128 ≤ y.toNat) : ugot d a = got 0 0 false := by
  simp [ugot, digs5, digs_miss 5 k d h hk hb]
theorem ugot_hit {d : List UInt8} {k : Nat} {x : UInt8} (a : Nat) (hk : k < 5) (hb : ∀ i y, i < k → d[i]? = some y → 128 ≤ y.toNat) (hx : d[k]? = some x) (hx' : x.toNat < 128) :
    ugot d a = if dval (d.take (k + 1)) ≤ 2147483647 then got (dval (d.take (k + 1))) ((a : Int) + k + 1) true else got 0 0 false := by
  have h := digs_hit 5 k d x hk hb hx hx'
  simp only [ugot, digs5, h]
  by_cases hq : dval (d.take (k + 1)) ≤ 2147483647
  · simp only [if_pos hq]
    rw [show (a : Int) + ((k + 1 : Nat) : Int) = (a : Int) + k + 1 by omega]
  · simp only [if_neg hq]

theorem pow_le (k : Nat) (h : k ≤ 4) : 128 ^ k ≤ 268435456 := by
  have h2 : 128 ^ k ≤ 128 ^ 4 := Nat.pow_le_pow_right (by omega) h
  have e : (128 : Nat) ^ 4 = 268435456 := by decide
  omega
theorem mul_bd {a b : Nat} (h : a < 128) (hb : b ≤ 268435456) : a * b ≤ 34091302912 := by
  have : a * b ≤ 127 * 268435456 := Nat.mul_le_mul (by omega) hb
  omega

set_option maxRecDepth 100000 in
set_option maxHeartbeats 1000000 in
theorem uget_in (p : Option Addr) (len cap : Nat) (l : List UInt8) (a : Nat) (w : World) (h : Has w p l) (hlen : l.length = len) (ha : a < len) (hcap : len ≤ cap) (hbig : len ≤ 1000000000) :
    Calls Try.prog 6 #[.slice p len cap, .int .i64 a] w fun e w' => e = ugot (l.drop a) a ∧ w = w' := by
  have hld : (l.drop a).length = len - a := by rw [List.length_drop, hlen]
  obtain ⟨d, hd⟩ : ∃ d, d = l.drop a := ⟨_, rfl⟩
  rw [← hd] at hld ⊢
  obtain ⟨b, off, rfl, hcell⟩ := h.plain (by omega)
  have HC : Hid (∀ i x, d[i]? = some x → w.cell? ⟨b, off + a + i, none⟩ = some (.int .u8 (x.toNat : Int))) := Lib.hid fun i x hx => by
    rw [hd, List.getElem?_drop] at hx
    rw [Nat.add_assoc]
    exact hcell _ _ hx
  obtain ⟨m, hm1⟩ : ∃ m, m = min (len - a) 5 := ⟨_, rfl⟩
  have hm5 : m ≤ 5 := by omega
  have hml : m ≤ len - a := by omega
  have hcj : ¬ cap = a := by omega
  have hmin : min ((len : Int) - (a : Int)) 5 = (m : Int) := by omega
  have HM : Hid (m = 5 ∨ d.length = m) := Lib.hid (by omega)
  have HD : Hid (m ≤ d.length) := Lib.hid (by omega)
  clear h hcell hlen hld hd hm1
  go_enter Try.func6, Try.ntmps6
  go_upto_region 4 with fail
  go_cut [7] (fun s7 wx => s7 = .slice (some ⟨b, off + a, none⟩) m (cap - a) ∧ w = wx)
  case first =>
    go_wp2
    all_goals
      go_meet
      refine ⟨?_, rfl⟩
      congr 1
      omega
  case rest =>
    obtain ⟨rfl, rfl⟩ := hcut
    clear hmin
    go_wp2
    go_loop [8, 9, 30] (fun n q i => ∃ k : Nat, k ≤ m ∧ i = .int .i64 (k : Int) ∧ q = .int .u64 ((128 ^ k : Nat) : Int) ∧ n = .int .u64 (dval (d.take k) : Int) ∧ (∀ j y, j < k → d[j]? = some y → 128 ≤ y.toNat)) (fun _ _ i => m - (intOf i).toNat)
    case atStart => exact ⟨0, Nat.zero_le _, rfl, rfl, rfl, fun j y hj => absurd hj (by omega)⟩
    case round =>
      obtain ⟨k, hk, rfl, rfl, rfl, hb⟩ := hrel
      have HB := Lib.hid hb
      clear hb
      by_cases hlt : k < m
      · obtain ⟨x, hx⟩ : ∃ x, d[k]? = some x := ⟨_, List.getElem?_eq_getElem (by have := HD.out; omega)⟩
        have hc := HC.out k x hx
        have hx8 := x.toNat_lt
        have hpw := pow_le k (by omega)
        have hdt := dval_take d k x hx
        have hlt2 := dval_lt (d.take k)
        have hl4 : (d.take k).length ≤ k := List.length_take_le _ _
        have hpp : 128 ^ (d.take k).length ≤ 128 ^ k := Nat.pow_le_pow_right (by omega) hl4
        have hmb := mul_bd (a := x.toNat % 128) (by omega) hpw
        have HP : Hid (128 ^ (k + 1) = 128 ^ k * 128) := Lib.hid (Nat.pow_succ _ _)
        have HX := Lib.hid hx
        have HT := Lib.hid hdt
        have hq : dval (d.take k) ≤ 268435456 := by omega
        clear hx hdt hlt2 hl4 hpp
        generalize hr : 128 ^ k = r at *
        have hmI : (x.toNat : Int) % 128 * (r : Int) ≤ 34091302912 := by
          rw [show (x.toNat : Int) % 128 * (r : Int) = ((x.toNat % 128 * r : Nat) : Int) by simp]
          omega
        have hmJ : 0 ≤ (x.toNat : Int) % 128 * (r : Int) := Int.mul_nonneg (by omega) (by omega)
        have HR : Hid (128 ^ k = r) := Lib.hid hr
        clear hr hmb
        by_cases h8 : x.toNat < 128
        · have hI : (x.toNat : Int) < 128 := by omega
          have HV := Lib.hid (ugot_hit a (by omega) HB.out HX.out h8)
          have HE : Hid ((dval (d.take k) : Int) + (x.toNat : Int) % 128 * (r : Int) = (dval (d.take (k + 1)) : Int)) := Lib.hid (by rw [HT.out]; simp)
          by_cases hv : dval (d.take (k + 1)) ≤ 2147483647
          · have HW := Lib.hid fun W => whole_yes (dval (d.take (k + 1))) ((a : Int) + k + 1) W hv
            rw [if_pos hv] at HV
            rw [← HE.out] at HW
            clear hv
            generalize dval (d.take k) = q at *
            go_wp2_with fail
            refine (HW.out _).mono ?_
            rintro e w' ⟨rfl, rfl⟩
            go_wp2_with fail
            go_ret3
            rw [HV.out, ← HE.out]
            exact ⟨rfl, rfl⟩
          · have HW := Lib.hid fun W => whole_no (dval (d.take (k + 1))) ((a : Int) + k + 1) W (by omega)
            rw [if_neg hv] at HV
            rw [← HE.out] at HW
            clear hv
            generalize dval (d.take k) = q at *
            go_wp2_with fail
            refine (HW.out _).mono ?_
            rintro e w' ⟨rfl, rfl⟩
            go_wp2_with fail
            go_ret3
            rw [HV.out]
            exact ⟨rfl, rfl⟩
        · have hI : ¬ (x.toNat : Int) < 128 := by omega
          have HB2 : Hid (∀ j y, j < k + 1 → d[j]? = some y → 128 ≤ y.toNat) := Lib.hid fun j y hj hy => by
            by_cases e : j = k
            · subst e
              rw [HX.out] at hy
              cases hy
              omega
            · exact HB.out j y (by omega) hy
          generalize dval (d.take k) = q at *
          go_wp2_with fail
          go_round
          case rel => exact ⟨k + 1, by omega, by go_num, by rw [HP.out]; go_num, by rw [HT.out]; go_num, HB2.out⟩
          case measure => simp [intOf]; omega
      · obtain rfl : k = m := by omega
        have HV : Hid (ugot d a = got 0 0 false) := Lib.hid (ugot_miss a HM.out hm5 HB.out)
        generalize dval (d.take k) = q at *
        generalize 128 ^ k = r at *
        go_wp2
        go_ret3
        rw [HV.out]
        exact ⟨rfl, rfl⟩

end Go.Proofs.Ytdmidiiedgbjjaa
