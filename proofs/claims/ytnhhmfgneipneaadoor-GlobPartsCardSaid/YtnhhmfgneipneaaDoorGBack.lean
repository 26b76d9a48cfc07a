/-
  The walk of GlobParts.
-/
import Derived.Test.YtnhhmfgneipneaaDoorGTells
namespace Go.Proofs.YtnhhmfgneipneaaDoor
open Go.RowKit

theorem lst_append (a b : ByteArray) : lst (a ++ b) = lst a ++ lst b := by simp
theorem size_append' (a b : ByteArray) : (a ++ b).size = a.size + b.size := by simp
def plainB (l : List UInt8) : Bool := l.all fun c => c != 42 && c != 63
theorem plain_step {l : List UInt8} {k : Nat} {c : UInt8} (h : l[k]? = some c) : plainB (l.take (k + 1)) = (plainB (l.take k) && (c != 42) && (c != 63)) := by
  unfold plainB
  rw [List.take_add_one, h, List.all_append]
  simp [Bool.and_assoc]
theorem u8_ne (x y : UInt8) : ((x.toNat : Int) != (y.toNat : Int)) = (x != y) := by
  rw [bne, u8_is]; rfl

set_option maxRecDepth 100000 in
set_option maxHeartbeats 2000000 in
theorem gback_walk (hf : GFitsOK) (ha : GAnyOK) (p q s t : ByteArray) (w : World) :
    Calls Tryd.prog 4 #[.string p, .string q, .string s, .string t] w fun e w' => e = .returned (.bool true) ∧ Below w.heap.size w w' := by
  have HUP := Lib.hid fun W => gup_any hf ha W
  by_cases hp : 100 < p.size
  · have hI : (100 : Int) < (p.size : Int) := by omega
    clear hf ha
    go_enter Tryd.func4, Tryd.ntmps4
    go_wp2_with fail
    refine (HUP.out _).mono ?_
    rintro e w1 ⟨rfl, hb1⟩
    go_wp2_with fail
    go_ret
    exact ⟨rfl, hb1⟩
  have hI1 : ¬ (100 : Int) < (p.size : Int) := by omega
  by_cases hq : 100 < q.size
  · have hI : (100 : Int) < (q.size : Int) := by omega
    clear hf ha
    go_enter Tryd.func4, Tryd.ntmps4
    go_wp2_with fail
    refine (HUP.out _).mono ?_
    rintro e w1 ⟨rfl, hb1⟩
    go_wp2_with fail
    go_ret
    exact ⟨rfl, hb1⟩
  have hI2 : ¬ (100 : Int) < (q.size : Int) := by omega
  by_cases hs : 100 < s.size
  · have hI : (100 : Int) < (s.size : Int) := by omega
    clear hf ha
    go_enter Tryd.func4, Tryd.ntmps4
    go_wp2_with fail
    refine (HUP.out _).mono ?_
    rintro e w1 ⟨rfl, hb1⟩
    go_wp2_with fail
    go_ret
    exact ⟨rfl, hb1⟩
  have hI3 : ¬ (100 : Int) < (s.size : Int) := by omega
  by_cases ht : 100 < t.size
  · have hI : (100 : Int) < (t.size : Int) := by omega
    clear hf ha
    go_enter Tryd.func4, Tryd.ntmps4
    go_wp2_with fail
    refine (HUP.out _).mono ?_
    rintro e w1 ⟨rfl, hb1⟩
    go_wp2_with fail
    go_ret
    exact ⟨rfl, hb1⟩
  have hI4 : ¬ (100 : Int) < (t.size : Int) := by omega
  have HF := Lib.hid hf
  obtain ⟨r, hr⟩ : ∃ r, r = fitR (lst p) (lst s) := ⟨_, rfl⟩
  have HF1 := Lib.hid fun W => hf p s W (by omega) (by omega)
  rw [← hr] at HF1
  have HR := Lib.hid hr
  clear hf ha hr
  go_enter Tryd.func4, Tryd.ntmps4
  go_wp2_with fail
  refine (HUP.out _).mono ?_
  rintro e w1 ⟨rfl, hb1⟩
  go_upto_region 4 with fail
  go_cut [67] (fun s67 wx => s67 = .bool false ∧ Below w.heap.size w wx)
  case first =>
    go_wp2_with fail
    refine (HF1.out _).mono ?_
    rintro e w2 ⟨rfl, hbb2⟩
    have hb2 : Below w.heap.size w w2 := hb1.trans (hbb2.mono hb1.size)
    clear hbb2
    cases r with
    | true =>
      have hp1 := HR.out.symm
      have HA : Hid (∀ W, Calls Tryd.prog 6 #[.string ({ data := #[42] } ++ p), .string (t ++ s)] W fun e w' => e = .returned (.bool true) ∧ Below W.heap.size W w') := Lib.hid fun W => by
        have := HF.out ({ data := #[42] } ++ p) (t ++ s) W (by rw [size_append', show ({ data := #[42] } : ByteArray).size = 1 from rfl]; omega) (by rw [size_append']; omega)
        rwa [lst_append, lst_append, show fitR (lst { data := #[42] } ++ lst p) (lst t ++ lst s) = true from fit_ahead (lst t) hp1] at this
      have HB : Hid (∀ W, Calls Tryd.prog 6 #[.string (p ++ { data := #[42] }), .string (s ++ t)] W fun e w' => e = .returned (.bool true) ∧ Below W.heap.size W w') := Lib.hid fun W => by
        have := HF.out (p ++ { data := #[42] }) (s ++ t) W (by rw [size_append', show ({ data := #[42] } : ByteArray).size = 1 from rfl]; omega) (by rw [size_append']; omega)
        rwa [lst_append, lst_append, show fitR (lst p ++ lst { data := #[42] }) (lst s ++ lst t) = true from fit_behind (lst t) hp1] at this
      obtain ⟨r2, hr2⟩ : ∃ r, r = fitR (lst q) (lst t) := ⟨_, rfl⟩
      have HC := Lib.hid fun W => HF.out q t W (by omega) (by omega)
      rw [← hr2] at HC
      go_wp2_with fail
      refine (HA.out _).mono ?_
      rintro e w3 ⟨rfl, hbb3⟩
      have hb3 : Below w.heap.size w w3 := hb2.trans (hbb3.mono hb2.size)
      clear hbb3
      go_wp2_with fail
      refine (HB.out _).mono ?_
      rintro e w4 ⟨rfl, hbb4⟩
      have hb4 : Below w.heap.size w w4 := hb3.trans (hbb4.mono hb3.size)
      clear hbb4
      go_wp2_with fail
      refine (HC.out _).mono ?_
      rintro e w5 ⟨rfl, hbb5⟩
      have hb5 : Below w.heap.size w w5 := hb4.trans (hbb5.mono hb4.size)
      clear hbb5
      cases r2 with
      | true =>
        have HD : Hid (∀ W, Calls Tryd.prog 6 #[.string (p ++ q), .string (s ++ t)] W fun e w' => e = .returned (.bool true) ∧ Below W.heap.size W w') := Lib.hid fun W => by
          have := HF.out (p ++ q) (s ++ t) W (by rw [size_append']; omega) (by rw [size_append']; omega)
          rwa [lst_append, lst_append, show fitR (lst p ++ lst q) (lst s ++ lst t) = true from fit_both hp1 hr2.symm] at this
        clear hr2 hp1
        go_wp2_with fail
        refine (HD.out _).mono ?_
        rintro e w6 ⟨rfl, hbb6⟩
        have hb6 : Below w.heap.size w w6 := hb5.trans (hbb6.mono hb5.size)
        clear hbb6
        go_wp2_with fail
        go_meet
        exact ⟨rfl, hb6⟩
      | false =>
        clear hr2 hp1
        go_wp2_with fail
        go_meet
        exact ⟨rfl, hb5⟩
    | false =>
      go_wp2_with fail
      go_meet
      exact ⟨rfl, hb2⟩
  case rest =>
    obtain ⟨rfl, hb2⟩ := hcut
    clear hb1
    go_wp2_with fail
    go_loop [10, 11] (fun r10 r11 => ∃ (k : Nat) (b : Bool), k ≤ p.size ∧ r11 = .int .i64 (k : Int) ∧ r10 = .bool b ∧ b = plainB ((lst p).take k)) (fun _ r11 => p.size - (intOf r11).toNat)
    case atStart => exact ⟨0, true, Nat.zero_le _, rfl, rfl, rfl⟩
    case round =>
      obtain ⟨k, b, hk, rfl, rfl, hpl⟩ := hrel
      have HPL := Lib.hid hpl
      clear hpl
      by_cases hlt : k < p.size
      · have hI : (k : Int) < (p.size : Int) := by omega
        have hst := plain_step (lst_at hlt)
        rw [← HPL.out, ← u8_ne, ← u8_ne] at hst
        have hst2 : plainB ((lst p).take (k + 1)) = (b && ((p[k].toNat : Int) != 42) && ((p[k].toNat : Int) != 63)) := hst
        clear hst
        cases b with
        | true =>
          cases hn1 : ((p[k].toNat : Int) != 42) with
          | true =>
            rw [hn1] at hst2
            have HST := Lib.hid hst2
            clear hst2
            go_wp2_with fail
            go_round
            case rel => exact ⟨k + 1, _, hlt, by go_num, rfl, by rw [HST.out]; rfl⟩
            case measure => simp [intOf]; omega
          | false =>
            rw [hn1] at hst2
            have HST := Lib.hid hst2
            clear hst2
            go_wp2_with fail
            go_round
            case rel => exact ⟨k + 1, _, hlt, by go_num, rfl, by rw [HST.out]; rfl⟩
            case measure => simp [intOf]; omega
        | false =>
          have HST := Lib.hid hst2
          clear hst2
          go_wp2_with fail
          go_round
          case rel => exact ⟨k + 1, _, hlt, by go_num, rfl, by rw [HST.out]; rfl⟩
          case measure => simp [intOf]; omega
      · have hI : ¬ (k : Int) < (p.size : Int) := by omega
        have hpa : b = plainB (lst p) := by
          have := HPL.out
          rwa [List.take_of_length_le (by simp; omega)] at this
        have HS1 : Hid (∀ W, Calls Tryd.prog 6 #[.string { data := #[42] }, .string s] W fun e w' => e = .returned (.bool true) ∧ Below W.heap.size W w') := Lib.hid fun W => by
          have := HF.out { data := #[42] } s W (by decide) (by omega)
          rwa [show fitR (lst { data := #[42] }) (lst s) = true from fit_star (lst s)] at this
        have HS2 : Hid (∀ W, Calls Tryd.prog 6 #[.string { data := #[63] }, .string s] W fun e w' => e = .returned (.bool ((s.size : Int) == 1)) ∧ Below W.heap.size W w') := Lib.hid fun W => by
          have := HF.out { data := #[63] } s W (by decide) (by omega)
          have e : fitR (lst { data := #[63] }) (lst s) = ((s.size : Int) == 1) := by
            rw [show fitR (lst { data := #[63] }) (lst s) = decide ((lst s).length = 1) from fit_ask (lst s), show (lst s).length = s.size by simp, Bool.eq_iff_iff, decide_eq_true_iff, beq_iff_eq]
            omega
          rwa [e] at this
        have HS3 : Hid (∀ W, Calls Tryd.prog 6 #[.string { data := #[] }, .string s] W fun e w' => e = .returned (.bool s.toList.isEmpty) ∧ Below W.heap.size W w') := Lib.hid fun W => by
          have := HF.out { data := #[] } s W (by decide) (by omega)
          have e : fitR (lst { data := #[] }) (lst s) = s.toList.isEmpty := by
            rw [ByteArray.toList_eq]; rfl
          rwa [e] at this
        cases b with
        | true =>
          have hrd : (r == (p.toList == s.toList)) = true := by
            have hpl : ∀ c ∈ lst p, c ≠ 42 ∧ c ≠ 63 := fun c hc => by
              have := List.all_eq_true.1 (hpa.symm) c hc
              simpa using this
            rw [HR.out, fit_plain hpl, ByteArray.toList_eq, ByteArray.toList_eq]
            show (decide (lst p = lst s) == (lst p == lst s)) = true
            generalize lst p = a
            generalize lst s = c
            by_cases e : a = c
            · subst e; simp
            · simp [e]
          clear hpa
          go_wp2_with fail
          refine (HF1.out _).mono ?_
          rintro e w2 ⟨rfl, hbb2⟩
          have hb3 : Below w.heap.size w w2 := hb2.trans (hbb2.mono hb2.size)
          clear hbb2
          go_wp2_with fail
          refine (HS1.out _).mono ?_
          rintro e w3 ⟨rfl, hbb3⟩
          have hb4 : Below w.heap.size w w3 := hb3.trans (hbb3.mono hb3.size)
          clear hbb3
          go_wp2_with fail
          refine (HS2.out _).mono ?_
          rintro e w4 ⟨rfl, hbb4⟩
          have hb5 : Below w.heap.size w w4 := hb4.trans (hbb4.mono hb4.size)
          clear hbb4
          go_wp2_with fail
          refine (HS3.out _).mono ?_
          rintro e w5 ⟨rfl, hbb5⟩
          have hb6 : Below w.heap.size w w5 := hb5.trans (hbb5.mono hb5.size)
          clear hbb5
          go_wp2_with fail
          go_ret
          exact ⟨rfl, hb6⟩
        | false =>
          clear hpa
          go_wp2_with fail
          refine (HS1.out _).mono ?_
          rintro e w3 ⟨rfl, hbb3⟩
          have hb4 : Below w.heap.size w w3 := hb2.trans (hbb3.mono hb2.size)
          clear hbb3
          go_wp2_with fail
          refine (HS2.out _).mono ?_
          rintro e w4 ⟨rfl, hbb4⟩
          have hb5 : Below w.heap.size w w4 := hb4.trans (hbb4.mono hb4.size)
          clear hbb4
          go_wp2_with fail
          refine (HS3.out _).mono ?_
          rintro e w5 ⟨rfl, hbb5⟩
          have hb6 : Below w.heap.size w w5 := hb5.trans (hbb5.mono hb5.size)
          clear hbb5
          go_wp2_with fail
          go_ret
          exact ⟨rfl, hb6⟩

end Go.Proofs.YtnhhmfgneipneaaDoor
