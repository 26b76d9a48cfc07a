/-
  The walk of LeBack.
-/
import Derived.Test.YtjagddakcffclaaBackParts
import Derived.Test.YtjagddakcffclaaBackNone
import Derived.Deep.RegionHeld
import Derived.Deep.QuietTactic
import Derived.BigQuiet
namespace Go.Proofs.Ytjagddakcffclaa
open Go.RowKit

set_option maxRecDepth 100000 in
set_option maxHeartbeats 4000000 in
theorem back_walk (p : Option Addr) (len cap : Nat) (l : List UInt8) (at_ other : Int) (n v : Nat) (w : World) (h : Has w p l) (hlen : l.length = len) (hcap : len ≤ cap) (hm : cap ≤ maxLen) (hp : p = none → cap = 0) (hv : v < 18446744073709551616)
    (ha0 : -9223372036854775808 ≤ at_) (ha1 : at_ ≤ 9223372036854775807) (hbig : len ≤ 10000) (hn : wid n = true) :
    Calls Try.prog 4 #[.slice p len cap, .int .i64 at_, .int .i64 n, .int .u64 v, .int .i64 other] w fun e w' => e = .returned (.bool true) ∧ Below w.heap.size w w' := by
  have hn' := (wid_iff _).1 hn
  have hn1 : 1 ≤ n := by omega
  have hn8 : n ≤ 8 := by omega
  obtain ⟨x, hx⟩ : ∃ x, x = v % 256 ^ n := ⟨_, rfl⟩
  have HX := Lib.hid hx
  have HN := Lib.hid hn'
  have HV := Lib.hid hv
  have HP := Lib.hid fun W => put_has v n W hv hn
  have HL := Lib.hid fun W (hb : Below w.heap.size w W) => lay_has p len cap l at_ n v W (h.below hb) hlen hcap hp (by omega) hv
  have HG := Lib.hid fun (q : Option Addr) (c : Nat) (W : World) (hq : Has W q (leB n v)) (h1 : n ≤ c) (h2 : c ≤ maxLen) => get_put q c n v W hq hn h1 h2
  rw [← hx] at HG
  have hbI : ¬ (10000 : Int) < (len : Int) := by omega
  clear hn hn' hx
  go_enter Try.func4, Try.ntmps4
  go_wp2_with fail
  refine (up_any _).mono ?_
  rintro e w1 ⟨rfl, hb1⟩
  go_upto_region 2 with fail
  go_cut [39] (fun s39 wx => s39 = .bool false ∧ w1 = wx)
  case first =>
    rcases HN.out with hn | hn | hn | hn
    all_goals
      obtain rfl : n = _ := Int.ofNat.inj hn
      go_wp2_with fail
      go_meet
      exact ⟨by simp; omega, rfl⟩
  case rest =>
    obtain ⟨rfl, rfl⟩ := hcut
    go_upto_region 6 with (first | (go_at_call 10; refine (HP.out _).mono ?_; rintro e w2 ⟨p2, c2, rfl, hl2, hnc2, hcm2, hH2, hb2⟩; have hb12 : Below w.heap.size w w2 := hb1.trans (hb2.mono hb1.size); have HL2 := Lib.hid hl2; have HH2 := Lib.hid hH2; clear hl2 hH2 hb2 hb1) | (go_at_call 6; refine (HG.out _ _ _ HH2.out hnc2 hcm2).mono ?_; rintro e w' ⟨rfl, rfl⟩))
    go_cut [79] (fun s79 wx => s79 = .bool false ∧ w2 = wx)
    case first =>
      rcases HN.out with hn | hn | hn | hn
      · obtain rfl : n = _ := Int.ofNat.inj hn
        have m1 := mod1 HX.out
        go_wp2_with fail
        go_meet
        exact ⟨rfl, rfl⟩
      · obtain rfl : n = _ := Int.ofNat.inj hn
        have m1 := mod2 HX.out
        go_wp2_with fail
        go_meet
        exact ⟨rfl, rfl⟩
      · obtain rfl : n = _ := Int.ofNat.inj hn
        have m1 := mod4 HX.out
        go_wp2_with fail
        go_meet
        exact ⟨rfl, rfl⟩
      · obtain rfl : n = _ := Int.ofNat.inj hn
        have m1 := mod8 HV.out HX.out
        go_wp2_with fail
        go_meet
        exact ⟨rfl, rfl⟩
    case rest =>
      obtain ⟨rfl, rfl⟩ := hcut
      go_wp2_with fail
      refine (HL.out _ hb12).mono ?_
      rintro e w3 ⟨p3, c3, rfl, hl3, hnc3, hcm3, hH3, hb3⟩
      have hb13 : Below w.heap.size w w3 := hb12.trans (hb3.mono hb12.size)
      have HL3 := Lib.hid hl3
      have HH3 := Lib.hid hH3
      have HLen := Lib.hid hlen
      have hll : ((len : Int) != (len : Int)) = false := by simp
      have hlenI : (len : Int) ≤ 10000 := by omega
      clear hl3 hH3 hb3 hb12 hlen
      by_cases hin : 0 ≤ at_ ∧ at_ ≤ (len : Int) - n
      · obtain ⟨h0, h1⟩ := hin
        obtain ⟨j, rfl⟩ := Int.eq_ofNat_of_zero_le h0
        have hf : fitB len j n = true := (fitB_iff _ _ _).2 ⟨HN.out, h0, h1⟩
        have hjn : j + n ≤ len := by omega
        have HLB : Hid (layB l j n v = l.take j ++ (leB n v ++ l.drop (j + n))) := Lib.hid (by simp [layB, HLen.out, hf])
        have HG3 := Lib.hid (got_laid hf HLen.out hjn HX.out HLB.out (get_any p3 len c3 _ j n w3 HH3.out HL3.out hnc3 hcm3))
        obtain ⟨o, ho⟩ : ∃ o, o = num (win l j n) := ⟨_, rfl⟩
        have HGo := Lib.hid (got_old hf HLen.out ho (get_any p len cap l j n w3 (h.below hb13) HLen.out hcap hm))
        have HPo := Lib.hid fun W => put_old HLen.out hjn HN.out ho W
        obtain ⟨b0, off, rfl, hcell⟩ := h.plain (by have := HLen.out; omega)
        obtain ⟨N0, hN0⟩ : ∃ N0, N0 = w.heap.size := ⟨_, rfl⟩
        have hcs := conv_win (cap := cap) h HLen.out hjn hN0
        have hb03 : Below N0 w w3 := by rw [hN0]; exact hb13
        have hb03d := hb03.drew
        have HN0 := Lib.hid hN0
        have HC := Lib.hid hcell
        have hxx : ((x : Int) != (x : Int)) = false := by simp
        have hjl : j ≤ len := by omega
        have hjI : (j : Int) ≤ (len : Int) := by omega
        have hcj : ¬ cap = j := by omega
        clear hp h hcell hN0 ho hf h1 h0
        go_upto_region 15 with (first | (go_at_call_of 6 (Value.slice p3 len c3); refine HG3.out.mono ?_; rintro e w' ⟨rfl, rfl⟩) | (go_at_call_of 6 (Value.slice (some ⟨b0, off, none⟩) len cap); refine HGo.out.mono ?_; rintro e w' ⟨rfl, rfl⟩))
        go_cut [146] (fun s146 wx => s146 = .bool false ∧ Below w.heap.size w wx ∧ Below w3.heap.size w3 wx)
        case first =>
          have k0 : (0 : Int) ≤ (j : Int) := by omega
          have k1 : (j : Int) ≤ (j : Int) + (n : Int) := by omega
          have k2 : (j : Int) + (n : Int) ≤ (cap : Int) := by omega
          have k3 : ((j : Int) + (n : Int)).toNat = j + n := by omega
          have k4 : j + n - j = n := by omega
          have k5 : IntKind.i64.wrap ((j : Int) + (n : Int)) = (j : Int) + (n : Int) := IntWalk.i64_in _ (by omega)
          go_region_held (fun _ => True) (trivial) (first | (go_at_call 10; refine (HPo.out _).mono ?_; rintro e w4 ⟨p4, c4, N4, rfl, hc4, hN4, hb4⟩; have hb34 : Below w3.heap.size w3 w4 := below_drew (w := w3) hb4 rfl; have hb04 : Below N0 w w4 := hb03.trans (hb34.mono (by rw [HN0.out]; exact hb13.size)); have hr4 := Below.refl N4 w4; clear hN4 hb4))
          all_goals
            go_wp2_with fail
            go_meet
            exact ⟨rfl, by rw [← HN0.out]; exact hb04, hb34⟩
        case rest =>
          obtain ⟨rfl, hb5, hb35⟩ := hcut
          have k3 : ((j : Int) + (n : Int)).toNat = j + n := by omega
          have k5 : IntKind.i64.wrap ((j : Int) + (n : Int)) = (j : Int) + (n : Int) := IntWalk.i64_in _ (by omega)
          by_cases c0 : other < 0
          · have d0 : decide (other < 0) = true := by simpa using c0
            go_wp2_with fail
            go_quiet (fail)
            go_wp2_with fail
            go_ret
            exact ⟨rfl, below_drewN hb5 _⟩
          have d0 : decide (other < 0) = false := by simpa using c0
          obtain ⟨i, rfl⟩ := Int.eq_ofNat_of_zero_le (show 0 ≤ other by omega)
          by_cases c1 : len ≤ i
          · have d1 : decide ((len : Int) ≤ (i : Int)) = true := by simpa using c1
            have n1 : decide (len ≤ i) = true := by simpa using c1
            clear c0 c1
            go_wp2_with fail
            go_quiet (fail)
            go_wp2_with fail
            go_ret
            exact ⟨rfl, below_drewN hb5 _⟩
          have d1 : decide ((len : Int) ≤ (i : Int)) = false := by simpa using c1
          have n1 : decide (len ≤ i) = false := by simpa using c1
          obtain ⟨y, hy⟩ : ∃ y, l[i]? = some y := ⟨_, List.getElem?_eq_getElem (by have := HLen.out; omega)⟩
          have f2 : wc.cell? ⟨b0, off + i, none⟩ = some (.int .u8 (y.toNat : Int)) := cell_later hb5 (HC.out i y hy)
          have i0 : (0 : Int) ≤ (i : Int) := by omega
          have i1 : (i : Int) < (len : Int) := by omega
          by_cases c2 : j ≤ i
          · have d2 : decide ((j : Int) ≤ (i : Int)) = true := by simpa using c2
            have n2 : decide (j ≤ i) = true := by simpa using c2
            by_cases c3 : i < j + n
            · have d3 : decide ((i : Int) < (j : Int) + (n : Int)) = true := by simp; omega
              have n3 : decide (i < j + n) = true := by simpa using c3
              clear c0 c1 c2 c3
              go_wp2_with fail
              go_quiet (fail)
              go_wp2_with fail
              go_ret
              exact ⟨rfl, below_drewN hb5 _⟩
            · have d3 : decide ((i : Int) < (j : Int) + (n : Int)) = false := by simp; omega
              have n3 : decide (i < j + n) = false := by simpa using c3
              obtain ⟨b3, off3, rfl, hc3⟩ := HH3.out.plain (by rw [HL3.out]; omega)
              have f3 : wc.cell? ⟨b3, off3 + i, none⟩ = some (.int .u8 (y.toNat : Int)) := cell_later hb35 (hc3 i y (by rw [HLB.out, lay_other l j n v i (by rw [HLen.out]; exact hjn) (by omega)]; exact hy))
              clear hc3 c0 c1 c2 c3 hy
              go_wp2_with fail
              go_quiet (fail)
              go_wp2_with fail
              go_ret
              exact ⟨rfl, below_drewN hb5 _⟩
          · have d2 : decide ((j : Int) ≤ (i : Int)) = false := by simpa using c2
            have n2 : decide (j ≤ i) = false := by simpa using c2
            obtain ⟨b3, off3, rfl, hc3⟩ := HH3.out.plain (by rw [HL3.out]; omega)
            have f3 : wc.cell? ⟨b3, off3 + i, none⟩ = some (.int .u8 (y.toNat : Int)) := cell_later hb35 (hc3 i y (by rw [HLB.out, lay_other l j n v i (by rw [HLen.out]; exact hjn) (by omega)]; exact hy))
            clear hc3 c0 c1 c2 hy
            go_wp2_with fail
            go_quiet (fail)
            go_wp2_with fail
            go_ret
            exact ⟨rfl, below_drewN hb5 _⟩
      · have hf : fitB len at_ n = false := by
          cases hq : fitB len at_ n with
          | false => rfl
          | true => exact absurd ((fitB_iff _ _ _).1 hq).2 hin
        have HLB : Hid (layB l at_ n v = l) := Lib.hid (layB_no (by rw [HLen.out]; exact hf))
        have g1 := conv_now (cap := c3) (n := len) (HLB.out ▸ HH3.out) HLen.out
        have g2 := conv_now (cap := cap) (h.below hb13) HLen.out
        clear hf hp h
        by_cases c0 : at_ < 0
        · clear hin
          go_wp2_with fail
          go_ret
          exact ⟨rfl, hb13⟩
        · have c1 : (len : Int) - n < at_ := by omega
          clear hin
          go_wp2_with fail
          go_ret
          exact ⟨rfl, hb13⟩

end Go.Proofs.Ytjagddakcffclaa
