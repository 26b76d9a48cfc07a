/-
  The walk of StrtabTells: strtab and its reference tell the same.
-/
import Derived.Test.YtodokgjankaelaaSUp
namespace Go.Proofs.Ytodokgjankaelaa
open Go.RowKit

theorem atAny_form (l : List UInt8) (at_ : Int) : ∃ x ok, atAny l at_ = .returned (.tuple #[.string x, .bool ok]) := by
  unfold atAny atOut
  split
  · split
    · exact ⟨_, _, rfl⟩
    · exact ⟨_, _, rfl⟩
  · exact ⟨_, _, rfl⟩
theorem str_same (x : ByteArray) : (!(x.toList == x.toList)) = false := by simp

set_option maxRecDepth 100000 in
set_option maxHeartbeats 1000000 in
theorem stells_walk (s : ByteArray) (p q : Option Addr) (len cap m c : Nat) (l : List UInt8) (ss : List ByteArray) (at_ : Int) (w : World) (h : Has w p l) (hlen : l.length = len) (hcap : len ≤ cap) (hq : HasS w q ss) (hm : ss.length = m) :
    Calls Try.prog 3 #[.string s, .slice p len cap, .int .i64 at_, .slice q m c] w fun e w' => e = .returned (.bool true) ∧ Below w.heap.size w w' := by
  by_cases hb1 : 10000 < len
  · have hI : (10000 : Int) < (len : Int) := by omega
    clear h hlen hq hm
    go_enter Try.func3, Try.ntmps3
    go_wp2_with fail
    refine (sup_any _).mono ?_
    rintro e w1 ⟨rfl, hb1⟩
    go_wp2_with fail
    go_ret
    exact ⟨rfl, hb1⟩
  by_cases hb2 : 10000 < s.size
  · have hI : ¬ (10000 : Int) < (len : Int) := by omega
    have hJ : (10000 : Int) < (s.size : Int) := by omega
    clear h hlen hq hm
    go_enter Try.func3, Try.ntmps3
    go_wp2_with fail
    refine (sup_any _).mono ?_
    rintro e w1 ⟨rfl, hb1⟩
    go_wp2_with fail
    go_ret
    exact ⟨rfl, hb1⟩
  have hI : ¬ (10000 : Int) < (len : Int) := by omega
  have hJ : ¬ (10000 : Int) < (s.size : Int) := by omega
  obtain ⟨x, ok, hx⟩ := atAny_form l at_
  have HA := Lib.hid fun W (hb : Below w.heap.size w W) => sAt_any p len cap l at_ W (h.below hb) hlen hcap (by omega)
  have HB := Lib.hid fun W (hb : Below w.heap.size w W) => refAt_any p len cap l at_ W (h.below hb) hlen hcap (by omega)
  rw [hx] at HA HB
  have HN := Lib.hid fun W => sMay_any s W
  have HRN := Lib.hid fun W => refName_any s W
  generalize mayB (lst s) = may at HN HRN
  have HQ := Lib.hid hq
  have HM := Lib.hid hm
  have hmm : (may != may) = false := by simp
  have hok : (ok != ok) = false := by simp
  have hxx := str_same x
  clear h hlen hx hq hm hb1 hb2
  go_enter Try.func3, Try.ntmps3
  go_wp2_with fail
  refine (sup_any _).mono ?_
  rintro e w1 ⟨rfl, hb1⟩
  go_upto_region 8 with (first | (go_at_call 6; refine (HA.out _ hb1).mono ?_; rintro e w' ⟨rfl, rfl⟩) | (go_at_call 7; refine (HB.out _ hb1).mono ?_; rintro e w' ⟨rfl, rfl⟩) | (go_at_call 8; refine (HN.out _).mono ?_; rintro e w' ⟨rfl, rfl⟩) | (go_at_call 9; refine (HRN.out _).mono ?_; rintro e w' ⟨rfl, rfl⟩))
  by_cases hs : shortB ss
  · have HS := Lib.hid hs
    have HMk := Lib.hid fun W (hb : Below w.heap.size w W) => (sMake_any q m c ss W (HQ.out.below hb) HM.out hs).mono fun _ _ x => x.toTH
    have HRM := Lib.hid fun W (hb : Below w.heap.size w W) => (refMake_any q m c ss W (HQ.out.below hb) HM.out hs).mono fun _ _ x => x.toTH
    generalize (tabOf (ss.map lst)).tb = tb at HMk HRM
    generalize intsOf (placesOf (ss.map lst)) = pl at HMk HRM
    generalize tb.length = n1 at HMk HRM
    generalize (ss.map lst).length = n2 at HMk HRM
    clear hs
    go_wp2_with fail
    refine (short_yes q m c ss w1 (HQ.out.below hb1) HM.out HS.out).mono ?_
    rintro e w' ⟨rfl, rfl⟩
    go_wp2_with fail
    refine (HMk.out _ hb1).mono ?_
    rintro e w2 ⟨p2, c2, p3, c3, rfl, htb, _, _, hH2, _, _, hI2, hbb2⟩
    have hb2 : Below w.heap.size w w2 := hb1.trans (hbb2.mono hb1.size)
    have HH2 := Lib.hid hH2
    have HI2 := Lib.hid hI2
    have HTB := Lib.hid htb
    clear hH2 hI2 hbb2 htb
    go_wp2_with fail
    refine (HRM.out _ hb2).mono ?_
    rintro e w3 ⟨p4, c4, p5, c5, rfl, _, _, _, hH4, hmx, hpl, hI5, hbb3⟩
    have hb3 : Below w.heap.size w w3 := hb2.trans (hbb3.mono hb2.size)
    have hcv1 := conv_now (cap := c2) (HH2.out.below hbb3) HTB.out
    have hcv2 := conv_now (cap := c4) hH4 HTB.out
    have HIn := Lib.hid (ints_same p3 p5 _ c3 c5 _ w3 (HI2.out.below hbb3) hI5 hpl hmx)
    clear hH4 hI5 hbb3 hpl
    go_wp2_with fail
    refine HIn.out.mono ?_
    rintro e w4 ⟨rfl, k, hw⟩
    have hb4 : Below w.heap.size w w4 := by rw [hw]; exact below_drewN hb3 _
    clear hw
    go_wp2_with fail
    go_ret
    exact ⟨rfl, hb4⟩
  · go_wp2_with fail
    refine (short_no q m c ss w1 (HQ.out.below hb1) HM.out hs).mono ?_
    rintro e w' ⟨rfl, rfl⟩
    go_wp2_with fail
    go_ret
    exact ⟨rfl, hb1⟩

end Go.Proofs.Ytodokgjankaelaa
