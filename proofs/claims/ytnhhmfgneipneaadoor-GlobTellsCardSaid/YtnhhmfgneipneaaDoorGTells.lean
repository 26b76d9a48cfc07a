/-
  The walk of GlobTells: glob and its reference tell the same.
-/
import Derived.Test.YtnhhmfgneipneaaDoorGSpec
namespace Go.Proofs.YtnhhmfgneipneaaDoor
open Go.RowKit

theorem gtells_walk (hf : GFitsOK) (ha : GAnyOK) (p s : ByteArray) (q : Option Addr) (m c : Nat) (ss : List ByteArray) (w : World) (hq : HasS w q ss) (hm : ss.length = m) (hmx : m ≤ maxLen) :
    Calls Tryd.prog 3 #[.string p, .string s, .slice q m c] w fun e w' => e = .returned (.bool true) ∧ Below w.heap.size w w' := by
  unfold maxLen at hmx
  have HUP := Lib.hid fun W => gup_any hf ha W
  by_cases hp : 200 < p.size
  · have hI : (200 : Int) < (p.size : Int) := by omega
    clear hf ha hq hm
    go_enter Tryd.func3, Tryd.ntmps3
    go_wp2_with fail
    refine (HUP.out _).mono ?_
    rintro e w1 ⟨rfl, hb1⟩
    go_wp2_with fail
    go_ret
    exact ⟨rfl, hb1⟩
  have hI1 : ¬ (200 : Int) < (p.size : Int) := by omega
  by_cases hs : 200 < s.size
  · have hI : (200 : Int) < (s.size : Int) := by omega
    clear hf ha hq hm
    go_enter Tryd.func3, Tryd.ntmps3
    go_wp2_with fail
    refine (HUP.out _).mono ?_
    rintro e w1 ⟨rfl, hb1⟩
    go_wp2_with fail
    go_ret
    exact ⟨rfl, hb1⟩
  have hI2 : ¬ (200 : Int) < (s.size : Int) := by omega
  by_cases hl : 20 < m
  · have hI : (20 : Int) < (m : Int) := by omega
    clear hf ha hq hm
    go_enter Tryd.func3, Tryd.ntmps3
    go_wp2_with fail
    refine (HUP.out _).mono ?_
    rintro e w1 ⟨rfl, hb1⟩
    go_wp2_with fail
    go_ret
    exact ⟨rfl, hb1⟩
  have hI3 : ¬ (20 : Int) < (m : Int) := by omega
  have HA := Lib.hid ha
  have HQ := Lib.hid hq
  have HM := Lib.hid hm
  obtain ⟨r, hr⟩ : ∃ r, r = fitR (lst p) (lst s) := ⟨_, rfl⟩
  have HF1 := Lib.hid fun W => hf p s W (by omega) (by omega)
  have HF2 := Lib.hid fun W => refFits_any p s W (by omega) (by omega)
  rw [← hr] at HF1 HF2
  have hrr : (r == r) = true := by simp
  clear hf ha hq hm hr
  go_enter Tryd.func3, Tryd.ntmps3
  go_wp2_with fail
  refine (HUP.out _).mono ?_
  rintro e w1 ⟨rfl, hb1⟩
  go_wp2_with fail
  go_loop [8] (fun r8 => ∃ k : Nat, k ≤ m ∧ r8 = .int .i64 (k : Int) ∧ ∀ x ∈ ss.take k, x.size ≤ 1000) (fun r8 => m - (intOf r8).toNat)
  case atStart => exact ⟨0, Nat.zero_le _, rfl, fun x h => by simp at h⟩
  case round =>
    obtain ⟨k, hk, rfl, hz⟩ := hrel
    have HZ := Lib.hid hz
    clear hz
    by_cases hlt : k < m
    · obtain ⟨b, off, x, rfl, hx, hc0⟩ := HQ.out.at_ (i := k) (by rw [HM.out]; exact hlt)
      have hc := cell_later hb1 hc0
      have HX := Lib.hid hx
      have hI : (k : Int) < (m : Int) := by omega
      have hI0 : (0 : Int) ≤ (k : Int) := by omega
      clear hc0 hx
      by_cases h200 : 200 < x.size
      · have hJ : (200 : Int) < (x.size : Int) := by omega
        go_wp2_with fail
        go_ret
        exact ⟨rfl, hb1⟩
      · have hJ : ¬ (200 : Int) < (x.size : Int) := by omega
        go_wp2_with fail
        go_round
        case rel =>
          refine ⟨k + 1, hlt, by go_num, fun y hy => ?_⟩
          rw [List.take_add_one, HX.out] at hy
          rcases List.mem_append.1 hy with hy | hy
          · exact HZ.out y hy
          · simp at hy; subst hy; omega
        case measure => simp [intOf]; omega
    · have hI : ¬ (k : Int) < (m : Int) := by omega
      have hz2 : ∀ x ∈ ss, x.size ≤ 1000 := by
        have := HZ.out
        rwa [List.take_of_length_le (by rw [HM.out]; omega)] at this
      obtain ⟨t, ht⟩ : ∃ t, t = anyFit ss s := ⟨_, rfl⟩
      have HA1 := Lib.hid fun W (hb : Below w.heap.size w W) => HA.out q m c ss s W (HQ.out.below hb) HM.out hz2 (by omega) (by omega)
      have HA2 := Lib.hid fun W (hb : Below w.heap.size w W) => refAny_any q m c ss s W (HQ.out.below hb) HM.out hz2 (by omega) (by omega)
      rw [← ht] at HA1 HA2
      have htt : (t == t) = true := by simp
      clear hz2 ht
      go_wp2_with fail
      refine (HF1.out _).mono ?_
      rintro e w2 ⟨rfl, hbb2⟩
      have hb2 : Below w.heap.size w w2 := hb1.trans (hbb2.mono hb1.size)
      clear hbb2
      go_wp2_with fail
      refine (HF2.out _).mono ?_
      rintro e w3 ⟨rfl, hbb3⟩
      have hb3 : Below w.heap.size w w3 := hb2.trans (hbb3.mono hb2.size)
      clear hbb3
      go_wp2_with fail
      refine (HA1.out _ hb3).mono ?_
      rintro e w4 ⟨rfl, hbb4⟩
      have hb4 : Below w.heap.size w w4 := hb3.trans (hbb4.mono hb3.size)
      clear hbb4
      go_wp2_with fail
      refine (HA2.out _ hb4).mono ?_
      rintro e w5 ⟨rfl, hbb5⟩
      have hb5 : Below w.heap.size w w5 := hb4.trans (hbb5.mono hb4.size)
      clear hbb5
      go_wp2_with fail
      go_ret
      exact ⟨rfl, hb5⟩

end Go.Proofs.YtnhhmfgneipneaaDoor
