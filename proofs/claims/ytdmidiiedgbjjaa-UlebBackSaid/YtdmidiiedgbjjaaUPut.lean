/-
  Contract: uleb.Put: a number's bytes, in new memory.
-/
import Derived.Test.YtdmidiiedgbjjaaRefUleb
namespace Go.Proofs.Ytdmidiiedgbjjaa
open Go.RowKit

theorem uput_no (n : Int) (w : World) (h : n < 0 ∨ 2147483647 < n) :
    Calls Try.prog 11 #[.int .i64 n] w fun e w' => e = .returned (.slice none 0 0) ∧ w = w' := by
  by_cases h0 : n < 0
  · clear h
    go_enter Try.func11, Try.ntmps11
    go_wp2_with fail
    go_ret
    exact ⟨rfl, rfl⟩
  · have h1 : 2147483647 < n := h.resolve_left h0
    clear h
    go_enter Try.func11, Try.ntmps11
    go_wp2_with fail
    go_ret
    exact ⟨rfl, rfl⟩

theorem ulebB_more (f r : Nat) (h : ¬ r < 128) : ulebB (f + 1) r = UInt8.ofNat (128 + r % 128) :: ulebB f (r / 128) := by simp [ulebB, h]
theorem ulebB_last (f r : Nat) (h : r < 128) : ulebB (f + 1) r = [UInt8.ofNat r] := by simp [ulebB, h]
theorem row_snoc (out : List UInt8) (d : UInt8) : out.map u8v ++ [u8v d] = (out ++ [d]).map u8v := by simp

set_option maxRecDepth 100000 in
set_option maxHeartbeats 1000000 in
theorem uput_yes (n : Nat) (w : World) (hn : n ≤ 2147483647) : Calls Try.prog 11 #[.int .i64 n] w (Gives (ulebB 5 n) w) := by
  obtain ⟨i0, hi, hz0, hz1, hz2⟩ := info_parts Try.infoU8
  have HI := Lib.hid hi
  have H0 := Lib.hid hz0
  have H1 := Lib.hid hz1
  have H2 := Lib.hid hz2
  have hnI : ¬ (2147483647 : Int) < (n : Int) := by omega
  have h0I : ¬ (n : Int) < 0 := by omega
  clear hi hz0 hz1 hz2
  go_enter Try.func11, Try.ntmps11
  go_wp2_with fail
  go_loopw [0, 3] (fun nn b wr => ∃ (f r : Nat) (out : List UInt8), out.length + f = 4 ∧ r < 128 ^ (f + 1) ∧ r ≤ 2147483647 ∧ nn = .int .i64 (r : Int) ∧ wr.ownsRow w.heap.size 5 1 b out.length (out.map u8v) ∧ Below w.heap.size w wr ∧ ulebB 5 n = out ++ ulebB (f + 1) r) (fun nn _ _ => (intOf nn).toNat)
  case atStart => exact ⟨4, n, [], rfl, by omega, hn, rfl, World.ownsRow_nil _ _ _ _, Below.refl _ _, rfl⟩
  case round =>
    obtain ⟨f, r, out, hof, hrf, hrm, rfl, hown, hb, hrest⟩ := hrel
    have HO := Lib.hid hof
    have HR := Lib.hid hrest
    have hl4 : out.length ≤ 4 := by omega
    clear hof hrest
    by_cases h8 : r < 128
    · obtain ⟨d, hdd⟩ : ∃ d, d = UInt8.ofNat r := ⟨_, rfl⟩
      have HU : Hid (ulebB 5 n = out ++ [d]) := Lib.hid (by rw [HR.out, ulebB_last f r h8, hdd])
      have HB : Hid (Value.int .u8 (r : Int) = u8v d) := Lib.hid (by rw [hdd]; unfold u8v; congr 1; simp; omega)
      have hI : ¬ (128 : Int) ≤ (r : Int) := by omega
      clear hdd hrf
      go_wp2_with (at_builtin; refine wpList_append_own _ rfl _ _ 22 rfl w.heap.size 5 i0 (.int .u8 0) 1 1 Try.underlying22 HI.out H0.out H1.out H2.out rfl (by decide) _ _ _ rfl (hown.alloc _) ⟨wr.heap.size, 0, none⟩ 1 1 [u8v d] rfl rfl ?xa ?xb ?xc ?xd ?xe ?_)
      case xa =>
        intro j z hj
        match j, hj with
        | 0, hj => simp at hj; subst hj; simp [HB.out]
      case xb => rfl
      case xc => unfold maxLen; omega
      case xd => omega
      case xe => have := hb.size; simp; omega
      · intro v' w1 hown' hgrow _
        have hb1 : Below w.heap.size w w1 := (hb.alloc hb.size _).grown hgrow (by have := hb.size; simp; omega) (fun g hg => (hown.lt g hg).1)
        rw [row_snoc] at hown'
        clear hgrow hown hb
        go_wp2_with fail
        go_ret
        refine ⟨_, rfl, ?_, hb1⟩
        rw [HU.out, List.length_append]
        exact hown'
    · obtain ⟨d, hdd⟩ : ∃ d, d = UInt8.ofNat (128 + r % 128) := ⟨_, rfl⟩
      have hf : 0 < f := by
        rcases Nat.eq_zero_or_pos f with h0 | h0
        · subst h0
          simp at hrf
          omega
        · exact h0
      obtain ⟨g, rfl⟩ : ∃ g, f = g + 1 := ⟨f - 1, by omega⟩
      have hd : r / 128 < 128 ^ (g + 1) := by
        rw [Nat.pow_succ] at hrf
        exact Nat.div_lt_of_lt_mul (by rw [Nat.mul_comm]; exact hrf)
      have HU : Hid (ulebB 5 n = (out ++ [d]) ++ ulebB (g + 1) (r / 128)) := Lib.hid (by rw [HR.out, ulebB_more (g + 1) r h8, hdd]; simp)
      have HB : Hid (Value.int .u8 ((r : Int) % 128 + 128) = u8v d) := Lib.hid (by rw [hdd]; unfold u8v; congr 1; simp; omega)
      have HD := Lib.hid hd
      have hI : (128 : Int) ≤ (r : Int) := by omega
      clear hdd hrf hd
      go_wp2_with (at_builtin; refine wpList_append_own _ rfl _ _ 22 rfl w.heap.size 5 i0 (.int .u8 0) 1 1 Try.underlying22 HI.out H0.out H1.out H2.out rfl (by decide) _ _ _ rfl (hown.alloc _) ⟨wr.heap.size, 0, none⟩ 1 1 [u8v d] rfl rfl ?ya ?yb ?yc ?yd ?ye ?_)
      case ya =>
        intro j z hj
        match j, hj with
        | 0, hj => simp at hj; subst hj; simp [Addr.add, HB.out]
      case yb => intro z hz; simp at hz; subst hz; rfl
      case yc => unfold maxLen; omega
      case yd => omega
      case ye => have := hb.size; simp; omega
      · intro v' w1 hown' hgrow _
        have hb1 : Below w.heap.size w w1 := (hb.alloc hb.size _).grown hgrow (by have := hb.size; simp; omega) (fun g hg => (hown.lt g hg).1)
        rw [row_snoc] at hown'
        clear hgrow hown hb
        go_wp2_with fail
        go_roundw
        case rel =>
          refine ⟨g, r / 128, out ++ [d], by have := HO.out; simp; omega, HD.out, by omega, by go_num, ?_, hb1, HU.out⟩
          rw [List.length_append]
          exact hown'
        case measure => simp [intOf]; omega

end Go.Proofs.Ytdmidiiedgbjjaa
