/-
  Contracts of the library's slices.Grow and slices.Concat at slices of bytes: the bytes of all, one behind the other, in memory of the call's own.
-/
import Derived.Test.YthpldobnfnehlaaAppend
import Derived.Lib.AppendZeros
namespace Go.Proofs.Ythpldobnfnehlaa
open Go.RowKit

theorem grow_nil (n : Nat) (w : World) (hn : n ≤ 1000000000) :
    Calls Try.prog 58 #[.slice none 0 0, .int .i64 (n : Int)] w fun e w' => ∃ v, e = .returned v ∧ w'.ownsRow w.heap.size 5 1 v 0 [] ∧ Below w.heap.size w w' := by
  rcases Nat.eq_zero_or_pos n with rfl | h0
  · go_enter Try.func58, Try.ntmps58
    go_wp2_with fail
    go_ret
    exact ⟨_, rfl, World.ownsRow_nil _ _ _ _, Below.refl _ _⟩
  · obtain ⟨i0, hi, hz0, hz1, hz2⟩ := info_parts Try.infoU8
    have happ := Lib.run_append_nil_zeros (P := Try.prog) w 22 3 22 5 i0 (.int .u8 0) .i64 .i64 Try.underlying22 Try.underlying3 hi hz0 n h0 (by omega) (by omega) (by rw [hz2]; omega)
    have hc1 : n ≤ grownCap w n 0 5 := grownCap_ge w n 0 _
    have hc2 : grownCap w n 0 5 ≤ maxLen := grownCap_le_maxLen w n 0 _ (by unfold maxLen; omega)
    generalize grownCap w n 0 5 = cap at *
    have hzs : (Builtin.zeroCells (Value.int .u8 0).cells n ++ Builtin.zeroCells (Value.int .u8 0).cells (cap - n)).size = cap := by simp [size_zeroCells, Value.cells]; omega
    generalize (Builtin.zeroCells (Value.int .u8 0).cells n ++ Builtin.zeroCells (Value.int .u8 0).cells (cap - n)) = Z at *
    have HA := Lib.hid happ
    have HZ := Lib.hid hzs
    have hcp : ¬ cap = 0 := by omega
    clear happ hi hz0 hz1 hz2 hzs
    go_enter Try.func58, Try.ntmps58
    go_wp2_with (at_builtin; refine Lib.wpList_append_run _ rfl _ _ _ _ rfl _ _ rfl rfl _ _ HA.out ?_)
    go_wp2_with fail
    go_ret
    refine ⟨_, rfl, ⟨by simp, .inr ⟨w.heap.size, cap, Z, rfl, Nat.le_refl _, ?_, Nat.zero_le _, hc2, by rw [HZ.out, Nat.mul_one], by simp⟩⟩, ?_⟩
    · exact heap_alloc_new w _
    · exact ((Below.refl _ w).alloc (Nat.le_refl _) _).drew

/-- Behind the address p lie slices of the bytes bs, one a cell. -/
def HasBs (w : World) (p : Option Addr) (bs : List (List UInt8)) : Prop :=
  ∀ i l, bs[i]? = some l → ∃ g o q n c, p = some ⟨g, o, none⟩ ∧ w.cell? ⟨g, o + i, none⟩ = some (.slice q n c) ∧ l.length = n ∧ n ≤ c ∧ c ≤ maxLen ∧ Has w q l ∧ (q = none → c = 0)
theorem HasBs.below {w w' : World} {p : Option Addr} {bs : List (List UInt8)} (h : HasBs w p bs) (hb : Below w.heap.size w w') : HasBs w' p bs := fun i l hl => by
  obtain ⟨g, o, q, n, c, hp, hc, h1, h2, h3, h4, h5⟩ := h i l hl
  exact ⟨g, o, q, n, c, hp, (hb.cell (World.block_lt_of_cell? w _ hc)).trans hc, h1, h2, h3, h4.below hb, h5⟩
theorem flatten_take_succ {bs : List (List UInt8)} {k : Nat} {l : List UInt8} (h : bs[k]? = some l) : (bs.take (k + 1)).flatten = (bs.take k).flatten ++ l := by
  rw [List.take_add_one, h]; simp
theorem flatten_take_le (bs : List (List UInt8)) (k : Nat) : (bs.take k).flatten.length ≤ bs.flatten.length := by
  have e : bs.flatten = (bs.take k).flatten ++ (bs.drop k).flatten := by rw [← List.flatten_append, List.take_append_drop]
  have := congrArg List.length e
  rw [List.length_append] at this
  omega

set_option maxHeartbeats 1000000 in
theorem concat_any (p : Option Addr) (m c : Nat) (bs : List (List UInt8)) (w : World) (h : HasBs w p bs) (hlen : bs.length = m) (hm : m ≤ 1000000) (hsum : bs.flatten.length ≤ 1000000) :
    Calls Try.prog 50 #[.slice p m c] w (Gives bs.flatten w) := by
  obtain ⟨i0, hi, hz0, hz1, hz2⟩ := info_parts Try.infoU8
  have HI := Lib.hid hi
  have H0 := Lib.hid hz0
  have H1 := Lib.hid hz1
  have H2 := Lib.hid hz2
  have HX := Lib.hid h
  have HL := Lib.hid hlen
  have HS := Lib.hid (fun k => flatten_take_le bs k)
  have HSUM := Lib.hid hsum
  clear h hlen hi hz0 hz1 hz2 hsum
  go_enter Try.func50, Try.ntmps50
  go_wp2_with fail
  go_loop [3, 5, 11] (fun sz _ ii => ∃ k q : Nat, k ≤ m ∧ q = (bs.take k).flatten.length ∧ ii = .int .i64 (k : Int) ∧ sz = .int .i64 (q : Int)) (fun _ _ ii => m - (intOf ii).toNat)
  case atStart => exact ⟨0, 0, Nat.zero_le _, by simp, rfl, rfl⟩
  case round =>
    obtain ⟨k, q, hk, hq, rfl, rfl⟩ := hrel
    have HQ := Lib.hid hq
    have hq1 : q ≤ 1000000 := by have := HS.out k; have := HSUM.out; omega
    by_cases hlt : k < m
    · obtain ⟨l, hl⟩ : ∃ l, bs[k]? = some l := ⟨_, List.getElem?_eq_getElem (by rw [HL.out]; exact hlt)⟩
      obtain ⟨g, o, r, n, c', rfl, hc, hn, hnc, hcm, _, _⟩ := HX.out k l hl
      have ht := flatten_take_succ hl
      have hq2 : q + n = (bs.take (k + 1)).flatten.length := by rw [ht, List.length_append, ← hq, hn]
      have HQ2 := Lib.hid hq2
      have hq3 : q + n ≤ 1000000 := by have := HS.out (k + 1); have := HSUM.out; omega
      have hI : (k : Int) < (m : Int) := by omega
      have hI0 : (0 : Int) ≤ (k : Int) := by omega
      clear hq hq2 ht hl hn
      go_wp2_with fail
      go_round
      case rel => exact ⟨k + 1, q + n, hlt, HQ2.out, by go_num, by go_num⟩
      case measure => simp [intOf]; omega
    · have hkm : k = m := by omega
      have HK := Lib.hid hkm
      have hq0 : ¬ (q : Int) < 0 := by omega
      clear hq hkm
      have HG := Lib.hid fun W => grow_nil q W (by omega)
      go_wp2_with fail
      refine (HG.out _).mono ?_
      rintro e w1 ⟨v1, rfl, hown1, hb1⟩
      clear HG HQ hq1 hq0 HK hk hlt
      go_wp2_with fail
      go_loopw [6, 8, 27] (fun v _ ii wr => ∃ k q : Nat, k ≤ m ∧ q = (bs.take k).flatten.length ∧ ii = .int .i64 (k : Int) ∧ wr.ownsRow w.heap.size 5 1 v q (((bs.take k).flatten).map u8v) ∧ Below w.heap.size w wr) (fun _ _ ii _ => m - (intOf ii).toNat)
      case atStart => exact ⟨0, 0, Nat.zero_le _, by simp, rfl, by simpa using hown1, hb1⟩
      case round =>
        obtain ⟨k, q, hk, hq, rfl, hown, hb⟩ := hrel
        have HQ := Lib.hid hq
        have hq1 : q ≤ 1000000 := by have := HS.out k; have := HSUM.out; omega
        clear hown1 hb1
        by_cases hlt : k < m
        · obtain ⟨l, hl⟩ : ∃ l, bs[k]? = some l := ⟨_, List.getElem?_eq_getElem (by rw [HL.out]; exact hlt)⟩
          obtain ⟨g, o, r, n, c', rfl, hc, hn, hnc, hcm, hhas, hnil⟩ := HX.out k l hl
          have ht := flatten_take_succ hl
          have hq2 : q + n = (bs.take (k + 1)).flatten.length := by rw [ht, List.length_append, ← hq, hn]
          have HQ2 := Lib.hid hq2
          have HT := Lib.hid ht
          have HN := Lib.hid hn
          have hq3 : q + n ≤ 1000000 := by have := HS.out (k + 1); have := HSUM.out; omega
          have hI : (k : Int) < (m : Int) := by omega
          have hI0 : (0 : Int) ≤ (k : Int) := by omega
          have hcl := cell_later hb hc
          have HH := Lib.hid (hhas.below hb)
          have HNIL := Lib.hid hnil
          clear hq hq2 ht hl hn hc hhas hnil
          go_wp2_with (at_builtin; refine wpList_append_bytes _ rfl _ _ 22 rfl w.heap.size 5 i0 Try.underlying22 HI.out H0.out H1.out H2.out _ q _ rfl hown r n c' l rfl HH.out HN.out HNIL.out (by omega) hb.size ?_)
          intro v2 w2 hown2 hgrow2 _
          have hb2 : Below w.heap.size w w2 := hb.grown hgrow2 hb.size (fun g hg => (hown.lt g hg).1)
          have hown3 : w2.ownsRow w.heap.size 5 1 v2 (q + n) (((bs.take (k + 1)).flatten).map u8v) := by
            rw [HT.out]
            simpa using hown2
          clear hgrow2 hown hb hcl hown2
          go_wp2_with fail
          go_roundw
          case rel => exact ⟨k + 1, q + n, hlt, HQ2.out, by go_num, hown3, hb2⟩
          case measure => simp [intOf]; omega
        · obtain rfl : k = m := by omega
          have ht : bs.take k = bs := List.take_of_length_le (by rw [HL.out]; exact Nat.le_refl _)
          rw [ht] at hown hq
          have HO := Lib.hid hown
          have HQ2 := Lib.hid hq
          clear ht hown hq
          go_wp2_with fail
          go_ret
          exact ⟨_, rfl, by rw [← HQ2.out]; exact HO.out, hb⟩

end Go.Proofs.Ythpldobnfnehlaa
