/-
  What is got of a header's bytes is what was put: sectAt and sectB. Nothing here walks the program.
  What is got of a relocation's bytes is what was put: relAt and relB. Nothing here walks the program.
  What the walks of layer rela ask of the project's Width, Get and Put.
  Contracts of the library's slices.Grow and slices.Concat at slices of bytes: the bytes of all, one behind the other, in memory of the call's own.
  Contracts of the functions of le and of its reference that only read: which widths there are, whether all bytes are there, the number of bytes, Get.
  Contracts: le.Put and the reference's Put: a number's lowest bytes, in new memory.
  Contract: le.Get: the number of the bytes from a place on.
  A slice of bytes behind an address of a row's, and the contract of le.Put in its words.
  Contracts of the project's rela: Width, isPlace, may, number, Put.
-/
import Derived.Test.YthnkehdcolnegaaGreatNR23
import Derived.Test.YthnkehdcolnegaaGreatNR28
import Derived.Test.YthnkehdcolnegaaGreatNR24
import Derived.Lib.AppendZeros
import Derived.Test.YthnkehdcolnegaaGreatNR16
import Derived.LoopTactic
import Derived.Lib.Hide
import Derived.Outline
import Derived.OwnWalk
import Derived.Laws.BitsAllLaws
import Derived.Laws.Bits64
import Derived.Deep.RegionHeld3
namespace Go.Proofs.YthnkehdcolnegaaGreat
open Go.RowKit

end Go.Proofs.YthnkehdcolnegaaGreat

namespace Go.Proofs.YthnkehdcolnegaaGreat
open Go.RowKit

/-- What is added is an int. -/
def Fou.bd (t : Fou) : Prop := -9223372036854775808 ≤ t.d ∧ t.d ≤ 9223372036854775807
instance (t : Fou) : Decidable t.bd := by unfold Fou.bd; infer_instance

end Go.Proofs.YthnkehdcolnegaaGreat

namespace Go.Proofs.YthnkehdcolnegaaGreat
open Go.RowKit

/-- What Put tells. -/
def ZPutOK : Prop := ∀ (t : Fou) (w : World), t.bd → (t.may → Calls Tryz.prog 176 #[t.v] w (Gives (relB t) w)) ∧ (¬ t.may → Calls Tryz.prog 176 #[t.v] w (GivesH 0 [] w))

end Go.Proofs.YthnkehdcolnegaaGreat

namespace Go.Proofs.YthnkehdcolnegaaGreat
open Go.RowKit

set_option maxRecDepth 100000 in
theorem grow_nil (n : Nat) (w : World) (hn : n ≤ 1000000000) :
    Calls Tryz.prog 174 #[.slice none 0 0, .int .i64 (n : Int)] w fun e w' => ∃ v, e = .returned v ∧ w'.ownsRow w.heap.size 5 1 v 0 [] ∧ Below w.heap.size w w' := by
  rcases Nat.eq_zero_or_pos n with rfl | h0
  · go_enter Tryz.func174, Tryz.ntmps174
    go_wp2_with fail
    go_ret
    exact ⟨_, rfl, World.ownsRow_nil _ _ _ _, Below.refl _ _⟩
  · obtain ⟨i0, hi, hz0, hz1, hz2⟩ := info_parts Tryz.infoU8
    have happ := Lib.run_append_nil_zeros (P := Tryz.prog) w 31 3 31 5 i0 (.int .u8 0) .i64 .i64 Tryz.underlying31 Tryz.underlying3 hi hz0 n h0 (by omega) (by omega) (by rw [hz2]; omega)
    have hc1 : n ≤ grownCap w n 0 5 := grownCap_ge w n 0 _
    have hc2 : grownCap w n 0 5 ≤ maxLen := grownCap_le_maxLen w n 0 _ (by unfold maxLen; omega)
    generalize grownCap w n 0 5 = cap at *
    have hzs : (Builtin.zeroCells (Value.int .u8 0).cells n ++ Builtin.zeroCells (Value.int .u8 0).cells (cap - n)).size = cap := by simp [size_zeroCells, Value.cells]; omega
    generalize (Builtin.zeroCells (Value.int .u8 0).cells n ++ Builtin.zeroCells (Value.int .u8 0).cells (cap - n)) = Z at *
    have HA := Lib.hid happ
    have HZ := Lib.hid hzs
    have hcp : ¬ cap = 0 := by omega
    clear happ hi hz0 hz1 hz2 hzs
    go_enter Tryz.func174, Tryz.ntmps174
    go_wp2_with (at_builtin; refine Lib.wpList_append_run _ rfl _ _ _ _ rfl _ _ rfl rfl _ _ HA.out ?_)
    go_wp2_with fail
    go_ret
    refine ⟨_, rfl, ⟨by simp, .inr ⟨w.heap.size, cap, Z, rfl, Nat.le_refl _, ?_, Nat.zero_le _, hc2, by rw [HZ.out, Nat.mul_one], by simp⟩⟩, ?_⟩
    · exact heap_alloc_new w _
    · exact ((Below.refl _ w).alloc (Nat.le_refl _) _).drew

/-- Behind the address p lie slices of the bytes bs, one a cell. -/
def HasBs (w : World) (p : Option Addr) (bs : List (List UInt8)) : Prop :=
  ∀ i l, bs[i]? = some l → ∃ g o q n c, p = some ⟨g, o, none⟩ ∧ w.cell? ⟨g, o + i, none⟩ = some (.slice q n c) ∧ l.length = n ∧ n ≤ c ∧ c ≤ maxLen ∧ Has w q l ∧ (q = none → c = 0)
theorem HasBs.below {w w' : World} {p : Option Addr} {bs : List (List UInt8)} (h : HasBs w p bs) (hb : Below w.heap.size w w') : HasBs w' p bs := fun i l hl => by
  obtain ⟨g, o, q, n, c, hp, hc, h1, h2, h3, h4, h5⟩ := h i l hl
  exact ⟨g, o, q, n, c, hp, (hb.cell (World.block_lt_of_cell? w _ hc)).trans hc, h1, h2, h3, h4.below hb, h5⟩
theorem flatten_take_succ {bs : List (List UInt8)} {k : Nat} {l : List UInt8} (h : bs[k]? = some l) : (bs.take (k + 1)).flatten = (bs.take k).flatten ++ l := by
  rw [List.take_add_one, h]; simp
theorem flatten_take_le (bs : List (List UInt8)) (k : Nat) : (bs.take k).flatten.length ≤ bs.flatten.length := by
  have e : bs.flatten = (bs.take k).flatten ++ (bs.drop k).flatten := by rw [← List.flatten_append, List.take_append_drop]
  have := congrArg List.length e
  rw [List.length_append] at this
  omega

set_option maxRecDepth 100000 in
set_option maxHeartbeats 1000000 in
theorem concat_any (p : Option Addr) (m c : Nat) (bs : List (List UInt8)) (w : World) (h : HasBs w p bs) (hlen : bs.length = m) (hm : m ≤ 1000000) (hsum : bs.flatten.length ≤ 100000000) :
    Calls Tryz.prog 128 #[.slice p m c] w (Gives bs.flatten w) := by
  obtain ⟨i0, hi, hz0, hz1, hz2⟩ := info_parts Tryz.infoU8
  have HI := Lib.hid hi
  have H0 := Lib.hid hz0
  have H1 := Lib.hid hz1
  have H2 := Lib.hid hz2
  have HX := Lib.hid h
  have HL := Lib.hid hlen
  have HS := Lib.hid (fun k => flatten_take_le bs k)
  have HSUM := Lib.hid hsum
  clear h hlen hi hz0 hz1 hz2 hsum
  go_enter Tryz.func128, Tryz.ntmps128
  go_wp2_with fail
  go_loop [3, 5, 11] (fun sz _ ii => ∃ k q : Nat, k ≤ m ∧ q = (bs.take k).flatten.length ∧ ii = .int .i64 (k : Int) ∧ sz = .int .i64 (q : Int)) (fun _ _ ii => m - (intOf ii).toNat)
  case atStart => exact ⟨0, 0, Nat.zero_le _, by simp, rfl, rfl⟩
  case round =>
    obtain ⟨k, q, hk, hq, rfl, rfl⟩ := hrel
    have HQ := Lib.hid hq
    have hq1 : q ≤ 100000000 := by have := HS.out k; have := HSUM.out; omega
    by_cases hlt : k < m
    · obtain ⟨l, hl⟩ : ∃ l, bs[k]? = some l := ⟨_, List.getElem?_eq_getElem (by rw [HL.out]; exact hlt)⟩
      obtain ⟨g, o, r, n, c', rfl, hc, hn, hnc, hcm, _, _⟩ := HX.out k l hl
      have ht := flatten_take_succ hl
      have hq2 : q + n = (bs.take (k + 1)).flatten.length := by rw [ht, List.length_append, ← hq, hn]
      have HQ2 := Lib.hid hq2
      have hq3 : q + n ≤ 100000000 := by have := HS.out (k + 1); have := HSUM.out; omega
      have hI : (k : Int) < (m : Int) := by omega
      have hI0 : (0 : Int) ≤ (k : Int) := by omega
      clear hq hq2 ht hl hn
      go_wp2_with fail
      go_round
      case rel => exact ⟨k + 1, q + n, hlt, HQ2.out, by go_num, by go_num⟩
      case measure => simp [intOf]; omega
    · have hkm : k = m := by omega
      have HK := Lib.hid hkm
      have hq0 : ¬ (q : Int) < 0 := by omega
      clear hq hkm
      have HG := Lib.hid fun W => grow_nil q W (by omega)
      go_wp2_with fail
      refine (HG.out _).mono ?_
      rintro e w1 ⟨v1, rfl, hown1, hb1⟩
      clear HG HQ hq1 hq0 HK hk hlt
      go_wp2_with fail
      go_loopw [6, 8, 27] (fun v _ ii wr => ∃ k q : Nat, k ≤ m ∧ q = (bs.take k).flatten.length ∧ ii = .int .i64 (k : Int) ∧ wr.ownsRow w.heap.size 5 1 v q (((bs.take k).flatten).map u8v) ∧ Below w.heap.size w wr) (fun _ _ ii _ => m - (intOf ii).toNat)
      case atStart => exact ⟨0, 0, Nat.zero_le _, by simp, rfl, by simpa using hown1, hb1⟩
      case round =>
        obtain ⟨k, q, hk, hq, rfl, hown, hb⟩ := hrel
        have HQ := Lib.hid hq
        have hq1 : q ≤ 100000000 := by have := HS.out k; have := HSUM.out; omega
        clear hown1 hb1
        by_cases hlt : k < m
        · obtain ⟨l, hl⟩ : ∃ l, bs[k]? = some l := ⟨_, List.getElem?_eq_getElem (by rw [HL.out]; exact hlt)⟩
          obtain ⟨g, o, r, n, c', rfl, hc, hn, hnc, hcm, hhas, hnil⟩ := HX.out k l hl
          have ht := flatten_take_succ hl
          have hq2 : q + n = (bs.take (k + 1)).flatten.length := by rw [ht, List.length_append, ← hq, hn]
          have HQ2 := Lib.hid hq2
          have HT := Lib.hid ht
          have HN := Lib.hid hn
          have hq3 : q + n ≤ 100000000 := by have := HS.out (k + 1); have := HSUM.out; omega
          have hI : (k : Int) < (m : Int) := by omega
          have hI0 : (0 : Int) ≤ (k : Int) := by omega
          have hcl := cell_later hb hc
          have HH := Lib.hid (hhas.below hb)
          have HNIL := Lib.hid hnil
          clear hq hq2 ht hl hn hc hhas hnil
          go_wp2_with (at_builtin; refine wpList_append_bytes _ rfl _ _ 31 rfl w.heap.size 5 i0 Tryz.underlying31 HI.out H0.out H1.out H2.out _ q _ rfl hown r n c' l rfl HH.out HN.out HNIL.out (by omega) hb.size ?_)
          intro v2 w2 hown2 hgrow2 _
          have hb2 : Below w.heap.size w w2 := hb.grown hgrow2 hb.size (fun g hg => (hown.lt g hg).1)
          have hown3 : w2.ownsRow w.heap.size 5 1 v2 (q + n) (((bs.take (k + 1)).flatten).map u8v) := by
            rw [HT.out]
            simpa using hown2
          clear hgrow2 hown hb hcl hown2
          go_wp2_with fail
          go_roundw
          case rel => exact ⟨k + 1, q + n, hlt, HQ2.out, by go_num, hown3, hb2⟩
          case measure => simp [intOf]; omega
        · obtain rfl : k = m := by omega
          have ht : bs.take k = bs := List.take_of_length_le (by rw [HL.out]; exact Nat.le_refl _)
          rw [ht] at hown hq
          have HO := Lib.hid hown
          have HQ2 := Lib.hid hq
          clear ht hown hq
          go_wp2_with fail
          go_ret
          exact ⟨_, rfl, by rw [← HQ2.out]; exact HO.out, hb⟩

end Go.Proofs.YthnkehdcolnegaaGreat

namespace Go.Proofs.YthnkehdcolnegaaGreat
open Go.RowKit

theorem isWidth_any (n : Int) (w : World) : Calls Tryz.prog 203 #[.int .i64 n] w fun e w' => e = .returned (.bool (wid n)) ∧ w = w' := by
  by_cases h1 : n = 1
  · subst h1
    go_enter Tryz.func203, Tryz.ntmps203
    go_wp2
    go_ret
    exact ⟨rfl, rfl⟩
  by_cases h2 : n = 2
  · subst h2
    go_enter Tryz.func203, Tryz.ntmps203
    go_wp2
    go_ret
    exact ⟨rfl, rfl⟩
  by_cases h4 : n = 4
  · subst h4
    go_enter Tryz.func203, Tryz.ntmps203
    go_wp2
    go_ret
    exact ⟨rfl, rfl⟩
  by_cases h8 : n = 8
  · subst h8
    go_enter Tryz.func203, Tryz.ntmps203
    go_wp2
    go_ret
    exact ⟨rfl, rfl⟩
  have hw : wid n = false := by simp [wid, h1, h2, h4, h8]
  have H := Lib.hid hw
  clear hw
  have e1 : (n == 1) = false := by simpa using h1
  have e2 : (n == 2) = false := by simpa using h2
  have e4 : (n == 4) = false := by simpa using h4
  have e8 : (n == 8) = false := by simpa using h8
  clear h1 h2 h4 h8
  go_enter Tryz.func203, Tryz.ntmps203
  go_wp2
  go_ret
  exact ⟨ret_b H.out.symm, rfl⟩

end Go.Proofs.YthnkehdcolnegaaGreat

namespace Go.Proofs.YthnkehdcolnegaaGreat
open Go.RowKit

/-- The row behind k rounds: the first k bytes, zeros behind them. -/
def rowAt (n v k : Nat) : List Value := ((leB n v).take k).map u8v ++ List.replicate (n - k) (.int .u8 0)
theorem rowAt_zero (n v : Nat) : rowAt n v 0 = List.replicate n (.int .u8 0) := by simp [rowAt]
theorem rowAt_full (n v : Nat) : rowAt n v n = (leB n v).map u8v := by
  unfold rowAt
  rw [List.take_of_length_le (by rw [leB_length]; exact Nat.le_refl _)]
  simp
theorem rowAt_step (n v k : Nat) (hk : k < n) : (rowAt n v k).set k (u8v (UInt8.ofNat (v / 256 ^ k))) = rowAt n v (k + 1) := by
  have hl : (((leB n v).take k).map u8v).length = k := by simp [leB_length]; omega
  unfold rowAt
  rw [List.set_append_right _ _ (by omega), hl, Nat.sub_self]
  have e : (leB n v).take (k + 1) = (leB n v).take k ++ [UInt8.ofNat (v / 256 ^ k)] := by
    rw [List.take_add_one, leB_get n v k hk]
    rfl
  rw [e, show n - k = (n - (k + 1)) + 1 by omega, List.replicate_succ, List.set_cons_zero]
  simp
theorem byte_of (v k : Nat) : ((v : Int) / 2 ^ (8 * k) % 256 : Int) = ((UInt8.ofNat (v / 256 ^ k)).toNat : Int) := by
  have e : (2 : Int) ^ (8 * k) = ((256 ^ k : Nat) : Int) := by
    rw [Int.pow_mul]
    norm_cast
  rw [e]
  generalize 256 ^ k = m
  rw [UInt8.toNat_ofNat', Int.natCast_emod, Int.natCast_ediv]
  rfl
theorem rowAt_length (n v k : Nat) (hk : k ≤ n) : (rowAt n v k).length = n := by
  simp [rowAt, leB_length]
  omega

theorem put_yes (v n : Nat) (w : World) (_hv : v < 18446744073709551616) (hn : wid n = true) :
    Calls Tryz.prog 171 #[.int .u64 v, .int .i64 n] w (Gives (leB n v) w) := by
  have hn' := (wid_iff _).1 hn
  have hn1 : 1 ≤ n := by omega
  have hn8 : n ≤ 8 := by omega
  clear hn'
  obtain ⟨i0, hi, hz0, hz1, hz2⟩ := info_parts Tryz.infoU8
  have hb8 : i0.bytes * n ≤ 281474976710656 := by rw [hz2]; omega
  have HI := Lib.hid hi
  have H0 := Lib.hid hz0
  have H1 := Lib.hid hz1
  clear hi hz0 hz1 hz2
  go_enter Tryz.func171, Tryz.ntmps171
  go_wp2_with (first | (go_at_call 203; refine (isWidth_any _ _).mono ?_; rintro e w' ⟨rfl, rfl⟩) | (at_make; refine wpList_make_full _ rfl _ _ 31 rfl w.heap.size 5 i0 (.int .u8 0) 1 Tryz.underlying31 HI.out H0.out H1.out _ _ _ _ n rfl rfl rfl rfl hb8 (by unfold maxLen; omega) (Nat.le_refl _) ?_))
  intro w1 hown hgrow
  have hbel : Below w.heap.size w w1 := (Below.refl _ w).grown hgrow (Nat.le_refl _) (fun k h => by cases h)
  have hown0 : w1.ownsRow w.heap.size 5 1 (.slice (some ⟨w.heap.size, 0, none⟩) n n) n (rowAt n v 0) := by
    rw [rowAt_zero, ← toList_madeCells_one]
    exact hown
  clear hown hgrow
  go_wp2
  go_loopw [6, 14] (fun _ i wr => ∃ k : Nat, k ≤ n ∧ i = .int .i64 k ∧ wr.ownsRow w.heap.size 5 1 (.slice (some ⟨w.heap.size, 0, none⟩) n n) n (rowAt n v k) ∧ Below w.heap.size w wr) (fun _ i _ => n - (intOf i).toNat)
  case atStart => exact ⟨0, Nat.zero_le _, rfl, hown0, hbel⟩
  case round =>
    obtain ⟨k, hk, rfl, hown, hb⟩ := hrel
    clear hown0 hbel
    by_cases hlt : k < n
    · have hc : wr.cell? ⟨w.heap.size, k, none⟩ = some ((rowAt n v k)[k]'(by rw [rowAt_length n v k hk]; exact hlt)) := by
        rw [hown.cellAt k (by omega)]
        exact List.getElem?_eq_getElem _
      generalize (rowAt n v k)[k]'(by rw [rowAt_length n v k hk]; exact hlt) = u0 at hc
      have hf := hown.frozenAt k
      have hst := hown.stored k (u8v (UInt8.ofNat (v / 256 ^ k)))
      rw [rowAt_step n v k hlt] at hst
      have HS := Lib.hid hst
      clear hst
      go_wp2
      go_roundw
      case rel =>
        refine ⟨k + 1, hlt, by go_num, ?_, ?_⟩
        · rw [byte_of]
          exact HS.out.1
        · exact hb.setCell (Nat.le_refl _) _
      case measure => simp [intOf]; omega
    · have hkn : k = n := by omega
      have HK := Lib.hid hkn
      clear hkn
      go_wp2
      go_ret
      refine ⟨_, rfl, ?_, hb⟩
      rw [leB_length, ← rowAt_full]
      rw [HK.out] at hown
      exact hown

end Go.Proofs.YthnkehdcolnegaaGreat

namespace Go.Proofs.YthnkehdcolnegaaGreat
open Go.RowKit

end Go.Proofs.YthnkehdcolnegaaGreat

namespace Go.Proofs.YthnkehdcolnegaaGreat
open Go.RowKit

/-- A slice of the n bytes l, behind an address of a row's. -/
def Part (w : World) (b o n c : Nat) (l : List UInt8) : Prop := l.length = n ∧ n ≤ c ∧ c ≤ maxLen ∧ Has w (some ⟨b, o, none⟩) l
theorem Part.below {w w' : World} {b o n c : Nat} {l : List UInt8} (h : Part w b o n c l) (hb : Below w.heap.size w w') : Part w' b o n c l := ⟨h.1, h.2.1, h.2.2.1, h.2.2.2.below hb⟩
theorem part_below {w w' : World} {b o n c : Nat} {l : List UInt8} (h : Hid (Part w b o n c l)) (hb : Below w.heap.size w w') : Hid (Part w' b o n c l) := Lib.hid (h.out.below hb)
def PG (n : Nat) (l : List UInt8) (W : World) (e : Ending) (w' : World) : Prop := ∃ b o c, e = .returned (.slice (some ⟨b, o, none⟩) n c) ∧ Hid (Part w' b o n c l) ∧ Below W.heap.size W w'
theorem putP (v n : Nat) (W : World) (hv : v < 18446744073709551616) (hn : wid n = true) : Calls Tryz.prog 171 #[.int .u64 v, .int .i64 n] W (PG n (leB n v) W) := by
  refine (put_yes v n W hv hn).mono ?_
  rintro e w' ⟨v', rfl, hown, hb⟩
  obtain ⟨p, c, rfl, h1, h2, h3, h4⟩ := Has.of_owns hown
  have hn' := (wid_iff _).1 hn
  rw [leB_length] at h1 h3
  obtain ⟨b, o, rfl, _⟩ := h4.plain (by rw [leB_length]; omega)
  exact ⟨b, o, c, by rw [leB_length], Lib.hid ⟨by rw [leB_length], h1, h2, h4⟩, hb⟩
theorem put1 (v : Nat) (W : World) (hv : v < 18446744073709551616) : Calls Tryz.prog 171 #[.int .u64 v, .int .i64 1] W (PG 1 (leB 1 v) W) := putP v 1 W hv rfl
theorem put2 (v : Nat) (W : World) (hv : v < 18446744073709551616) : Calls Tryz.prog 171 #[.int .u64 v, .int .i64 2] W (PG 2 (leB 2 v) W) := putP v 2 W hv rfl
theorem put4 (v : Nat) (W : World) (hv : v < 18446744073709551616) : Calls Tryz.prog 171 #[.int .u64 v, .int .i64 4] W (PG 4 (leB 4 v) W) := putP v 4 W hv rfl
theorem put8 (v : Nat) (W : World) (hv : v < 18446744073709551616) : Calls Tryz.prog 171 #[.int .u64 v, .int .i64 8] W (PG 8 (leB 8 v) W) := putP v 8 W hv rfl
theorem put10 (W : World) : Calls Tryz.prog 171 #[.int .u64 0, .int .i64 1] W (PG 1 [0] W) := putP 0 1 W (by decide) rfl

end Go.Proofs.YthnkehdcolnegaaGreat

namespace Go.Proofs.YthnkehdcolnegaaGreat
open Go.RowKit

set_option maxRecDepth 100000 in
theorem zwid_any (n : Int) (w : World) : Calls Tryz.prog 192 #[.int .i64 n] w fun e w' => e = .returned (.int .i64 (widthI n)) ∧ w = w' := by
  by_cases h1 : n = 1
  · subst h1
    go_enter Tryz.func192, Tryz.ntmps192
    go_wp2
    go_ret
    exact ⟨rfl, rfl⟩
  by_cases h2 : n = 2
  · subst h2
    go_enter Tryz.func192, Tryz.ntmps192
    go_wp2
    go_ret
    exact ⟨rfl, rfl⟩
  by_cases h4 : n = 4
  · subst h4
    go_enter Tryz.func192, Tryz.ntmps192
    go_wp2
    go_ret
    exact ⟨rfl, rfl⟩
  by_cases h10 : n = 10
  · subst h10
    go_enter Tryz.func192, Tryz.ntmps192
    go_wp2
    go_ret
    exact ⟨rfl, rfl⟩
  by_cases h11 : n = 11
  · subst h11
    go_enter Tryz.func192, Tryz.ntmps192
    go_wp2
    go_ret
    exact ⟨rfl, rfl⟩
  have HW : Hid (widthI n = 0) := Lib.hid (by simp [widthI, h1, h2, h4, h10, h11])
  have e1 : (n == 1) = false := by simpa using h1
  have e2 : (n == 2) = false := by simpa using h2
  have e4 : (n == 4) = false := by simpa using h4
  have e10 : (n == 10) = false := by simpa using h10
  have e11 : (n == 11) = false := by simpa using h11
  clear h1 h2 h4 h10 h11
  go_enter Tryz.func192, Tryz.ntmps192
  go_wp2
  go_ret
  rw [HW.out]
  exact ⟨rfl, rfl⟩

set_option maxRecDepth 100000 in
theorem place_any (n : Int) (w : World) : Calls Tryz.prog 208 #[.int .i64 n] w fun e w' => e = .returned (.bool (fitsB n)) ∧ w = w' := by
  by_cases h0 : 0 ≤ n
  · by_cases h1 : n ≤ 2147483647
    · have H : Hid (fitsB n = true) := Lib.hid ((fitsB_iff n).2 ⟨h0, h1⟩)
      go_enter Tryz.func208, Tryz.ntmps208
      go_wp2_with fail
      go_ret
      exact ⟨ret_b H.out.symm, rfl⟩
    · have H : Hid (fitsB n = false) := Lib.hid (by simp [fitsB, h1])
      go_enter Tryz.func208, Tryz.ntmps208
      go_wp2_with fail
      go_ret
      exact ⟨ret_b H.out.symm, rfl⟩
  · have H : Hid (fitsB n = false) := Lib.hid (by simp [fitsB, h0])
    go_enter Tryz.func208, Tryz.ntmps208
    go_wp2_with fail
    go_ret
    exact ⟨ret_b H.out.symm, rfl⟩

theorem zwidth_cases (n : Int) : widthI n = 0 ∨ widthI n = 4 ∨ widthI n = 8 := by
  unfold widthI
  split
  · omega
  · split <;> omega

set_option maxRecDepth 100000 in
set_option maxHeartbeats 1000000 in
theorem zmay_any (t : Fou) (w : World) : Calls Tryz.prog 186 #[t.v] w fun e w' => e = .returned (.bool (decide t.may)) ∧ Below w.heap.size w w' := by
  have hb := (Below.refl _ w).alloc (Nat.le_refl _) (.cells #[.int .i64 t.a, .int .i64 t.b, .int .i64 t.c, .int .i64 t.d] 94)
  have HA := Lib.hid (place_any t.a)
  have HC := Lib.hid (place_any t.c)
  have HW := Lib.hid (zwid_any t.b)
  cases hA : fitsB t.a with
  | false =>
    have HM : Hid (decide t.may = false) := Lib.hid (decide_eq_false (by unfold Fou.may; rw [hA]; simp))
    rw [hA] at HA
    clear hA HC HW
    go_enter Tryz.func186, Tryz.ntmps186
    go_wp2_with (go_at_call 208; refine (HA.out _).mono ?_; rintro e w' ⟨rfl, rfl⟩)
    go_ret
    exact ⟨ret_b HM.out.symm, hb⟩
  | true =>
    cases hC : fitsB t.c with
    | false =>
      have HM : Hid (decide t.may = false) := Lib.hid (decide_eq_false (by unfold Fou.may; rw [hC]; simp))
      rw [hA] at HA
      rw [hC] at HC
      clear hA hC HW
      go_enter Tryz.func186, Tryz.ntmps186
      go_wp2_with fail
      refine (HA.out _).mono ?_
      rintro e w' ⟨rfl, rfl⟩
      go_wp2_with fail
      refine (HC.out _).mono ?_
      rintro e w' ⟨rfl, rfl⟩
      go_wp2_with fail
      go_ret
      exact ⟨ret_b HM.out.symm, hb⟩
    | true =>
      rw [hA] at HA
      rw [hC] at HC
      rcases zwidth_cases t.b with hW | hW | hW
      · have HM : Hid (decide t.may = false) := Lib.hid (decide_eq_false (by unfold Fou.may; rw [hW]; simp))
        rw [hW] at HW
        clear hA hC hW
        go_enter Tryz.func186, Tryz.ntmps186
        go_wp2_with fail
        refine (HA.out _).mono ?_
        rintro e w' ⟨rfl, rfl⟩
        go_wp2_with fail
        refine (HC.out _).mono ?_
        rintro e w' ⟨rfl, rfl⟩
        go_wp2_with fail
        refine (HW.out _).mono ?_
        rintro e w' ⟨rfl, rfl⟩
        go_wp2_with fail
        go_ret
        exact ⟨ret_b HM.out.symm, hb⟩
      · have HM : Hid (decide t.may = true) := Lib.hid (decide_eq_true ⟨hA, hC, by omega⟩)
        rw [hW] at HW
        clear hA hC hW
        go_enter Tryz.func186, Tryz.ntmps186
        go_wp2_with fail
        refine (HA.out _).mono ?_
        rintro e w' ⟨rfl, rfl⟩
        go_wp2_with fail
        refine (HC.out _).mono ?_
        rintro e w' ⟨rfl, rfl⟩
        go_wp2_with fail
        refine (HW.out _).mono ?_
        rintro e w' ⟨rfl, rfl⟩
        go_wp2_with fail
        go_ret
        exact ⟨ret_b HM.out.symm, hb⟩
      · have HM : Hid (decide t.may = true) := Lib.hid (decide_eq_true ⟨hA, hC, by omega⟩)
        rw [hW] at HW
        clear hA hC hW
        go_enter Tryz.func186, Tryz.ntmps186
        go_wp2_with fail
        refine (HA.out _).mono ?_
        rintro e w' ⟨rfl, rfl⟩
        go_wp2_with fail
        refine (HC.out _).mono ?_
        rintro e w' ⟨rfl, rfl⟩
        go_wp2_with fail
        refine (HW.out _).mono ?_
        rintro e w' ⟨rfl, rfl⟩
        go_wp2_with fail
        go_ret
        exact ⟨ret_b HM.out.symm, hb⟩

set_option maxRecDepth 100000 in
theorem zput_no (t : Fou) (w : World) (h : ¬ t.may) : Calls Tryz.prog 176 #[t.v] w (GivesH 0 [] w) := by
  have HM := Lib.hid fun W => zmay_any t W
  rw [decide_eq_false h] at HM
  clear h
  go_enter Tryz.func176, Tryz.ntmps176
  go_wp2_with fail
  refine (HM.out _).mono ?_
  rintro e w1 ⟨rfl, hb⟩
  have hb1 : Below w.heap.size w w1 := ((Below.refl _ w).alloc (Nat.le_refl _) _).trans (hb.mono (by simp))
  clear hb
  go_wp2_with fail
  go_ret
  exact ⟨none, 0, rfl, rfl, Nat.le_refl _, Nat.zero_le _, Has.none_ _ _, hb1⟩

/-- A literal of four slices. -/
theorem hasBs_four (w : World) (T : TypeId) (b1 o1 n1 c1 b2 o2 n2 c2 b3 o3 n3 c3 b4 o4 n4 c4 : Nat) (l1 l2 l3 l4 : List UInt8)
    (h1 : Hid (Part w b1 o1 n1 c1 l1)) (h2 : Hid (Part w b2 o2 n2 c2 l2)) (h3 : Hid (Part w b3 o3 n3 c3 l3)) (h4 : Hid (Part w b4 o4 n4 c4 l4)) :
    HasBs (w.alloc (.cells #[.slice (some ⟨b1, o1, none⟩) n1 c1, .slice (some ⟨b2, o2, none⟩) n2 c2, .slice (some ⟨b3, o3, none⟩) n3 c3, .slice (some ⟨b4, o4, none⟩) n4 c4] T))
      (some ⟨w.heap.size, 0, none⟩) [l1, l2, l3, l4] := fun i l hl => by
  have hb : Below w.heap.size w (w.alloc (.cells #[.slice (some ⟨b1, o1, none⟩) n1 c1, .slice (some ⟨b2, o2, none⟩) n2 c2, .slice (some ⟨b3, o3, none⟩) n3 c3, .slice (some ⟨b4, o4, none⟩) n4 c4] T)) := (Below.refl _ w).alloc (Nat.le_refl _) _
  have hcell : ∀ v, (#[Value.slice (some ⟨b1, o1, none⟩) n1 c1, .slice (some ⟨b2, o2, none⟩) n2 c2, .slice (some ⟨b3, o3, none⟩) n3 c3, .slice (some ⟨b4, o4, none⟩) n4 c4] : Array Value)[0 + i]? = some v →
      (w.alloc (.cells #[.slice (some ⟨b1, o1, none⟩) n1 c1, .slice (some ⟨b2, o2, none⟩) n2 c2, .slice (some ⟨b3, o3, none⟩) n3 c3, .slice (some ⟨b4, o4, none⟩) n4 c4] T)).cell? ⟨w.heap.size, 0 + i, none⟩ = some v := fun v hv =>
    (cell_of_row _ w.heap.size (0 + i) _ T (0, 0) (heap_alloc_new w _)).trans hv
  match i, hl with
  | 0, hl => cases hl; exact ⟨_, _, _, _, _, rfl, hcell _ rfl, h1.out.1, h1.out.2.1, h1.out.2.2.1, h1.out.2.2.2.below hb, fun e => by cases e⟩
  | 1, hl => cases hl; exact ⟨_, _, _, _, _, rfl, hcell _ rfl, h2.out.1, h2.out.2.1, h2.out.2.2.1, h2.out.2.2.2.below hb, fun e => by cases e⟩
  | 2, hl => cases hl; exact ⟨_, _, _, _, _, rfl, hcell _ rfl, h3.out.1, h3.out.2.1, h3.out.2.2.1, h3.out.2.2.2.below hb, fun e => by cases e⟩
  | 3, hl => cases hl; exact ⟨_, _, _, _, _, rfl, hcell _ rfl, h4.out.1, h4.out.2.1, h4.out.2.2.1, h4.out.2.2.2.below hb, fun e => by cases e⟩

/-- The four cells of a relocation that lies at the head of a block. -/
def RelCells (w : World) (g : Nat) (a b c : Nat) (d : Int) : Prop := w.cell? ⟨g, 0, none⟩ = some (.int .i64 (a : Int)) ∧ w.cell? ⟨g, 1, none⟩ = some (.int .i64 (b : Int)) ∧ w.cell? ⟨g, 2, none⟩ = some (.int .i64 (c : Int)) ∧
  w.cell? ⟨g, 3, none⟩ = some (.int .i64 d)
theorem RelCells.later {w w' : World} {g a b c : Nat} {d : Int} (h : Hid (RelCells w g a b c d)) (hb : Below w.heap.size w w') : Hid (RelCells w' g a b c d) :=
  Lib.hid ⟨cell_later hb h.out.1, cell_later hb h.out.2.1, cell_later hb h.out.2.2.1, cell_later hb h.out.2.2.2⟩

set_option maxRecDepth 100000 in
set_option maxHeartbeats 4000000 in
theorem zput_yes (a b c : Nat) (d : Int) (w : World) (h : (Fou.mk a b c d).may) : Calls Tryz.prog 176 #[Fou.v ⟨a, b, c, d⟩] w (Gives (relB ⟨a, b, c, d⟩) w) := by
  have HM := Lib.hid fun W => zmay_any ⟨a, b, c, d⟩ W
  rw [decide_eq_true h] at HM
  obtain ⟨f0, f2, f1⟩ := h
  simp only [fitsB_iff] at f0 f2
  have g1 := widthI_pos f1
  simp only at g1
  have kw : ∀ v : Nat, v < 18446744073709551616 → IntKind.u64.wrap (v : Int) = (v : Int) := fun v hv => by rw [conv_u64, u64n_nat v hv]
  have ka := kw a (by omega)
  have kb := kw b (by omega)
  have kc := kw c (by omega)
  have kd := conv_u64 d
  have hdn := u64n_lt d
  have hrel : relB ⟨a, b, c, d⟩ = [leB 8 a, leB 4 b, leB 4 c, leB 8 (u64n d)].flatten := by
    have e1 : relB ⟨a, b, c, d⟩ = leB 8 (u64n a) ++ (leB 4 (u64n b) ++ (leB 4 (u64n c) ++ (leB 8 (u64n d) ++ []))) := rfl
    rw [e1, u64n_nat a (by omega), u64n_nat b (by omega), u64n_nat c (by omega)]
    rfl
  have HE := Lib.hid hrel
  generalize u64n d = y at *
  have P1 := Lib.hid fun W => put8 a W (by omega)
  have P2 := Lib.hid fun W => put4 b W (by omega)
  have P3 := Lib.hid fun W => put4 c W (by omega)
  have P4 := Lib.hid fun W => put8 y W hdn
  have hlen : [leB 8 a, leB 4 b, leB 4 c, leB 8 y].flatten.length = 24 := by simp [leB_length]
  have HL := Lib.hid hlen
  clear kw hrel hlen f0 f2 f1 g1 hdn
  go_enter Tryz.func176, Tryz.ntmps176
  go_wp2_with fail
  refine (HM.out _).mono ?_
  rintro e' w1 ⟨rfl, hb⟩
  have hb1 : Below w.heap.size w w1 := ((Below.refl _ w).alloc (Nat.le_refl _) _).trans (hb.mono (by simp))
  have S0 : Hid (RelCells w1.drew w.heap.size a b c d) := Lib.hid ⟨by rw [show w1.drew.cell? = w1.cell? from rfl, hb.cell (by simp)]; simp, by rw [show w1.drew.cell? = w1.cell? from rfl, hb.cell (by simp)]; simp, by rw [show w1.drew.cell? = w1.cell? from rfl, hb.cell (by simp)]; simp, by rw [show w1.drew.cell? = w1.cell? from rfl, hb.cell (by simp)]; simp⟩
  clear hb
  go_wp2_with fail
  go_region_held3 (fun w' => w'.cell? ⟨w.heap.size, 0, none⟩ = some (.int .i64 (a : Int)) ∧ w'.cell? ⟨w.heap.size, 1, none⟩ = some (.int .i64 (b : Int)) ∧ w'.cell? ⟨w.heap.size, 2, none⟩ = some (.int .i64 (c : Int)) ∧
      w'.cell? ⟨w.heap.size, 3, none⟩ = some (.int .i64 d))
    (first | exact S5.out | exact (RelCells.later S4 ((Below.refl _ w5).alloc (Nat.le_refl _) _)).out | exact S4.out | exact S3.out | exact S2.out | exact S1.out | exact S0.out | fail)
    ((first
      | (go_at_call 128
         have HB := hasBs_four w5 31 _ _ _ _ _ _ _ _ _ _ _ _ _ _ _ _ _ _ _ _ q14 q24 q34 q44
         refine (concat_any _ 4 4 _ _ HB rfl (by decide) (by rw [HL.out]; decide)).mono ?_
         rintro e' w6 ⟨v6, rfl, hown6, B6⟩
         have S5 := RelCells.later (RelCells.later S4 ((Below.refl _ w5).alloc (Nat.le_refl _) _)) B6
         have BB6 : Below w.heap.size w w6 := (BB4.alloc BB4.size _).trans (B6.mono (by exact (BB4.alloc BB4.size _).size))
         have hown7 := owns_lower hown6 (c := w.heap.size) (by exact (BB4.alloc BB4.size _).size))
      | (go_at_call 171
         have _guard := S3
         refine (P4.out _).mono ?_
         rintro e' w5 ⟨b4, o4, c4, rfl, q44, B4⟩
         have q14 := part_below q13 B4
         have q24 := part_below q23 B4
         have q34 := part_below q33 B4
         have S4 := RelCells.later S3 B4
         have BB4 : Below w.heap.size w w5 := BB3.trans (B4.mono (by exact BB3.size))
         clear B4 q13 q23 q33)
      | (go_at_call 171
         have _guard := S2
         refine (P3.out _).mono ?_
         rintro e' w4 ⟨b3, o3, c3, rfl, q33, B3⟩
         have q13 := part_below q12 B3
         have q23 := part_below q22 B3
         have S3 := RelCells.later S2 B3
         have BB3 : Below w.heap.size w w4 := BB2.trans (B3.mono (by exact BB2.size))
         clear B3 q12 q22)
      | (go_at_call 171
         have _guard := S1
         refine (P2.out _).mono ?_
         rintro e' w3 ⟨b2, o2, c2, rfl, q22, B2⟩
         have q12 := part_below q11 B2
         have S2 := RelCells.later S1 B2
         have BB2 : Below w.heap.size w w3 := BB1.trans (B2.mono (by exact BB1.size))
         clear B2 q11)
      | (go_at_call 171
         refine (P1.out _).mono ?_
         rintro e' w2 ⟨b1, o1, c1, rfl, q11, B1⟩
         have S1 := RelCells.later S0 B1
         have BB1 : Below w.heap.size w w2 := hb1.drew.trans (B1.mono (by exact hb1.size))
         clear B1)
      | fail))
  go_wp2_with fail
  go_ret
  exact ⟨_, rfl, by rw [HE.out]; exact hown7, BB6⟩

theorem zput_ok : ZPutOK := fun t w hd => by
  refine ⟨fun hm => ?_, fun hm => zput_no t w hm⟩
  obtain ⟨a, b, c, d⟩ := t
  have h' := hm
  obtain ⟨f0, f2, f1⟩ := h'
  simp only [fitsB_iff] at f0 f2
  have g1 := widthI_pos f1
  simp only at g1
  obtain ⟨a, rfl⟩ := Int.eq_ofNat_of_zero_le f0.1
  obtain ⟨b, rfl⟩ := Int.eq_ofNat_of_zero_le (show 0 ≤ b by omega)
  obtain ⟨c, rfl⟩ := Int.eq_ofNat_of_zero_le f2.1
  exact zput_yes a b c d w hm
end Go.Proofs.YthnkehdcolnegaaGreat
