/-
  What is got of an entry's bytes is what was put: symAt and entB. Nothing here walks the program.
  What the walks of layer sym ask of the project's Get and Put.
  Contracts of the library's slices.Grow and slices.Concat at slices of bytes: the bytes of all, one behind the other, in memory of the call's own.
  A slice of bytes behind an address of a row's, and the contract of le.Put in its words.
  Contracts of the project's sym: within, may, number, Put.
  Contract of the library's bytes.Equal at any two slices.
-/
import Derived.Test.YtenmcmnhiejbgaaGreatJg13
import Derived.Test.YtenmcmnhiejbgaaGreatJg02
import Derived.Lib.AppendZeros
import Derived.Test.YtenmcmnhiejbgaaGreatJg07
import Derived.Deep.RegionHeld3
import Derived.Test.YtenmcmnhiejbgaaGreatMem
namespace Go.Proofs.YtenmcmnhiejbgaaGreat
open Go.RowKit

theorem win_one {l : List UInt8} {a : Nat} {x : UInt8} (h : l[a]? = some x) : win l a 1 = [x] := by
  have hl : a < l.length := (List.getElem?_eq_some_iff.1 h).1
  have e : (l.take a).length = a := by simp; omega
  unfold win
  rw [List.take_add_one, h]
  exact List.drop_left' e
theorem one_win {l : List UInt8} {a : Nat} {x : UInt8} (h : win l a 1 = [x]) : l[a]? = some x := by
  have := win_get l a 1 0 (by omega)
  rw [h] at this
  simpa using this.symm

theorem symAt_iff (l : List UInt8) (a : Nat) (t : Six) : symAt l a = some t ↔ t.may ∧ a + 24 ≤ l.length ∧ entB t = win l a 24 := by
  constructor
  · intro h
    unfold symAt at h
    split at h
    · rename_i hc
      obtain ⟨_, h1, h2, h5⟩ := hc
      have ht : entAt l a = t := by simpa using h
      have h2' : (entAt l a).may := h2
      have h3 : a + 24 ≤ l.length := by omega
      obtain ⟨x, hx⟩ : ∃ x, l[a + 4]? = some x := ⟨_, List.getElem?_eq_getElem (by omega)⟩
      obtain ⟨y, hy⟩ : ∃ y, l[a + 5]? = some y := ⟨_, List.getElem?_eq_getElem (by omega)⟩
      have hy0 : y = 0 := by
        have e : l.getD (a + 5) 0 = y := by simp [List.getD, hy]
        rw [← e]
        exact h5
      have hxd : l.getD (a + 4) 0 = x := by simp [List.getD, hx]
      obtain ⟨f0, f4, f5, _, _, _, _, g1, g2⟩ := h2'
      simp only [entAt] at f0 f4 f5 g1 g2
      have f3 : fitsB (numI l (a + 6) 2) = true := (fitsB_iff _).2 ⟨g1, by omega⟩
      refine ⟨ht ▸ h2, h3, ?_⟩
      rw [← ht]
      have e : entB (entAt l a) = leB 4 (u64n (numI l a 4)) ++ (leB 1 (u64n (16 * (((l.getD (a + 4) 0).toNat : Int) / 16) + ((l.getD (a + 4) 0).toNat : Int) % 16)) ++ ([0] ++ (leB 2 (u64n (numI l (a + 6) 2)) ++ (leB 8 (u64n (numI l (a + 8) 8)) ++ (leB 8 (u64n (numI l (a + 16) 8)) ++ []))))) := rfl
      have ex : leB 1 (u64n (16 * ((x.toNat : Int) / 16) + (x.toNat : Int) % 16)) = win l (a + 4) 1 := by
        have : u64n (16 * ((x.toNat : Int) / 16) + (x.toNat : Int) % 16) = x.toNat := by
          have := x.toNat_lt
          unfold u64n
          omega
        rw [this, win_one hx]
        simp [leB]
      have ey : ([0] : List UInt8) = win l (a + 5) 1 := by rw [win_one hy, hy0]
      rw [e, hxd, ex, ey, leB_win (by omega) f0, leB_win (by omega) f3, leB_win (by omega) f4, leB_win (by omega) f5, List.append_nil]
      rw [win_append l (a + 8) 8 8, win_append l (a + 6) 2 16, win_append l (a + 5) 1 18, win_append l (a + 4) 1 19, win_append l a 4 20]
    · cases h
  · rintro ⟨hm, hl, hb⟩
    have hm' := hm
    obtain ⟨f0, f4, f5, b1, b2, c1, c2, d1, d2⟩ := hm'
    have f3 : fitsB t.d = true := (fitsB_iff _).2 ⟨d1, by omega⟩
    have g0 := numI_of (l := l) (a := a) f0 (k := 4) (by decide) (by rw [show a = a + 0 from rfl, ← win_win l a 24 0 4 (by omega), ← hb]; rfl)
    have w4 : win l (a + 4) 1 = leB 1 (u64n (16 * t.b + t.c)) := by rw [← win_win l a 24 4 1 (by omega), ← hb]; rfl
    have w5 : win l (a + 5) 1 = [0] := by rw [← win_win l a 24 5 1 (by omega), ← hb]; rfl
    have w6 : win l (a + 6) 2 = leB 2 (u64n t.d) := by rw [← win_win l a 24 6 2 (by omega), ← hb]; rfl
    have g4 := numI_of (l := l) (a := a + 8) f4 (k := 8) (by decide) (by rw [← win_win l a 24 8 8 (by omega), ← hb]; rfl)
    have g5 := numI_of (l := l) (a := a + 16) f5 (k := 8) (by decide) (by rw [← win_win l a 24 16 8 (by omega), ← hb]; rfl)
    have g3 : numI l (a + 6) 2 = t.d := by
      have hu : u64n t.d = t.d.toNat := by unfold u64n; omega
      have hn : num (win l (a + 6) 2) = t.d.toNat := by
        rw [w6, num_leB, hu, Nat.mod_eq_of_lt (by have : (256 : Nat) ^ 2 = 65536 := by decide
                                                  omega)]
      unfold numI
      rw [hn, if_pos (by omega)]
      omega
    have x4 := one_win (x := UInt8.ofNat (u64n (16 * t.b + t.c))) (by rw [w4]; rfl)
    have x5 := one_win w5
    have hu4 : u64n (16 * t.b + t.c) = (16 * t.b + t.c).toNat := by unfold u64n; omega
    have hx : ((UInt8.ofNat (u64n (16 * t.b + t.c))).toNat : Int) = 16 * t.b + t.c := by
      rw [hu4, UInt8.toNat_ofNat']
      omega
    have ht : entAt l a = t := by
      unfold entAt
      have e4 : l.getD (a + 4) 0 = UInt8.ofNat (u64n (16 * t.b + t.c)) := by simp [List.getD, x4]
      rw [g0, g3, g4, g5, e4, hx]
      have q1 : (16 * t.b + t.c) / 16 = t.b := by omega
      have q2 : (16 * t.b + t.c) % 16 = t.c := by omega
      rw [q1, q2]
    unfold symAt
    have e : ((a : Int)).toNat = a := rfl
    rw [e, ht, if_pos ⟨by omega, by omega, hm, by simp [List.getD, x5]⟩]

end Go.Proofs.YtenmcmnhiejbgaaGreat

namespace Go.Proofs.YtenmcmnhiejbgaaGreat
open Go.RowKit

/-- What Get tells, of any place. -/
def YGetOK : Prop := ∀ (p : Option Addr) (len cap : Nat) (l : List UInt8) (at_ : Int) (w : World), Has w p l → l.length = len → len ≤ cap → cap ≤ maxLen → len ≤ 100000 → -9223372036854775808 ≤ at_ → at_ ≤ 9223372036854775807 →
    Calls Tryz.prog 120 #[.slice p len cap, .int .i64 at_] w fun e w' => e = .returned (.tuple #[(symV (symAt l at_)).1, .bool (symV (symAt l at_)).2]) ∧ Below w.heap.size w w'
/-- What Put tells. -/
def YPutOK : Prop := ∀ (t : Six) (w : World), (t.may → Calls Tryz.prog 115 #[t.v] w (Gives (entB t) w)) ∧ (¬ t.may → Calls Tryz.prog 115 #[t.v] w (GivesH 0 [] w))

theorem symbol_any (p : Option Addr) (len cap : Nat) (l : List UInt8) (at_ : Int) (w : World) (h : Has w p l) (hlen : l.length = len) (hcap : len ≤ cap) (hbig : len ≤ 1000000000) (ha : at_ ≤ 9223372036854775807) :
    Calls Tryz.prog 60 #[.slice p len cap, .int .i64 at_] w fun e w' => e = .returned (.tuple #[(symV (symAt l at_)).1, .bool (symV (symAt l at_)).2]) ∧ Below w.heap.size w w' := by
  by_cases hin : 0 ≤ at_ ∧ at_ + 24 ≤ len
  · obtain ⟨a, rfl⟩ := Int.eq_ofNat_of_zero_le hin.1
    exact symbol_in p len cap a l w h hlen hcap (by omega) hbig
  · have e : symAt l at_ = none := by
      unfold symAt
      rw [if_neg fun hc => hin ⟨hc.1, by omega⟩]
    rw [e]
    exact symbol_out p len cap at_ w (by omega) ha hbig

end Go.Proofs.YtenmcmnhiejbgaaGreat

namespace Go.Proofs.YtenmcmnhiejbgaaGreat
open Go.RowKit

set_option maxRecDepth 100000 in
theorem grow_nil (n : Nat) (w : World) (hn : n ≤ 1000000000) :
    Calls Tryz.prog 110 #[.slice none 0 0, .int .i64 (n : Int)] w fun e w' => ∃ v, e = .returned v ∧ w'.ownsRow w.heap.size 5 1 v 0 [] ∧ Below w.heap.size w w' := by
  rcases Nat.eq_zero_or_pos n with rfl | h0
  · go_enter Tryz.func110, Tryz.ntmps110
    go_wp2_with fail
    go_ret
    exact ⟨_, rfl, World.ownsRow_nil _ _ _ _, Below.refl _ _⟩
  · obtain ⟨i0, hi, hz0, hz1, hz2⟩ := info_parts Tryz.infoU8
    have happ := Lib.run_append_nil_zeros (P := Tryz.prog) w 31 3 31 5 i0 (.int .u8 0) .i64 .i64 Tryz.underlying31 Tryz.underlying3 hi hz0 n h0 (by omega) (by omega) (by rw [hz2]; omega)
    have hc1 : n ≤ grownCap w n 0 5 := grownCap_ge w n 0 _
    have hc2 : grownCap w n 0 5 ≤ maxLen := grownCap_le_maxLen w n 0 _ (by unfold maxLen; omega)
    generalize grownCap w n 0 5 = cap at *
    have hzs : (Builtin.zeroCells (Value.int .u8 0).cells n ++ Builtin.zeroCells (Value.int .u8 0).cells (cap - n)).size = cap := by simp [size_zeroCells, Value.cells]; omega
    generalize (Builtin.zeroCells (Value.int .u8 0).cells n ++ Builtin.zeroCells (Value.int .u8 0).cells (cap - n)) = Z at *
    have HA := Lib.hid happ
    have HZ := Lib.hid hzs
    have hcp : ¬ cap = 0 := by omega
    clear happ hi hz0 hz1 hz2 hzs
    go_enter Tryz.func110, Tryz.ntmps110
    go_wp2_with (at_builtin; refine Lib.wpList_append_run _ rfl _ _ _ _ rfl _ _ rfl rfl _ _ HA.out ?_)
    go_wp2_with fail
    go_ret
    refine ⟨_, rfl, ⟨by simp, .inr ⟨w.heap.size, cap, Z, rfl, Nat.le_refl _, ?_, Nat.zero_le _, hc2, by rw [HZ.out, Nat.mul_one], by simp⟩⟩, ?_⟩
    · exact heap_alloc_new w _
    · exact ((Below.refl _ w).alloc (Nat.le_refl _) _).drew

/-- Behind the address p lie slices of the bytes bs, one a cell. -/
def HasBs (w : World) (p : Option Addr) (bs : List (List UInt8)) : Prop :=
  ∀ i l, bs[i]? = some l → ∃ g o q n c, p = some ⟨g, o, none⟩ ∧ w.cell? ⟨g, o + i, none⟩ = some (.slice q n c) ∧ l.length = n ∧ n ≤ c ∧ c ≤ maxLen ∧ Has w q l ∧ (q = none → c = 0)
theorem HasBs.below {w w' : World} {p : Option Addr} {bs : List (List UInt8)} (h : HasBs w p bs) (hb : Below w.heap.size w w') : HasBs w' p bs := fun i l hl => by
  obtain ⟨g, o, q, n, c, hp, hc, h1, h2, h3, h4, h5⟩ := h i l hl
  exact ⟨g, o, q, n, c, hp, (hb.cell (World.block_lt_of_cell? w _ hc)).trans hc, h1, h2, h3, h4.below hb, h5⟩
theorem flatten_take_succ {bs : List (List UInt8)} {k : Nat} {l : List UInt8} (h : bs[k]? = some l) : (bs.take (k + 1)).flatten = (bs.take k).flatten ++ l := by
  rw [List.take_add_one, h]; simp
theorem flatten_take_le (bs : List (List UInt8)) (k : Nat) : (bs.take k).flatten.length ≤ bs.flatten.length := by
  have e : bs.flatten = (bs.take k).flatten ++ (bs.drop k).flatten := by rw [← List.flatten_append, List.take_append_drop]
  have := congrArg List.length e
  rw [List.length_append] at this
  omega

set_option maxRecDepth 100000 in
set_option maxHeartbeats 1000000 in
theorem concat_any (p : Option Addr) (m c : Nat) (bs : List (List UInt8)) (w : World) (h : HasBs w p bs) (hlen : bs.length = m) (hm : m ≤ 1000000) (hsum : bs.flatten.length ≤ 100000000) :
    Calls Tryz.prog 72 #[.slice p m c] w (Gives bs.flatten w) := by
  obtain ⟨i0, hi, hz0, hz1, hz2⟩ := info_parts Tryz.infoU8
  have HI := Lib.hid hi
  have H0 := Lib.hid hz0
  have H1 := Lib.hid hz1
  have H2 := Lib.hid hz2
  have HX := Lib.hid h
  have HL := Lib.hid hlen
  have HS := Lib.hid (fun k => flatten_take_le bs k)
  have HSUM := Lib.hid hsum
  clear h hlen hi hz0 hz1 hz2 hsum
  go_enter Tryz.func72, Tryz.ntmps72
  go_wp2_with fail
  go_loop [3, 5, 11] (fun sz _ ii => ∃ k q : Nat, k ≤ m ∧ q = (bs.take k).flatten.length ∧ ii = .int .i64 (k : Int) ∧ sz = .int .i64 (q : Int)) (fun _ _ ii => m - (intOf ii).toNat)
  case atStart => exact ⟨0, 0, Nat.zero_le _, by simp, rfl, rfl⟩
  case round =>
    obtain ⟨k, q, hk, hq, rfl, rfl⟩ := hrel
    have HQ := Lib.hid hq
    have hq1 : q ≤ 100000000 := by have := HS.out k; have := HSUM.out; omega
    by_cases hlt : k < m
    · obtain ⟨l, hl⟩ : ∃ l, bs[k]? = some l := ⟨_, List.getElem?_eq_getElem (by rw [HL.out]; exact hlt)⟩
      obtain ⟨g, o, r, n, c', rfl, hc, hn, hnc, hcm, _, _⟩ := HX.out k l hl
      have ht := flatten_take_succ hl
      have hq2 : q + n = (bs.take (k + 1)).flatten.length := by rw [ht, List.length_append, ← hq, hn]
      have HQ2 := Lib.hid hq2
      have hq3 : q + n ≤ 100000000 := by have := HS.out (k + 1); have := HSUM.out; omega
      have hI : (k : Int) < (m : Int) := by omega
      have hI0 : (0 : Int) ≤ (k : Int) := by omega
      clear hq hq2 ht hl hn
      go_wp2_with fail
      go_round
      case rel => exact ⟨k + 1, q + n, hlt, HQ2.out, by go_num, by go_num⟩
      case measure => simp [intOf]; omega
    · have hkm : k = m := by omega
      have HK := Lib.hid hkm
      have hq0 : ¬ (q : Int) < 0 := by omega
      clear hq hkm
      have HG := Lib.hid fun W => grow_nil q W (by omega)
      go_wp2_with fail
      refine (HG.out _).mono ?_
      rintro e w1 ⟨v1, rfl, hown1, hb1⟩
      clear HG HQ hq1 hq0 HK hk hlt
      go_wp2_with fail
      go_loopw [6, 8, 27] (fun v _ ii wr => ∃ k q : Nat, k ≤ m ∧ q = (bs.take k).flatten.length ∧ ii = .int .i64 (k : Int) ∧ wr.ownsRow w.heap.size 5 1 v q (((bs.take k).flatten).map u8v) ∧ Below w.heap.size w wr) (fun _ _ ii _ => m - (intOf ii).toNat)
      case atStart => exact ⟨0, 0, Nat.zero_le _, by simp, rfl, by simpa using hown1, hb1⟩
      case round =>
        obtain ⟨k, q, hk, hq, rfl, hown, hb⟩ := hrel
        have HQ := Lib.hid hq
        have hq1 : q ≤ 100000000 := by have := HS.out k; have := HSUM.out; omega
        clear hown1 hb1
        by_cases hlt : k < m
        · obtain ⟨l, hl⟩ : ∃ l, bs[k]? = some l := ⟨_, List.getElem?_eq_getElem (by rw [HL.out]; exact hlt)⟩
          obtain ⟨g, o, r, n, c', rfl, hc, hn, hnc, hcm, hhas, hnil⟩ := HX.out k l hl
          have ht := flatten_take_succ hl
          have hq2 : q + n = (bs.take (k + 1)).flatten.length := by rw [ht, List.length_append, ← hq, hn]
          have HQ2 := Lib.hid hq2
          have HT := Lib.hid ht
          have HN := Lib.hid hn
          have hq3 : q + n ≤ 100000000 := by have := HS.out (k + 1); have := HSUM.out; omega
          have hI : (k : Int) < (m : Int) := by omega
          have hI0 : (0 : Int) ≤ (k : Int) := by omega
          have hcl := cell_later hb hc
          have HH := Lib.hid (hhas.below hb)
          have HNIL := Lib.hid hnil
          clear hq hq2 ht hl hn hc hhas hnil
          go_wp2_with (at_builtin; refine wpList_append_bytes _ rfl _ _ 31 rfl w.heap.size 5 i0 Tryz.underlying31 HI.out H0.out H1.out H2.out _ q _ rfl hown r n c' l rfl HH.out HN.out HNIL.out (by omega) hb.size ?_)
          intro v2 w2 hown2 hgrow2 _
          have hb2 : Below w.heap.size w w2 := hb.grown hgrow2 hb.size (fun g hg => (hown.lt g hg).1)
          have hown3 : w2.ownsRow w.heap.size 5 1 v2 (q + n) (((bs.take (k + 1)).flatten).map u8v) := by
            rw [HT.out]
            simpa using hown2
          clear hgrow2 hown hb hcl hown2
          go_wp2_with fail
          go_roundw
          case rel => exact ⟨k + 1, q + n, hlt, HQ2.out, by go_num, hown3, hb2⟩
          case measure => simp [intOf]; omega
        · obtain rfl : k = m := by omega
          have ht : bs.take k = bs := List.take_of_length_le (by rw [HL.out]; exact Nat.le_refl _)
          rw [ht] at hown hq
          have HO := Lib.hid hown
          have HQ2 := Lib.hid hq
          clear ht hown hq
          go_wp2_with fail
          go_ret
          exact ⟨_, rfl, by rw [← HQ2.out]; exact HO.out, hb⟩

end Go.Proofs.YtenmcmnhiejbgaaGreat

namespace Go.Proofs.YtenmcmnhiejbgaaGreat
open Go.RowKit

/-- A slice of the n bytes l, behind an address of a row's. -/
def Part (w : World) (b o n c : Nat) (l : List UInt8) : Prop := l.length = n ∧ n ≤ c ∧ c ≤ maxLen ∧ Has w (some ⟨b, o, none⟩) l
theorem Part.below {w w' : World} {b o n c : Nat} {l : List UInt8} (h : Part w b o n c l) (hb : Below w.heap.size w w') : Part w' b o n c l := ⟨h.1, h.2.1, h.2.2.1, h.2.2.2.below hb⟩
theorem part_below {w w' : World} {b o n c : Nat} {l : List UInt8} (h : Hid (Part w b o n c l)) (hb : Below w.heap.size w w') : Hid (Part w' b o n c l) := Lib.hid (h.out.below hb)
def PG (n : Nat) (l : List UInt8) (W : World) (e : Ending) (w' : World) : Prop := ∃ b o c, e = .returned (.slice (some ⟨b, o, none⟩) n c) ∧ Hid (Part w' b o n c l) ∧ Below W.heap.size W w'
theorem putP (v n : Nat) (W : World) (hv : v < 18446744073709551616) (hn : wid n = true) : Calls Tryz.prog 107 #[.int .u64 v, .int .i64 n] W (PG n (leB n v) W) := by
  refine (put_yes v n W hv hn).mono ?_
  rintro e w' ⟨v', rfl, hown, hb⟩
  obtain ⟨p, c, rfl, h1, h2, h3, h4⟩ := Has.of_owns hown
  have hn' := (wid_iff _).1 hn
  rw [leB_length] at h1 h3
  obtain ⟨b, o, rfl, _⟩ := h4.plain (by rw [leB_length]; omega)
  exact ⟨b, o, c, by rw [leB_length], Lib.hid ⟨by rw [leB_length], h1, h2, h4⟩, hb⟩
theorem put1 (v : Nat) (W : World) (hv : v < 18446744073709551616) : Calls Tryz.prog 107 #[.int .u64 v, .int .i64 1] W (PG 1 (leB 1 v) W) := putP v 1 W hv rfl
theorem put2 (v : Nat) (W : World) (hv : v < 18446744073709551616) : Calls Tryz.prog 107 #[.int .u64 v, .int .i64 2] W (PG 2 (leB 2 v) W) := putP v 2 W hv rfl
theorem put4 (v : Nat) (W : World) (hv : v < 18446744073709551616) : Calls Tryz.prog 107 #[.int .u64 v, .int .i64 4] W (PG 4 (leB 4 v) W) := putP v 4 W hv rfl
theorem put8 (v : Nat) (W : World) (hv : v < 18446744073709551616) : Calls Tryz.prog 107 #[.int .u64 v, .int .i64 8] W (PG 8 (leB 8 v) W) := putP v 8 W hv rfl
theorem put10 (W : World) : Calls Tryz.prog 107 #[.int .u64 0, .int .i64 1] W (PG 1 [0] W) := putP 0 1 W (by decide) rfl

end Go.Proofs.YtenmcmnhiejbgaaGreat

namespace Go.Proofs.YtenmcmnhiejbgaaGreat
open Go.RowKit

def inB (n m : Int) : Bool := decide (0 ≤ n) && decide (n ≤ m)
theorem inB_iff (n m : Int) : inB n m = true ↔ 0 ≤ n ∧ n ≤ m := by simp [inB]
set_option maxRecDepth 100000 in
theorem within_any (n m : Int) (w : World) : Calls Tryz.prog 137 #[.int .i64 n, .int .i64 m] w fun e w' => e = .returned (.bool (inB n m)) ∧ w = w' := by
  by_cases h0 : 0 ≤ n
  · by_cases h1 : n ≤ m
    · have H : Hid (inB n m = true) := Lib.hid (by simp [inB, h0, h1])
      go_enter Tryz.func137, Tryz.ntmps137
      go_wp2_with fail
      go_ret
      exact ⟨ret_b H.out.symm, rfl⟩
    · have H : Hid (inB n m = false) := Lib.hid (by simp [inB, h1])
      go_enter Tryz.func137, Tryz.ntmps137
      go_wp2_with fail
      go_ret
      exact ⟨ret_b H.out.symm, rfl⟩
  · have H : Hid (inB n m = false) := Lib.hid (by simp [inB, h0])
    go_enter Tryz.func137, Tryz.ntmps137
    go_wp2_with fail
    go_ret
    exact ⟨ret_b H.out.symm, rfl⟩

theorem six_may (t : Six) : t.may ↔ inB t.a 2147483647 = true ∧ inB t.b 2 = true ∧ inB t.c 3 = true ∧ inB t.d 65535 = true ∧ inB t.e 2147483647 = true ∧ inB t.f 2147483647 = true := by
  unfold Six.may
  simp only [fitsB_iff, inB_iff]
  omega

set_option maxRecDepth 100000 in
set_option maxHeartbeats 1000000 in
theorem ymay_any (t : Six) (w : World) : Calls Tryz.prog 130 #[t.v] w fun e w' => e = .returned (.bool (decide t.may)) ∧ Below w.heap.size w w' := by
  have hb := (Below.refl _ w).alloc (Nat.le_refl _) (.cells #[.int .i64 t.a, .int .i64 t.b, .int .i64 t.c, .int .i64 t.d, .int .i64 t.e, .int .i64 t.f] 173)
  have hm := six_may t
  cases hA : inB t.a 2147483647 with
  | false =>
    have HM : Hid (decide t.may = false) := Lib.hid (decide_eq_false (by rw [hm, hA]; simp))
    clear hm
    go_enter Tryz.func130, Tryz.ntmps130
    go_wp2_with (go_at_call 137; refine (within_any _ _ _).mono ?_; rintro e w' ⟨rfl, rfl⟩)
    go_ret
    exact ⟨ret_b HM.out.symm, hb⟩
  | true =>
    cases hB : inB t.b 2 with
    | false =>
      have HM : Hid (decide t.may = false) := Lib.hid (decide_eq_false (by rw [hm, hB]; simp))
      clear hm
      go_enter Tryz.func130, Tryz.ntmps130
      go_wp2_with (go_at_call 137; refine (within_any _ _ _).mono ?_; rintro e w' ⟨rfl, rfl⟩)
      go_ret
      exact ⟨ret_b HM.out.symm, hb⟩
    | true =>
      cases hC : inB t.c 3 with
      | false =>
        have HM : Hid (decide t.may = false) := Lib.hid (decide_eq_false (by rw [hm, hC]; simp))
        clear hm
        go_enter Tryz.func130, Tryz.ntmps130
        go_wp2_with (go_at_call 137; refine (within_any _ _ _).mono ?_; rintro e w' ⟨rfl, rfl⟩)
        go_ret
        exact ⟨ret_b HM.out.symm, hb⟩
      | true =>
        cases hD : inB t.d 65535 with
        | false =>
          have HM : Hid (decide t.may = false) := Lib.hid (decide_eq_false (by rw [hm, hD]; simp))
          clear hm
          go_enter Tryz.func130, Tryz.ntmps130
          go_wp2_with (go_at_call 137; refine (within_any _ _ _).mono ?_; rintro e w' ⟨rfl, rfl⟩)
          go_ret
          exact ⟨ret_b HM.out.symm, hb⟩
        | true =>
          cases hE : inB t.e 2147483647 with
          | false =>
            have HM : Hid (decide t.may = false) := Lib.hid (decide_eq_false (by rw [hm, hE]; simp))
            clear hm
            go_enter Tryz.func130, Tryz.ntmps130
            go_wp2_with (go_at_call 137; refine (within_any _ _ _).mono ?_; rintro e w' ⟨rfl, rfl⟩)
            go_ret
            exact ⟨ret_b HM.out.symm, hb⟩
          | true =>
            cases hF : inB t.f 2147483647 with
            | false =>
              have HM : Hid (decide t.may = false) := Lib.hid (decide_eq_false (by rw [hm, hF]; simp))
              clear hm
              go_enter Tryz.func130, Tryz.ntmps130
              go_wp2_with (go_at_call 137; refine (within_any _ _ _).mono ?_; rintro e w' ⟨rfl, rfl⟩)
              go_ret
              exact ⟨ret_b HM.out.symm, hb⟩
            | true =>
              have HM : Hid (decide t.may = true) := Lib.hid (decide_eq_true (hm.2 ⟨hA, hB, hC, hD, hE, hF⟩))
              clear hm
              go_enter Tryz.func130, Tryz.ntmps130
              go_wp2_with (go_at_call 137; refine (within_any _ _ _).mono ?_; rintro e w' ⟨rfl, rfl⟩)
              go_ret
              exact ⟨ret_b HM.out.symm, hb⟩

set_option maxRecDepth 100000 in
theorem yput_no (t : Six) (w : World) (h : ¬ t.may) : Calls Tryz.prog 115 #[t.v] w (GivesH 0 [] w) := by
  have HM := Lib.hid fun W => ymay_any t W
  rw [decide_eq_false h] at HM
  clear h
  go_enter Tryz.func115, Tryz.ntmps115
  go_wp2_with fail
  refine (HM.out _).mono ?_
  rintro e w1 ⟨rfl, hb⟩
  have hb1 : Below w.heap.size w w1 := ((Below.refl _ w).alloc (Nat.le_refl _) _).trans (hb.mono (by simp))
  clear hb
  go_wp2_with fail
  go_ret
  exact ⟨none, 0, rfl, rfl, Nat.le_refl _, Nat.zero_le _, Has.none_ _ _, hb1⟩

/-- A literal of slices. -/
theorem hasBs_six (w : World) (T : TypeId) (b1 o1 n1 c1 b2 o2 n2 c2 b3 o3 n3 c3 b4 o4 n4 c4 b5 o5 n5 c5 b6 o6 n6 c6 : Nat) (l1 l2 l3 l4 l5 l6 : List UInt8)
    (h1 : Hid (Part w b1 o1 n1 c1 l1)) (h2 : Hid (Part w b2 o2 n2 c2 l2)) (h3 : Hid (Part w b3 o3 n3 c3 l3)) (h4 : Hid (Part w b4 o4 n4 c4 l4)) (h5 : Hid (Part w b5 o5 n5 c5 l5)) (h6 : Hid (Part w b6 o6 n6 c6 l6)) :
    HasBs (w.alloc (.cells #[.slice (some ⟨b1, o1, none⟩) n1 c1, .slice (some ⟨b2, o2, none⟩) n2 c2, .slice (some ⟨b3, o3, none⟩) n3 c3, .slice (some ⟨b4, o4, none⟩) n4 c4, .slice (some ⟨b5, o5, none⟩) n5 c5, .slice (some ⟨b6, o6, none⟩) n6 c6] T))
      (some ⟨w.heap.size, 0, none⟩) [l1, l2, l3, l4, l5, l6] := fun i l hl => by
  have hb : Below w.heap.size w (w.alloc (.cells #[.slice (some ⟨b1, o1, none⟩) n1 c1, .slice (some ⟨b2, o2, none⟩) n2 c2, .slice (some ⟨b3, o3, none⟩) n3 c3, .slice (some ⟨b4, o4, none⟩) n4 c4, .slice (some ⟨b5, o5, none⟩) n5 c5, .slice (some ⟨b6, o6, none⟩) n6 c6] T)) := (Below.refl _ w).alloc (Nat.le_refl _) _
  have hcell : ∀ v, (#[Value.slice (some ⟨b1, o1, none⟩) n1 c1, .slice (some ⟨b2, o2, none⟩) n2 c2, .slice (some ⟨b3, o3, none⟩) n3 c3, .slice (some ⟨b4, o4, none⟩) n4 c4, .slice (some ⟨b5, o5, none⟩) n5 c5, .slice (some ⟨b6, o6, none⟩) n6 c6] : Array Value)[0 + i]? = some v →
      (w.alloc (.cells #[.slice (some ⟨b1, o1, none⟩) n1 c1, .slice (some ⟨b2, o2, none⟩) n2 c2, .slice (some ⟨b3, o3, none⟩) n3 c3, .slice (some ⟨b4, o4, none⟩) n4 c4, .slice (some ⟨b5, o5, none⟩) n5 c5, .slice (some ⟨b6, o6, none⟩) n6 c6] T)).cell? ⟨w.heap.size, 0 + i, none⟩ = some v := fun v hv =>
    (cell_of_row _ w.heap.size (0 + i) _ T (0, 0) (heap_alloc_new w _)).trans hv
  match i, hl with
  | 0, hl => cases hl; exact ⟨_, _, _, _, _, rfl, hcell _ rfl, h1.out.1, h1.out.2.1, h1.out.2.2.1, h1.out.2.2.2.below hb, fun e => by cases e⟩
  | 1, hl => cases hl; exact ⟨_, _, _, _, _, rfl, hcell _ rfl, h2.out.1, h2.out.2.1, h2.out.2.2.1, h2.out.2.2.2.below hb, fun e => by cases e⟩
  | 2, hl => cases hl; exact ⟨_, _, _, _, _, rfl, hcell _ rfl, h3.out.1, h3.out.2.1, h3.out.2.2.1, h3.out.2.2.2.below hb, fun e => by cases e⟩
  | 3, hl => cases hl; exact ⟨_, _, _, _, _, rfl, hcell _ rfl, h4.out.1, h4.out.2.1, h4.out.2.2.1, h4.out.2.2.2.below hb, fun e => by cases e⟩
  | 4, hl => cases hl; exact ⟨_, _, _, _, _, rfl, hcell _ rfl, h5.out.1, h5.out.2.1, h5.out.2.2.1, h5.out.2.2.2.below hb, fun e => by cases e⟩
  | 5, hl => cases hl; exact ⟨_, _, _, _, _, rfl, hcell _ rfl, h6.out.1, h6.out.2.1, h6.out.2.2.1, h6.out.2.2.2.below hb, fun e => by cases e⟩

/-- The six cells of an entry that lies at the head of a block. -/
def SixAt (w : World) (g : Nat) (a b c d e f : Nat) : Prop := w.cell? ⟨g, 0, none⟩ = some (.int .i64 (a : Int)) ∧ w.cell? ⟨g, 1, none⟩ = some (.int .i64 (b : Int)) ∧ w.cell? ⟨g, 2, none⟩ = some (.int .i64 (c : Int)) ∧
  w.cell? ⟨g, 3, none⟩ = some (.int .i64 (d : Int)) ∧ w.cell? ⟨g, 4, none⟩ = some (.int .i64 (e : Int)) ∧ w.cell? ⟨g, 5, none⟩ = some (.int .i64 (f : Int))
theorem SixAt.later {w w' : World} {g a b c d e f : Nat} (h : Hid (SixAt w g a b c d e f)) (hb : Below w.heap.size w w') : Hid (SixAt w' g a b c d e f) :=
  Lib.hid ⟨cell_later hb h.out.1, cell_later hb h.out.2.1, cell_later hb h.out.2.2.1, cell_later hb h.out.2.2.2.1, cell_later hb h.out.2.2.2.2.1, cell_later hb h.out.2.2.2.2.2⟩

set_option maxRecDepth 100000 in
set_option maxHeartbeats 4000000 in
theorem yput_yes (a b c d e f : Nat) (w : World) (h : (Six.mk a b c d e f).may) : Calls Tryz.prog 115 #[Six.v ⟨a, b, c, d, e, f⟩] w (Gives (entB ⟨a, b, c, d, e, f⟩) w) := by
  have HM := Lib.hid fun W => ymay_any ⟨a, b, c, d, e, f⟩ W
  rw [decide_eq_true h] at HM
  obtain ⟨f0, f4, f5, x1, x2, x3, x4, x5, x6⟩ := h
  simp only [fitsB_iff] at f0 f4 f5 x1 x2 x3 x4 x5 x6
  obtain ⟨y, hy⟩ : ∃ y, y = 16 * b + c := ⟨_, rfl⟩
  have k1 : IntKind.i64.wrap (16 * (b : Int)) = 16 * (b : Int) := IntWalk.i64_in _ (by omega)
  have k2 : IntKind.i64.wrap (16 * (b : Int) + (c : Int)) = (y : Int) := by rw [IntWalk.i64_in _ (by omega)]; omega
  have kw : ∀ v : Nat, v < 18446744073709551616 → IntKind.u64.wrap (v : Int) = (v : Int) := fun v hv => by rw [conv_u64, u64n_nat v hv]
  have ka := kw a (by omega)
  have ky := kw y (by omega)
  have kd := kw d (by omega)
  have ke := kw e (by omega)
  have kf := kw f (by omega)
  have P1 := Lib.hid fun W => put4 a W (by omega)
  have P2 := Lib.hid fun W => put1 y W (by omega)
  have P3 := Lib.hid put10
  have P4 := Lib.hid fun W => put2 d W (by omega)
  have P5 := Lib.hid fun W => put8 e W (by omega)
  have P6 := Lib.hid fun W => put8 f W (by omega)
  have hent : entB ⟨a, b, c, d, e, f⟩ = [leB 4 a, leB 1 y, [0], leB 2 d, leB 8 e, leB 8 f].flatten := by
    have e1 : entB ⟨a, b, c, d, e, f⟩ = leB 4 (u64n a) ++ (leB 1 (u64n (16 * (b : Int) + c)) ++ ([0] ++ (leB 2 (u64n d) ++ (leB 8 (u64n e) ++ (leB 8 (u64n f) ++ []))))) := rfl
    have e2 : (16 * (b : Int) + c) = (y : Int) := by omega
    rw [e1, e2, u64n_nat a (by omega), u64n_nat y (by omega), u64n_nat d (by omega), u64n_nat e (by omega), u64n_nat f (by omega)]
    rfl
  have HE := Lib.hid hent
  have hlen : [leB 4 a, leB 1 y, [0], leB 2 d, leB 8 e, leB 8 f].flatten.length = 24 := by simp [leB_length]
  have HL := Lib.hid hlen
  clear kw hent hlen f0 f4 f5 x1 x2 x3 x4 x5 x6 hy
  go_enter Tryz.func115, Tryz.ntmps115
  go_wp2_with fail
  refine (HM.out _).mono ?_
  rintro e' w1 ⟨rfl, hb⟩
  have hb1 : Below w.heap.size w w1 := ((Below.refl _ w).alloc (Nat.le_refl _) _).trans (hb.mono (by simp))
  have S0 : Hid (SixAt w1.drew w.heap.size a b c d e f) := Lib.hid ⟨by rw [show w1.drew.cell? = w1.cell? from rfl, hb.cell (by simp)]; simp, by rw [show w1.drew.cell? = w1.cell? from rfl, hb.cell (by simp)]; simp, by rw [show w1.drew.cell? = w1.cell? from rfl, hb.cell (by simp)]; simp, by rw [show w1.drew.cell? = w1.cell? from rfl, hb.cell (by simp)]; simp, by rw [show w1.drew.cell? = w1.cell? from rfl, hb.cell (by simp)]; simp, by rw [show w1.drew.cell? = w1.cell? from rfl, hb.cell (by simp)]; simp⟩
  clear hb
  go_wp2_with fail
  go_region_held3 (fun w' => w'.cell? ⟨w.heap.size, 0, none⟩ = some (.int .i64 (a : Int)) ∧ w'.cell? ⟨w.heap.size, 1, none⟩ = some (.int .i64 (b : Int)) ∧ w'.cell? ⟨w.heap.size, 2, none⟩ = some (.int .i64 (c : Int)) ∧
      w'.cell? ⟨w.heap.size, 3, none⟩ = some (.int .i64 (d : Int)) ∧ w'.cell? ⟨w.heap.size, 4, none⟩ = some (.int .i64 (e : Int)) ∧ w'.cell? ⟨w.heap.size, 5, none⟩ = some (.int .i64 (f : Int)))
    (first | exact S7.out | exact (SixAt.later S6 ((Below.refl _ w7).alloc (Nat.le_refl _) _)).out | exact S6.out | exact S5.out | exact S4.out | exact S3.out | exact S2.out | exact S1.out | exact S0.out | fail)
    ((first
      | (go_at_call 72
         have HB := hasBs_six w7 31 _ _ _ _ _ _ _ _ _ _ _ _ _ _ _ _ _ _ _ _ _ _ _ _ _ _ _ _ _ _ q16 q26 q36 q46 q56 q66
         refine (concat_any _ 6 6 _ _ HB rfl (by decide) (by rw [HL.out]; decide)).mono ?_
         rintro e' w8 ⟨v8, rfl, hown8, B8⟩
         have S7 := SixAt.later (SixAt.later S6 ((Below.refl _ w7).alloc (Nat.le_refl _) _)) B8
         have BB8 : Below w.heap.size w w8 := (BB6.alloc BB6.size _).trans (B8.mono (by exact (BB6.alloc BB6.size _).size))
         have hown9 := owns_lower hown8 (c := w.heap.size) (by exact (BB6.alloc BB6.size _).size))
      | (go_at_call 107
         have _guard := S5
         refine (P6.out _).mono ?_
         rintro e' w7 ⟨b6, o6, c6, rfl, q66, B6⟩
         have q16 := part_below q15 B6
         have q26 := part_below q25 B6
         have q36 := part_below q35 B6
         have q46 := part_below q45 B6
         have q56 := part_below q55 B6
         have S6 := SixAt.later S5 B6
         have BB6 : Below w.heap.size w w7 := BB5.trans (B6.mono (by exact BB5.size))
         clear B6 q15 q25 q35 q45 q55)
      | (go_at_call 107
         have _guard := S4
         refine (P5.out _).mono ?_
         rintro e' w6 ⟨b5, o5, c5, rfl, q55, B5⟩
         have q15 := part_below q14 B5
         have q25 := part_below q24 B5
         have q35 := part_below q34 B5
         have q45 := part_below q44 B5
         have S5 := SixAt.later S4 B5
         have BB5 : Below w.heap.size w w6 := BB4.trans (B5.mono (by exact BB4.size))
         clear B5 q14 q24 q34 q44)
      | (go_at_call 107
         have _guard := S3
         refine (P4.out _).mono ?_
         rintro e' w5 ⟨b4, o4, c4, rfl, q44, B4⟩
         have q14 := part_below q13 B4
         have q24 := part_below q23 B4
         have q34 := part_below q33 B4
         have S4 := SixAt.later S3 B4
         have BB4 : Below w.heap.size w w5 := BB3.trans (B4.mono (by exact BB3.size))
         clear B4 q13 q23 q33)
      | (go_at_call 107
         have _guard := S2
         refine (P3.out _).mono ?_
         rintro e' w4 ⟨b3, o3, c3, rfl, q33, B3⟩
         have q13 := part_below q12 B3
         have q23 := part_below q22 B3
         have S3 := SixAt.later S2 B3
         have BB3 : Below w.heap.size w w4 := BB2.trans (B3.mono (by exact BB2.size))
         clear B3 q12 q22)
      | (go_at_call 107
         have _guard := S1
         refine (P2.out _).mono ?_
         rintro e' w3 ⟨b2, o2, c2, rfl, q22, B2⟩
         have q12 := part_below q11 B2
         have S2 := SixAt.later S1 B2
         have BB2 : Below w.heap.size w w3 := BB1.trans (B2.mono (by exact BB1.size))
         clear B2 q11)
      | (go_at_call 107
         refine (P1.out _).mono ?_
         rintro e' w2 ⟨b1, o1, c1, rfl, q11, B1⟩
         have S1 := SixAt.later S0 B1
         have BB1 : Below w.heap.size w w2 := hb1.drew.trans (B1.mono (by exact hb1.size))
         clear B1)
      | fail))
  go_wp2_with fail
  go_ret
  exact ⟨_, rfl, by rw [HE.out]; exact hown9, BB8⟩

end Go.Proofs.YtenmcmnhiejbgaaGreat

namespace Go.Proofs.YtenmcmnhiejbgaaGreat
open Go.RowKit

theorem yeq_no {x y : ByteArray} (h : ¬ y = x) : (y.toList == x.toList) = false := by
  have : ¬ y.toList = x.toList := fun e => h (by
    rw [ByteArray.toList_eq, ByteArray.toList_eq] at e
    exact ByteArray.ext (Array.toList_inj.1 e))
  simpa using this
set_option maxRecDepth 100000 in
theorem yequal_any (p q : Option Addr) (n1 c1 n2 c2 : Nat) (l m : List UInt8) (w : World) (h1 : Has w p l) (h2 : Has w q m) (hn1 : l.length = n1) (hn2 : m.length = n2) :
    Calls Tryz.prog 117 #[.slice p n1 c1, .slice q n2 c2] w fun e w' => e = .returned (.bool (decide (l = m))) ∧ w = w' := by
  have k1 := conv_now (cap := c1) h1 hn1
  have k2 := conv_now (cap := c2) h2 hn2
  have hd : ((str l).toList == (str m).toList) = decide (l = m) := by
    by_cases e : l = m
    · subst e; simp
    · have := yeq_no (x := str m) (y := str l) fun x => e (str_inj x)
      rw [this]; simp [e]
  have HD := Lib.hid hd
  clear h1 h2 hn1 hn2 hd
  go_enter Tryz.func117, Tryz.ntmps117
  go_wp2_with fail
  go_ret
  exact ⟨by rw [← HD.out]; rfl, rfl⟩

end Go.Proofs.YtenmcmnhiejbgaaGreat
