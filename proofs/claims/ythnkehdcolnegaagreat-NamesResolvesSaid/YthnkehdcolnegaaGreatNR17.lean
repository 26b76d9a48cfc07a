/-
  Contracts of the reference's fits and Nums: numbers' bytes.
  The ELF header: its bytes, as the document tells, and what is got of bytes; contracts of the reference's Begin and Begun.
  Section headers: their bytes, as the document tells, and what is got of bytes; contracts of the reference's num, MayHead, HeadBytes.
-/
import Derived.Test.YthnkehdcolnegaaGreatNR16
import Derived.Deep.RegionHeld3
import Derived.Deep.AppendLies
import Derived.Deep.QuietTactic
import Derived.BigQuiet
namespace Go.Proofs.YthnkehdcolnegaaGreat
open Go.RowKit

def fitsB (n : Int) : Bool := decide (0 ≤ n) && decide (n ≤ 2147483647)
theorem fitsB_iff (n : Int) : fitsB n = true ↔ 0 ≤ n ∧ n ≤ 2147483647 := by simp [fitsB]
theorem fits_any (n : Int) (w : World) : Calls Tryz.prog 86 #[.int .i64 n] w fun e w' => e = .returned (.bool (fitsB n)) ∧ w = w' := by
  by_cases h0 : 0 ≤ n
  · by_cases h1 : n ≤ 2147483647
    · have H : Hid (fitsB n = true) := Lib.hid ((fitsB_iff n).2 ⟨h0, h1⟩)
      go_enter Tryz.func86, Tryz.ntmps86
      go_wp2
      go_ret
      exact ⟨ret_b H.out.symm, rfl⟩
    · have H : Hid (fitsB n = false) := Lib.hid (by simp [fitsB, h1])
      go_enter Tryz.func86, Tryz.ntmps86
      go_wp2
      go_ret
      exact ⟨ret_b H.out.symm, rfl⟩
  · have H : Hid (fitsB n = false) := Lib.hid (by simp [fitsB, h0])
    go_enter Tryz.func86, Tryz.ntmps86
    go_wp2
    go_ret
    exact ⟨ret_b H.out.symm, rfl⟩

/-- An int as a uint64. -/
def u64n (v : Int) : Nat := (v % 18446744073709551616).toNat
theorem u64n_nat (v : Nat) (h : v < 18446744073709551616) : u64n v = v := by unfold u64n; omega
theorem u64n_lt (v : Int) : u64n v < 18446744073709551616 := by unfold u64n; omega
/-- Numbers' bytes: each number, and of how many bytes it is. -/
def numsB : List Int → List UInt8
  | v :: n :: r => leB n.toNat (u64n v) ++ numsB r
  | _ => []
theorem numsB_append : ∀ a b : List Int, a.length % 2 = 0 → numsB (a ++ b) = numsB a ++ numsB b
  | [], _, _ => rfl
  | [x], _, h => by simp at h
  | v :: n :: r, b, h => by
    have ih := numsB_append r b (by simp at h; omega)
    simp [numsB, ih]
theorem numsB_two {xs : List Int} {k : Nat} {v n : Int} (hv : xs[2 * k]? = some v) (hn : xs[2 * k + 1]? = some n) : numsB (xs.take (2 * (k + 1))) = numsB (xs.take (2 * k)) ++ leB n.toNat (u64n v) := by
  have hl : 2 * k < xs.length := (List.getElem?_eq_some_iff.1 hv).1
  have e : xs.take (2 * (k + 1)) = xs.take (2 * k) ++ [v, n] := by
    rw [show 2 * (k + 1) = 2 * k + 1 + 1 by omega, List.take_add_one, List.take_add_one, hv, hn]
    simp
  rw [e, numsB_append _ _ (by simp; omega)]
  simp [numsB]

theorem apart_own {w : World} {base b : Nat} {e : TypeId} {s n : Nat} {v : Value} {xs : List Value} (h : w.ownsRow base e s v n xs) (hb : b < base) : some b ≠ v.ownBlock := fun e => by
  have := (h.lt _ e.symm).1
  omega
theorem conv_u64 (v : Int) : IntKind.u64.wrap v = (u64n v : Int) := by
  have h : IntKind.u64.wrap v = v % 18446744073709551616 := by simp [IntKind.wrap, IntKind.signed, IntKind.bits]
  rw [h]
  unfold u64n
  omega

set_option maxHeartbeats 2000000 in
set_option maxRecDepth 100000 in
theorem nums_any (p : Option Addr) (len cap m : Nat) (xs : List Int) (w : World) (h : HasI w p xs) (hlen : xs.length = len) (hm : len = 2 * m) (hbig : len ≤ 1000)
    (hw : ∀ (i : Nat) (n : Int), xs[2 * i + 1]? = some n → wid n = true) (hv : ∀ (i : Nat) (v : Int), xs[i]? = some v → -9223372036854775808 ≤ v ∧ v ≤ 9223372036854775807) :
    Calls Tryz.prog 85 #[.slice p len cap] w (Gives (numsB xs) w) := by
  obtain ⟨i0, hi, hz0, hz1, hz2⟩ := info_parts Tryz.infoU8
  have HI := Lib.hid hi
  have H0 := Lib.hid hz0
  have H1 := Lib.hid hz1
  have H2 := Lib.hid hz2
  have HX := Lib.hid h
  have HL := Lib.hid hlen
  have HW := Lib.hid hw
  have HV := Lib.hid hv
  have HM := Lib.hid hm
  have hm5 : m ≤ 500 := by omega
  clear h hlen hw hv hm hi hz0 hz1 hz2
  go_enter Tryz.func85, Tryz.ntmps85
  go_wp2_with fail
  go_loopw [3, 4] (fun out ii wr => ∃ k a n : Nat, k ≤ m ∧ n ≤ 8 * k ∧ a = 2 * k ∧ ii = .int .i64 (a : Int) ∧ wr.ownsRow w.heap.size 5 1 out n ((numsB (xs.take (2 * k))).map u8v) ∧ Below w.heap.size w wr) (fun _ ii _ => len - (intOf ii).toNat)
  case atStart => exact ⟨0, 0, 0, Nat.zero_le _, Nat.le_refl _, rfl, rfl, World.ownsRow_nil _ _ _ _, Below.refl _ _⟩
  case round =>
    obtain ⟨k, a, n, hk, hn, ha, rfl, hown, hb⟩ := hrel
    have HA := Lib.hid ha
    by_cases hlt : k < m
    · have hl1 : a + 1 < xs.length := by rw [HL.out, HM.out]; omega
      obtain ⟨b, off, v, rfl, hv1, hc1⟩ := HX.out.at_ (i := a) (by omega)
      obtain ⟨b', off', wd, hp', hw1, hc2⟩ := HX.out.at_ (i := a + 1) hl1
      simp only [Option.some.injEq, Addr.mk.injEq, and_true] at hp'
      obtain ⟨rfl, rfl⟩ := hp'
      have d1 := cell_later hb hc1
      have d2 := cell_later hb hc2
      have ht2 := numsB_two (k := k) (ha ▸ hv1) (ha ▸ hw1)
      have hwid := HW.out k wd (ha ▸ hw1)
      have hwd := (wid_iff wd).1 hwid
      obtain ⟨wn, rfl⟩ := Int.eq_ofNat_of_zero_le (show 0 ≤ wd by omega)
      rw [Int.toNat_natCast] at ht2
      have HT := Lib.hid ht2
      clear ht2
      have HP := Lib.hid fun W => refPut_has (u64n v) wn W (u64n_lt v) hwid
      have HC := Lib.hid (conv_u64 v)
      have hw1 : 1 ≤ wn := by omega
      have hw8 : wn ≤ 8 := by omega
      have hI : (a : Int) + 1 < (len : Int) := by have := HM.out; omega
      have hI0 : (0 : Int) ≤ (a : Int) := by omega
      have k5 : IntKind.i64.wrap ((a : Int) + 1) = (a : Int) + 1 := IntWalk.i64_in _ (by have := HM.out; omega)
      have k6 : (0 : Int) ≤ (a : Int) + 1 := by omega
      have k7 : ((a : Int) + 1).toNat = a + 1 := by omega
      have hla : a < len := by have := HM.out; omega
      have hla1 : a + 1 < len := by have := HM.out; omega
      clear ha hwid hwd hl1
      have hbl : b < w.heap.size := World.block_lt_of_cell? w _ hc1
      have q2 : n + wn ≤ maxLen := by unfold maxLen; omega
      have q3 : (n + wn) * 1 ≤ 140737488355328 := by omega
      clear hc1 hc2 hv1
      go_wp2_with fail
      go_region_held3 (fun w' => w'.cell? ⟨b, off + a, none⟩ = some (.int .i64 v) ∧ w'.cell? ⟨b, off + (a + 1), none⟩ = some (.int .i64 (wn : Int))) (first | go_keep | exact ⟨e1, e2⟩ | exact ⟨f1, f2⟩ | fail)
        ((first
          | (go_at_call 81
             rw [HC.out]
             refine (HP.out _).mono ?_
             rintro e w2 ⟨p2, c2, rfl, hl2, hnc2, hcm2, hH2, hbb2⟩
             obtain ⟨b2, o2, rfl, _⟩ := hH2.plain (by omega)
             have hb2 : Below w.heap.size w w2 := hb.drew.trans (hbb2.mono (by exact hb.size))
             have e1 : w2.cell? ⟨b, off + a, none⟩ = some (.int .i64 v) := cell_later hbb2 d1
             have e2 : w2.cell? ⟨b, off + (a + 1), none⟩ = some (.int .i64 (wn : Int)) := cell_later hbb2 d2
             have hown2 := owns_below hown.drew hbb2
             have HH2 := Lib.hid hH2
             have HL2 := Lib.hid hl2
             clear hH2 hl2 hbb2)
          | (refine step_append_lies _ (by rfl) _ _ _ (by rfl) w.heap.size 5 i0 (.int .u8 0) 1 1 Tryz.underlying31 HI.out H0.out H1.out H2.out rfl (by decide) _ n _ (by rfl) hown2 ⟨b2, o2, none⟩ wn c2 ((leB wn (u64n v)).map u8v) (by rfl) (by rw [List.length_map, HL2.out, Nat.mul_one]) HH2.out.cells (map_oneCell _) hw1 q2 q3 hb2.size _ rfl ?_
             intro g3 cap3 w3 hown3 hgrow3 _ _
             have f1 := hgrow3.cell e1 (apart_own hown2 hbl)
             have f2 := hgrow3.cell e2 (apart_own hown2 hbl))
          | fail))
      have hb3 : Below w.heap.size w w3 := hb2.grown hgrow3 hb2.size (fun g hg => (hown2.lt g hg).1)
      rw [← List.map_append, ← HT.out] at hown3
      clear hgrow3 hown2 hown hb hb2
      go_wp2_with fail
      go_roundw
      case rel => exact ⟨k + 1, a + 2, n + wn, hlt, by omega, by have := HA.out; omega, by go_num, hown3, hb3⟩
      case measure => simp [intOf]; omega
    · obtain rfl : k = m := by omega
      have hI : ¬ (a : Int) + 1 < (len : Int) := by have := HM.out; have := HA.out; omega
      have ht : xs.take (2 * k) = xs := List.take_of_length_le (by rw [HL.out, HM.out]; exact Nat.le_refl _)
      rw [ht] at hown
      have hn1 : (numsB xs).length = n := by have := hown.1; simpa using this
      have HN := Lib.hid hn1
      have ha2 : a ≤ 1000 := by have := HM.out; omega
      clear ht hn1 ha
      go_wp2_with fail
      go_ret
      refine ⟨_, rfl, ?_, hb⟩
      rw [HN.out]
      exact hown

end Go.Proofs.YthnkehdcolnegaaGreat

namespace Go.Proofs.YthnkehdcolnegaaGreat
open Go.RowKit

def ident : List UInt8 := [127, 69, 76, 70, 2, 1, 1, 0, 0, 0, 0, 0, 0, 0, 0, 0]
def hdrL (a m n : Int) : List Int := [1, 2, 62, 2, 1, 4, 0, 8, 0, 8, a, 8, 0, 4, 64, 2, 0, 2, 0, 2, 64, 2, m, 2, n, 2]
def hdrB (a m n : Nat) : List UInt8 := ident ++ numsB (hdrL a m n)
/-- May a head be? -/
def mayH (a m n : Int) : Prop := 0 ≤ a ∧ a ≤ 2147483647 ∧ 1 ≤ m ∧ m ≤ 65535 ∧ 1 ≤ n ∧ n < m

theorem hdrB_length (a m n : Nat) : (hdrB a m n).length = 64 := rfl
instance (a m n : Int) : Decidable (mayH a m n) := by unfold mayH; infer_instance
theorem lit_hasI (w : World) (t : TypeId) (xs : List Int) (cs : Array Value) (h : cs = (xs.map (Value.int .i64)).toArray) (H : Nat) (hH : w.heap.size = H) : HasI (w.alloc (.cells cs t)) (some ⟨H, 0, none⟩) xs := fun i x hx => by
  subst hH
  refine ⟨_, rfl, ?_⟩
  have ha : (⟨w.heap.size, 0, none⟩ : Addr).add i = ⟨w.heap.size, i, none⟩ := by unfold Addr.add; split <;> simp_all
  rw [ha, cell_of_row _ w.heap.size i cs t (0, 0) (heap_alloc_new w _), h]
  simp [hx]
theorem lit_owns (w : World) (l : List UInt8) (n : Nat) (cs : Array Value) (h : cs = (l.map u8v).toArray) (hn : l.length = n) (hm : n ≤ maxLen) :
    (w.alloc (.cells cs 5)).ownsRow w.heap.size 5 1 (.slice (some ⟨w.heap.size, 0, none⟩) n n) n (l.map u8v) := by
  subst hn
  have hs : cs.size = l.length * 1 := by rw [h]; simp
  have := World.ownsRow_lit (base := w.heap.size) (e := 5) (size := 1) w cs l.length (Nat.le_refl _) hm hs
  rw [h] at this ⊢
  exact this

theorem hdr_wid (a m n : Int) : ∀ (i : Nat) (x : Int), (hdrL a m n)[2 * i + 1]? = some x → wid x = true := fun i x hx => by
  have hi : i < 13 := by have := (List.getElem?_eq_some_iff.1 hx).1; simp [hdrL] at this; omega
  match i, hi, hx with
  | 0, _, hx | 1, _, hx | 2, _, hx | 3, _, hx | 4, _, hx | 5, _, hx | 6, _, hx | 7, _, hx | 8, _, hx | 9, _, hx | 10, _, hx | 11, _, hx | 12, _, hx => simp [hdrL] at hx; subst hx; rfl

theorem hdr_bd {a m n : Int} (h1 : 0 ≤ a ∧ a ≤ 2147483647) (h2 : 0 ≤ m ∧ m ≤ 2147483647) (h3 : 0 ≤ n ∧ n ≤ 2147483647) : ∀ (i : Nat) (x : Int), (hdrL a m n)[i]? = some x → -9223372036854775808 ≤ x ∧ x ≤ 9223372036854775807 := fun i x hx => by
  have := List.mem_of_getElem? hx
  simp only [hdrL, List.mem_cons, List.not_mem_nil, or_false] at this
  omega
set_option maxRecDepth 100000 in
set_option maxHeartbeats 1000000 in
theorem begin_yes (a m n : Nat) (w : World) (h : mayH a m n) :
    Calls Tryz.prog 39 #[.int .i64 a, .int .i64 m, .int .i64 n] w (Gives (hdrB a m n) w) := by
  obtain ⟨h1, h2, h3, h4, h5, h6⟩ := h
  have HF : Hid (∀ W, Calls Tryz.prog 86 #[.int .i64 a] W fun e w' => e = .returned (.bool true) ∧ W = w') := Lib.hid fun W => by
    have := fits_any a W
    rwa [(fitsB_iff a).2 ⟨h1, h2⟩] at this
  obtain ⟨i0, hi, hz0, hz1, hz2⟩ := info_parts Tryz.infoU8
  have HI := Lib.hid hi
  have H0 := Lib.hid hz0
  have H1 := Lib.hid hz1
  have H2 := Lib.hid hz2
  have HN := Lib.hid fun (W : World) (p : Option Addr) (hp : HasI W p (hdrL a m n)) => nums_any p 26 26 13 (hdrL a m n) W hp rfl rfl (by omega) (hdr_wid a m n) (fun i v hv => hdr_bd (by omega) (by omega) (by omega) i v hv)
  clear hi hz0 hz1 hz2
  go_enter Tryz.func39, Tryz.ntmps39
  go_wp2_with (go_at_call 86; refine (HF.out _).mono ?_; rintro e w' ⟨rfl, rfl⟩)
  refine (HN.out _ _ (lit_hasI _ _ (hdrL a m n) _ rfl _ (by simp))).mono ?_
  rintro e w2 ⟨v2, rfl, ho2, hbb2⟩
  obtain ⟨p2, c2, rfl, hn2, hc2, hl2, hH2⟩ := Has.of_owns ho2
  have hb1 : Below w.heap.size w (w.alloc (.cells #[.int .u8 127, .int .u8 69, .int .u8 76, .int .u8 70, .int .u8 2, .int .u8 1, .int .u8 1, .int .u8 0, .int .u8 0, .int .u8 0, .int .u8 0, .int .u8 0, .int .u8 0, .int .u8 0, .int .u8 0, .int .u8 0] 5)) := (Below.refl _ w).alloc (Nat.le_refl _) _
  have hb2 : Below w.heap.size w w2 := (hb1.alloc hb1.size _).trans (hbb2.mono (by simp; omega))
  have hown1 := lit_owns w ident 16 #[.int .u8 127, .int .u8 69, .int .u8 76, .int .u8 70, .int .u8 2, .int .u8 1, .int .u8 1, .int .u8 0, .int .u8 0, .int .u8 0, .int .u8 0, .int .u8 0, .int .u8 0, .int .u8 0, .int .u8 0, .int .u8 0] rfl rfl (by unfold maxLen; omega)
  have hown2 := owns_below (hown1.alloc (.cells (((hdrL a m n).map (Value.int .i64)).toArray) 3)) hbb2
  obtain ⟨b2, o2, rfl, _⟩ := hH2.plain (by rw [hl2]; exact (show 0 < 48 by omega))
  have HH2 := Lib.hid hH2
  clear ho2 hbb2 hown1 hb1 hl2 hH2
  go_wp2_with (at_builtin; refine wpList_append_own _ rfl _ _ 31 rfl w.heap.size 5 i0 (.int .u8 0) 1 1 Tryz.underlying31 HI.out H0.out H1.out H2.out rfl (by decide) _ 16 _ rfl hown2 ⟨b2, o2, none⟩ 48 c2 ((numsB (hdrL a m n)).map u8v) rfl rfl HH2.out.cells (map_oneCell _) (by unfold maxLen; omega) (by omega) hb2.size ?_)
  intro v3 w3 hown3 hgrow _
  have hb3 : Below w.heap.size w w3 := hb2.grown hgrow hb2.size (fun g hg => (hown2.lt g hg).1)
  rw [← List.map_append] at hown3
  clear hgrow hown2 hb2
  go_wp2_with fail
  go_ret
  exact ⟨_, rfl, hown3, hb3⟩

end Go.Proofs.YthnkehdcolnegaaGreat

namespace Go.Proofs.YthnkehdcolnegaaGreat
open Go.RowKit

/-- The number of n bytes from at on; -1: it is above MaxAddr. -/
def numI (l : List UInt8) (at_ n : Nat) : Int := if num (win l at_ n) ≤ 2147483647 then (num (win l at_ n) : Int) else -1

/-- Ten numbers: a section header. -/
structure Ten where
  (a b c d e f g h i j : Int)
def Ten.l (t : Ten) : List Int := [t.a, t.b, t.c, t.d, t.e, t.f, t.g, t.h, t.i, t.j]
abbrev Ten.v (t : Ten) : Value := .agg #[.int .i64 t.a, .int .i64 t.b, .int .i64 t.c, .int .i64 t.d, .int .i64 t.e, .int .i64 t.f, .int .i64 t.g, .int .i64 t.h, .int .i64 t.i, .int .i64 t.j]
def Ten.nums (t : Ten) : List Int := [t.a, 4, t.b, 4, t.c, 8, t.d, 8, t.e, 8, t.f, 8, t.g, 4, t.h, 4, t.i, 8, t.j, 8]
def sectB (t : Ten) : List UInt8 := numsB t.nums
def Ten.may (t : Ten) : Prop := ∀ x ∈ t.l, fitsB x = true
instance (t : Ten) : Decidable t.may := by unfold Ten.may; infer_instance

theorem may_yes (t : Ten) (w : World) (h : t.may) : Calls Tryz.prog 84 #[t.v] w fun e w' => e = .returned (.bool true) ∧ Below w.heap.size w w' := by
  have HT := Lib.hid h
  clear h
  go_enter Tryz.func84, Tryz.ntmps84
  go_wp2_with fail
  have HL := Lib.hid (lit_hasI (w.alloc (.cells #[.int .i64 t.a, .int .i64 t.b, .int .i64 t.c, .int .i64 t.d, .int .i64 t.e, .int .i64 t.f, .int .i64 t.g, .int .i64 t.h, .int .i64 t.i, .int .i64 t.j] 104)) 3 t.l #[.int .i64 t.a, .int .i64 t.b, .int .i64 t.c, .int .i64 t.d, .int .i64 t.e, .int .i64 t.f, .int .i64 t.g, .int .i64 t.h, .int .i64 t.i, .int .i64 t.j] rfl (w.heap.size + 1) (by simp))
  have hb : Below w.heap.size w ((w.alloc (.cells #[.int .i64 t.a, .int .i64 t.b, .int .i64 t.c, .int .i64 t.d, .int .i64 t.e, .int .i64 t.f, .int .i64 t.g, .int .i64 t.h, .int .i64 t.i, .int .i64 t.j] 104)).alloc (.cells #[.int .i64 t.a, .int .i64 t.b, .int .i64 t.c, .int .i64 t.d, .int .i64 t.e, .int .i64 t.f, .int .i64 t.g, .int .i64 t.h, .int .i64 t.i, .int .i64 t.j] 3)) := ((Below.refl _ w).alloc (Nat.le_refl _) _).alloc (by simp) _
  generalize (w.alloc (.cells #[.int .i64 t.a, .int .i64 t.b, .int .i64 t.c, .int .i64 t.d, .int .i64 t.e, .int .i64 t.f, .int .i64 t.g, .int .i64 t.h, .int .i64 t.i, .int .i64 t.j] 104)).alloc (.cells #[.int .i64 t.a, .int .i64 t.b, .int .i64 t.c, .int .i64 t.d, .int .i64 t.e, .int .i64 t.f, .int .i64 t.g, .int .i64 t.h, .int .i64 t.i, .int .i64 t.j] 3) = W2 at *
  have hlen : t.l.length = 10 := rfl
  have HN := Lib.hid hlen
  clear hlen
  go_loop [4] (fun i => ∃ k : Nat, k ≤ 10 ∧ i = .int .i64 (k : Int)) (fun i => 10 - (intOf i).toNat)
  case atStart => exact ⟨0, Nat.zero_le _, rfl⟩
  case round =>
    obtain ⟨k, hk, rfl⟩ := hrel
    by_cases hlt : k < 10
    · obtain ⟨b, off, x, hp, hx, hc⟩ := HL.out.at_ (i := k) (by rw [HN.out]; exact hlt)
      simp only [Option.some.injEq, Addr.mk.injEq, and_true] at hp
      obtain ⟨rfl, rfl⟩ := hp
      rw [Nat.zero_add] at hc
      have HV : Hid (∀ W, Calls Tryz.prog 86 #[.int .i64 x] W fun e w' => e = .returned (.bool true) ∧ W = w') := Lib.hid fun W => (HT.out x (List.mem_of_getElem? hx)) ▸ fits_any x W
      have hI1 : (k : Int) < 10 := by omega
      have hI0 : (0 : Int) ≤ (k : Int) := by omega
      clear hx
      go_wp2_with fail
      refine (HV.out _).mono ?_
      rintro e w' ⟨rfl, rfl⟩
      go_wp2_with fail
      go_round
      case rel => exact ⟨k + 1, hlt, by go_num⟩
      case measure => simp [intOf]; omega
    · have hI1 : ¬ (k : Int) < 10 := by omega
      go_wp2_with fail
      go_ret
      exact ⟨rfl, hb⟩

end Go.Proofs.YthnkehdcolnegaaGreat
