/-
  Contracts of the reference's fits and Nums: numbers' bytes.
-/
import Derived.Test.YtjhohbgehpddpaaRefLe
import Derived.Deep.RegionHeld3
import Derived.Deep.AppendLies
namespace Go.Proofs.Ytjhohbgehpddpaa
open Go.RowKit

def fitsB (n : Int) : Bool := decide (0 ≤ n) && decide (n ≤ 2147483647)
theorem fitsB_iff (n : Int) : fitsB n = true ↔ 0 ≤ n ∧ n ≤ 2147483647 := by simp [fitsB]
theorem fits_any (n : Int) (w : World) : Calls Try.prog 30 #[.int .i64 n] w fun e w' => e = .returned (.bool (fitsB n)) ∧ w = w' := by
  by_cases h0 : 0 ≤ n
  · by_cases h1 : n ≤ 2147483647
    · have H : Hid (fitsB n = true) := Lib.hid ((fitsB_iff n).2 ⟨h0, h1⟩)
      go_enter Try.func30, Try.ntmps30
      go_wp2
      go_ret
      exact ⟨ret_b H.out.symm, rfl⟩
    · have H : Hid (fitsB n = false) := Lib.hid (by simp [fitsB, h1])
      go_enter Try.func30, Try.ntmps30
      go_wp2
      go_ret
      exact ⟨ret_b H.out.symm, rfl⟩
  · have H : Hid (fitsB n = false) := Lib.hid (by simp [fitsB, h0])
    go_enter Try.func30, Try.ntmps30
    go_wp2
    go_ret
    exact ⟨ret_b H.out.symm, rfl⟩

/-- An int as a uint64. -/
def u64n (v : Int) : Nat := (v % 18446744073709551616).toNat
theorem u64n_nat (v : Nat) (h : v < 18446744073709551616) : u64n v = v := by unfold u64n; omega
theorem u64n_lt (v : Int) : u64n v < 18446744073709551616 := by unfold u64n; omega
/-- Numbers' bytes: each number, and of how many bytes it is. -/
def numsB : List Int → List UInt8
  | v :: n :: r => leB n.toNat (u64n v) ++ numsB r
  | _ => []
theorem numsB_append : ∀ a b : List Int, a.length % 2 = 0 → numsB (a ++ b) = numsB a ++ numsB b
  | [], _, _ => rfl
  | [x], _, h => by simp at h
  | v :: n :: r, b, h => by
    have ih := numsB_append r b (by simp at h; omega)
    simp [numsB, ih]
theorem numsB_two {xs : List Int} {k : Nat} {v n : Int} (hv : xs[2 * k]? = some v) (hn : xs[2 * k + 1]? = some n) : numsB (xs.take (2 * (k + 1))) = numsB (xs.take (2 * k)) ++ leB n.toNat (u64n v) := by
  have hl : 2 * k < xs.length := (List.getElem?_eq_some_iff.1 hv).1
  have e : xs.take (2 * (k + 1)) = xs.take (2 * k) ++ [v, n] := by
    rw [show 2 * (k + 1) = 2 * k + 1 + 1 by omega, List.take_add_one, List.take_add_one, hv, hn]
    simp
  rw [e, numsB_append _ _ (by simp; omega)]
  simp [numsB]

theorem apart_own {w : World} {base b : Nat} {e : TypeId} {s n : Nat} {v : Value} {xs : List Value} (h : w.ownsRow base e s v n xs) (hb : b < base) : some b ≠ v.ownBlock := fun e => by
  have := (h.lt _ e.symm).1
  omega
theorem conv_u64 (v : Int) : IntKind.u64.wrap v = (u64n v : Int) := by
  have h : IntKind.u64.wrap v = v % 18446744073709551616 := by simp [IntKind.wrap, IntKind.signed, IntKind.bits]
  rw [h]
  unfold u64n
  omega

set_option maxHeartbeats 2000000 in
set_option maxRecDepth 100000 in
theorem nums_any (p : Option Addr) (len cap m : Nat) (xs : List Int) (w : World) (h : HasI w p xs) (hlen : xs.length = len) (hm : len = 2 * m) (hbig : len ≤ 1000)
    (hw : ∀ (i : Nat) (n : Int), xs[2 * i + 1]? = some n → wid n = true) (hv : ∀ (i : Nat) (v : Int), xs[i]? = some v → -9223372036854775808 ≤ v ∧ v ≤ 9223372036854775807) :
    Calls Try.prog 31 #[.slice p len cap] w (Gives (numsB xs) w) := by
  obtain ⟨i0, hi, hz0, hz1, hz2⟩ := info_parts Try.infoU8
  have HI := Lib.hid hi
  have H0 := Lib.hid hz0
  have H1 := Lib.hid hz1
  have H2 := Lib.hid hz2
  have HX := Lib.hid h
  have HL := Lib.hid hlen
  have HW := Lib.hid hw
  have HV := Lib.hid hv
  have HM := Lib.hid hm
  have hm5 : m ≤ 500 := by omega
  clear h hlen hw hv hm hi hz0 hz1 hz2
  go_enter Try.func31, Try.ntmps31
  go_wp2_with fail
  go_loopw [3, 4] (fun out ii wr => ∃ k a n : Nat, k ≤ m ∧ n ≤ 8 * k ∧ a = 2 * k ∧ ii = .int .i64 (a : Int) ∧ wr.ownsRow w.heap.size 5 1 out n ((numsB (xs.take (2 * k))).map u8v) ∧ Below w.heap.size w wr) (fun _ ii _ => len - (intOf ii).toNat)
  case atStart => exact ⟨0, 0, 0, Nat.zero_le _, Nat.le_refl _, rfl, rfl, World.ownsRow_nil _ _ _ _, Below.refl _ _⟩
  case round =>
    obtain ⟨k, a, n, hk, hn, ha, rfl, hown, hb⟩ := hrel
    have HA := Lib.hid ha
    by_cases hlt : k < m
    · have hl1 : a + 1 < xs.length := by rw [HL.out, HM.out]; omega
      obtain ⟨b, off, v, rfl, hv1, hc1⟩ := HX.out.at_ (i := a) (by omega)
      obtain ⟨b', off', wd, hp', hw1, hc2⟩ := HX.out.at_ (i := a + 1) hl1
      simp only [Option.some.injEq, Addr.mk.injEq, and_true] at hp'
      obtain ⟨rfl, rfl⟩ := hp'
      have d1 := cell_later hb hc1
      have d2 := cell_later hb hc2
      have ht2 := numsB_two (k := k) (ha ▸ hv1) (ha ▸ hw1)
      have hwid := HW.out k wd (ha ▸ hw1)
      have hwd := (wid_iff wd).1 hwid
      obtain ⟨wn, rfl⟩ := Int.eq_ofNat_of_zero_le (show 0 ≤ wd by omega)
      rw [Int.toNat_natCast] at ht2
      have HT := Lib.hid ht2
      clear ht2
      have HP := Lib.hid fun W => refPut_has (u64n v) wn W (u64n_lt v) hwid
      have HC := Lib.hid (conv_u64 v)
      have hw1 : 1 ≤ wn := by omega
      have hw8 : wn ≤ 8 := by omega
      have hI : (a : Int) + 1 < (len : Int) := by have := HM.out; omega
      have hI0 : (0 : Int) ≤ (a : Int) := by omega
      have k5 : IntKind.i64.wrap ((a : Int) + 1) = (a : Int) + 1 := IntWalk.i64_in _ (by have := HM.out; omega)
      have k6 : (0 : Int) ≤ (a : Int) + 1 := by omega
      have k7 : ((a : Int) + 1).toNat = a + 1 := by omega
      have hla : a < len := by have := HM.out; omega
      have hla1 : a + 1 < len := by have := HM.out; omega
      clear ha hwid hwd hl1
      have hbl : b < w.heap.size := World.block_lt_of_cell? w _ hc1
      have q2 : n + wn ≤ maxLen := by unfold maxLen; omega
      have q3 : (n + wn) * 1 ≤ 140737488355328 := by omega
      clear hc1 hc2 hv1
      go_wp2_with fail
      go_region_held3 (fun w' => w'.cell? ⟨b, off + a, none⟩ = some (.int .i64 v) ∧ w'.cell? ⟨b, off + (a + 1), none⟩ = some (.int .i64 (wn : Int))) (first | go_keep | exact ⟨e1, e2⟩ | exact ⟨f1, f2⟩ | fail)
        ((first
          | (go_at_call 13
             rw [HC.out]
             refine (HP.out _).mono ?_
             rintro e w2 ⟨p2, c2, rfl, hl2, hnc2, hcm2, hH2, hbb2⟩
             obtain ⟨b2, o2, rfl, _⟩ := hH2.plain (by omega)
             have hb2 : Below w.heap.size w w2 := hb.drew.trans (hbb2.mono (by exact hb.size))
             have e1 : w2.cell? ⟨b, off + a, none⟩ = some (.int .i64 v) := cell_later hbb2 d1
             have e2 : w2.cell? ⟨b, off + (a + 1), none⟩ = some (.int .i64 (wn : Int)) := cell_later hbb2 d2
             have hown2 := owns_below hown.drew hbb2
             have HH2 := Lib.hid hH2
             have HL2 := Lib.hid hl2
             clear hH2 hl2 hbb2)
          | (refine step_append_lies _ (by rfl) _ _ _ (by rfl) w.heap.size 5 i0 (.int .u8 0) 1 1 Try.underlying22 HI.out H0.out H1.out H2.out rfl (by decide) _ n _ (by rfl) hown2 ⟨b2, o2, none⟩ wn c2 ((leB wn (u64n v)).map u8v) (by rfl) (by rw [List.length_map, HL2.out, Nat.mul_one]) HH2.out.cells (map_oneCell _) hw1 q2 q3 hb2.size _ rfl ?_
             intro g3 cap3 w3 hown3 hgrow3 _ _
             have f1 := hgrow3.cell e1 (apart_own hown2 hbl)
             have f2 := hgrow3.cell e2 (apart_own hown2 hbl))
          | fail))
      have hb3 : Below w.heap.size w w3 := hb2.grown hgrow3 hb2.size (fun g hg => (hown2.lt g hg).1)
      rw [← List.map_append, ← HT.out] at hown3
      clear hgrow3 hown2 hown hb hb2
      go_wp2_with fail
      go_roundw
      case rel => exact ⟨k + 1, a + 2, n + wn, hlt, by omega, by have := HA.out; omega, by go_num, hown3, hb3⟩
      case measure => simp [intOf]; omega
    · obtain rfl : k = m := by omega
      have hI : ¬ (a : Int) + 1 < (len : Int) := by have := HM.out; have := HA.out; omega
      have ht : xs.take (2 * k) = xs := List.take_of_length_le (by rw [HL.out, HM.out]; exact Nat.le_refl _)
      rw [ht] at hown
      have hn1 : (numsB xs).length = n := by have := hown.1; simpa using this
      have HN := Lib.hid hn1
      have ha2 : a ≤ 1000 := by have := HM.out; omega
      clear ht hn1 ha
      go_wp2_with fail
      go_ret
      refine ⟨_, rfl, ?_, hb⟩
      rw [HN.out]
      exact hown

end Go.Proofs.Ytjhohbgehpddpaa
