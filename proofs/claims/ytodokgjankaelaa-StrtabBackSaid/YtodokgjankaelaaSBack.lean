/-
  The walk of StrtabBack: each name stands at its place; the table's length.
-/
import Derived.Test.YtodokgjankaelaaSTells
namespace Go.Proofs.Ytodokgjankaelaa
open Go.RowKit

theorem at_stands {ss : List ByteArray} {x : ByteArray} (hs : shortB ss) (hx : x ∈ ss) : atAny (tabOf (ss.map lst)).tb (placeOf (ss.map lst) (lst x) : Int) = .returned (.tuple #[.string x, .bool true]) := by
  obtain ⟨r, hr⟩ := stands (ss.map lst) (lst x) (.inr (List.mem_map_of_mem hx))
  have hl := congrArg List.length hr
  simp only [List.length_drop, List.length_append, List.length_cons] at hl
  unfold atAny
  rw [if_pos (by omega)]
  show atOut ((tabOf (ss.map lst)).tb.drop (placeOf (ss.map lst) (lst x))) = _
  rw [hr]
  simp only [atOut, nameB_stands (hs.2 x hx)]
  rfl
theorem take_map_snoc {ss : List ByteArray} {k : Nat} {x : ByteArray} (h : ss[k]? = some x) : (ss.take (k + 1)).map lst = (ss.take k).map lst ++ [lst x] := by
  rw [List.take_add_one, h]
  simp
/-- Is it a name of its own, as far as j? -/
def freshB (ss : List ByteArray) (x : ByteArray) (j : Nat) : Bool := decide (lst x ≠ []) && (ss.take j).all (fun y => y.toList != x.toList)
theorem fresh_zero (ss : List ByteArray) (x : ByteArray) : freshB ss x 0 = decide (lst x ≠ []) := by simp [freshB]
theorem fresh_step {ss : List ByteArray} {x y : ByteArray} {j : Nat} (h : ss[j]? = some y) (hn : y ≠ x) : freshB ss x (j + 1) = freshB ss x j := by
  unfold freshB
  rw [List.take_add_one, h]
  have e : (y.toList != x.toList) = true := by rw [bne, eq_no hn]; rfl
  simp [e]
theorem fresh_hit {ss : List ByteArray} {x : ByteArray} {j : Nat} (h : ss[j]? = some x) : freshB ss x (j + 1) = false := by
  unfold freshB
  rw [List.take_add_one, h]
  simp
theorem toList_inj' {x y : ByteArray} (h : y.toList = x.toList) : y = x := by
  rw [ByteArray.toList_eq, ByteArray.toList_eq] at h
  exact lst_inj h
theorem fresh_iff (ss : List ByteArray) (x : ByteArray) (j : Nat) : freshB ss x j = true ↔ lst x ≠ [] ∧ lst x ∉ (ss.take j).map lst := by
  simp only [freshB, Bool.and_eq_true, decide_eq_true_eq, List.all_eq_true, bne_iff_ne, List.mem_map, not_exists, not_and]
  refine and_congr_right fun _ => forall_congr' fun y => imp_congr_right fun _ => not_congr ⟨fun h => by rw [toList_inj' h], fun h => by rw [lst_inj h]⟩
theorem size_step {ss : List ByteArray} {k : Nat} {x : ByteArray} (h : ss[k]? = some x) (f : Bool) (hf : freshB ss x k = f) :
    ((tabOf ((ss.take (k + 1)).map lst)).tb.length : Int) = (tabOf ((ss.take k).map lst)).tb.length + if f = true then (x.size : Int) + 1 else 0 := by
  rw [take_map_snoc h]
  have hxs : (lst x).length = x.size := by simp
  cases f with
  | true =>
    obtain ⟨h1, h2⟩ := (fresh_iff ss x k).1 hf
    rw [(tab_new h1 h2).1]
    simp
  | false =>
    have : ¬ (lst x ≠ [] ∧ lst x ∉ (ss.take k).map lst) := fun h => by rw [(fresh_iff ss x k).2 h] at hf; cases hf
    rw [(tab_old (Classical.byContradiction fun h => this (not_or.1 h))).1]
    simp

theorem pl_at {ss : List ByteArray} {k : Nat} {x : ByteArray} (h : ss[k]? = some x) : (intsOf (placesOf (ss.map lst)))[k]? = some (placeOf (ss.map lst) (lst x) : Int) := by
  simp [intsOf, placesOf, h]

theorem ne_empty (x : ByteArray) : (!(x.toList.isEmpty)) = decide (lst x ≠ []) := by
  by_cases h : lst x = []
  · rw [isEmpty_yes h]; simp [h]
  · rw [isEmpty_no h]; simp [h]

set_option maxRecDepth 100000 in
set_option maxHeartbeats 2000000 in
theorem sback_walk (q : Option Addr) (m c : Nat) (ss : List ByteArray) (w : World) (hq : HasS w q ss) (hm : ss.length = m) :
    Calls Try.prog 4 #[.slice q m c] w fun e w' => e = .returned (.bool true) ∧ Below w.heap.size w w' := by
  by_cases hs : shortB ss
  · have HQ := Lib.hid hq
    have HM := Lib.hid hm
    have HS := Lib.hid hs
    have hm100 : m ≤ 100 := by have := hs.1; omega
    have HMk := Lib.hid fun W (hb : Below w.heap.size w W) => (sMake_any q m c ss W (hq.below hb) hm hs).mono fun _ _ x => x.toTH
    have HAt := Lib.hid fun (p : Option Addr) (cc : Nat) (x : ByteArray) (W : World) (hx : x ∈ ss) (h : Has W p (tabOf (ss.map lst)).tb) (h1 : (tabOf (ss.map lst)).tb.length ≤ cc) (h2 : (tabOf (ss.map lst)).tb.length ≤ 1000000000) => (at_stands hs hx ▸ sAt_any p _ cc (tabOf (ss.map lst)).tb (placeOf (ss.map lst) (lst x) : Int) W h rfl h1 h2)
    have htl : (tabOf (ss.map lst)).tb.length ≤ 10000 := by
      rcases tab_length (ss.map lst) with h | ⟨n, hn, hf⟩
      · simp at h; omega
      · obtain ⟨y, hy, rfl⟩ := List.mem_map.1 hn
        rw [hs.2 y hy] at hf
        cases hf
    have hml : (ss.map lst).length = m := by simpa using hm
    rw [hml] at HMk
    obtain ⟨tb, htb⟩ : ∃ tb, tb = (tabOf (ss.map lst)).tb := ⟨_, rfl⟩
    rw [← htb] at HMk HAt htl
    obtain ⟨pl, hpl⟩ : ∃ pl, pl = intsOf (placesOf (ss.map lst)) := ⟨_, rfl⟩
    rw [← hpl] at HMk
    obtain ⟨tl, htll⟩ : ∃ tl, tl = tb.length := ⟨_, rfl⟩
    rw [← htll] at HMk HAt htl
    have HTB := Lib.hid htb
    have HPL := Lib.hid hpl
    have HTL := Lib.hid htll
    have hmm : ((m : Int) != (m : Int)) = false := by simp
    clear hq hm hs hml htb hpl htll
    go_enter Try.func4, Try.ntmps4
    go_wp2_with fail
    refine (sup_any _).mono ?_
    rintro e w1 ⟨rfl, hb1⟩
    go_wp2_with fail
    refine (short_yes q m c ss w1 (HQ.out.below hb1) HM.out HS.out).mono ?_
    rintro e w' ⟨rfl, rfl⟩
    go_wp2_with fail
    refine (HMk.out _ hb1).mono ?_
    rintro e w2 ⟨p2, c2, p3, c3, rfl, _, hc2, _, hH2, _, _, hI2, hbb2⟩
    have hb2 : Below w.heap.size w w2 := hb1.trans (hbb2.mono hb1.size)
    have HH2 := Lib.hid hH2
    have HI2 := Lib.hid hI2
    have hS2 := HQ.out.below hb2
    have HS2 := Lib.hid hS2
    clear hH2 hI2 hbb2 hS2 hb1
    go_wp2_with fail
    go_loopw [6, 7] (fun s6 s7 wx => ∃ (k z j : Nat), k ≤ m ∧ s7 = .int .i64 (k : Int) ∧ s6 = .int .i64 (z : Int) ∧ z = (tabOf ((ss.take k).map lst)).tb.length ∧ z ≤ 33 * k + 1 ∧ wx = w2.drewN j) (fun _ s7 _ => m - (intOf s7).toNat)
    case atStart => exact ⟨0, 1, 0, Nat.zero_le _, rfl, rfl, rfl, by omega, rfl⟩
    case round =>
      obtain ⟨k, z, j, hk, rfl, rfl, hz, hz33, rfl⟩ := hrel
      have HZ := Lib.hid hz
      clear hz
      by_cases hlt : k < m
      · obtain ⟨b, off, x, rfl, hx, hcx⟩ := HS2.out.at_ (i := k) (by rw [HM.out]; exact hlt)
        have hpk := HPL.out ▸ pl_at hx
        obtain ⟨b3, o3, y3, rfl, hy3, hc3⟩ := HI2.out.at_ (i := k) (List.getElem?_eq_some_iff.1 hpk).1
        rw [hpk] at hy3
        obtain rfl := Option.some.inj hy3
        have hxm := List.mem_of_getElem? hx
        have HAk := Lib.hid fun j => HAt.out p2 c2 x (w2.drewN j) hxm HH2.out hc2 (by omega)
        have HMay : Hid (∀ W, Calls Try.prog 8 #[.string x] W fun e w' => e = .returned (.bool true) ∧ W = w') := Lib.hid fun W => (HS.out.2 x hxm) ▸ sMay_any x W
        have HX := Lib.hid hx
        have hx32 : x.size ≤ 32 := by
          have := (all_ne (HS.out.2 x hxm)).1
          simpa using this
        have hI0 : (0 : Int) ≤ (k : Int) := by omega
        have hI1 : (k : Int) < (m : Int) := by omega
        have hxx := str_same x
        clear hx hpk hy3 hxm
        generalize hq : placeOf (ss.map lst) (lst x) = q at *
        have HQQ := Lib.hid hq
        clear hq
        go_wp2_with fail
        refine (HAk.out _).mono ?_
        rintro e w' ⟨rfl, rfl⟩
        go_wp2_with fail
        refine (HMay.out _).mono ?_
        rintro e w' ⟨rfl, rfl⟩
        go_upto_block 2 with fail
        go_cut [10] (fun s10 wx => ∃ (f : Bool) (j2 : Nat), s10 = .bool f ∧ freshB ss x k = f ∧ wx = w2.drewN j2)
        case first =>
          go_wp2_with fail
          go_loopw [10, 11] (fun s10 s11 wx => ∃ (f : Bool) (i j2 : Nat), s10 = .bool f ∧ s11 = .int .i64 (i : Int) ∧ i ≤ k ∧ freshB ss x i = f ∧ wx = w2.drewN j2) (fun _ s11 _ => k - (intOf s11).toNat)
          case atStart => exact ⟨_, 0, j, rfl, rfl, Nat.zero_le _, by rw [fresh_zero, ← ne_empty], rfl⟩
          case round =>
            obtain ⟨f, i, j2, rfl, rfl, hik, hf, rfl⟩ := hrel
            have HF := Lib.hid hf
            clear hf
            by_cases hi : i < k
            · obtain ⟨b', off', y, hp', hy, hcy⟩ := HS2.out.at_ (i := i) (by rw [HM.out]; omega)
              simp only [Option.some.injEq, Addr.mk.injEq, and_true] at hp'
              obtain ⟨rfl, rfl⟩ := hp'
              have hiI : (i : Int) < (k : Int) := by omega
              have hi0 : (0 : Int) ≤ (i : Int) := by omega
              have him : (i : Int) < (m : Int) := by omega
              by_cases hyx : y = x
              · subst hyx
                have HG : Hid (freshB ss y (i + 1) = false) := Lib.hid (fresh_hit hy)
                have hpi := HPL.out ▸ pl_at hy
                obtain ⟨b4, o4, z4, hp4, hz4, hc4⟩ := HI2.out.at_ (i := i) (List.getElem?_eq_some_iff.1 hpi).1
                simp only [Option.some.injEq, Addr.mk.injEq, and_true] at hp4
                obtain ⟨rfl, rfl⟩ := hp4
                rw [hpi] at hz4
                obtain rfl := Option.some.inj hz4
                rw [HQQ.out] at hc4
                have hqq : ((q : Int) != (q : Int)) = false := by simp
                clear hy hpi hz4
                go_wp2_with fail
                go_quiet (fail)
                go_wp2_with fail
                go_quiet (fail)
                go_wp2_with fail
                go_roundw
                case rel => exact ⟨false, i + 1, _, rfl, by go_num, hi, HG.out, rfl⟩
                case measure => simp [intOf]; omega
              · have hne := eq_no hyx
                have HG : Hid (freshB ss x (i + 1) = f) := Lib.hid (by rw [fresh_step hy hyx]; exact HF.out)
                clear hy
                go_wp2_with fail
                go_quiet (fail)
                go_wp2_with fail
                go_roundw
                case rel => exact ⟨f, i + 1, _, rfl, by go_num, hi, HG.out, rfl⟩
                case measure => simp [intOf]; omega
            · obtain rfl : i = k := by omega
              have hiI : ¬ (i : Int) < (i : Int) := by omega
              go_wp2_with fail
              go_meet
              exact ⟨f, j2, rfl, HF.out, rfl⟩
        case rest =>
          obtain ⟨f, j2, rfl, hf, rfl⟩ := hcut
          have HST := Lib.hid (size_step HX.out f hf)
          clear hf
          cases f with
          | true =>
            go_wp2_with fail
            go_roundw
            case rel => exact ⟨k + 1, z + (x.size + 1), _, hlt, by go_num, by go_num, by have := HST.out; have := HZ.out; simp at *; omega, by omega, rfl⟩
            case measure => simp [intOf]; omega
          | false =>
            go_wp2_with fail
            go_roundw
            case rel => exact ⟨k + 1, z, _, hlt, by go_num, by go_num, by have := HST.out; have := HZ.out; simp at *; omega, by omega, rfl⟩
            case measure => simp [intOf]; omega
      · obtain rfl : k = m := by omega
        have hz2 : z = tl := by
          have ht : ss.take k = ss := List.take_of_length_le (by rw [HM.out]; exact Nat.le_refl _)
          rw [HZ.out, HTL.out, HTB.out, ht]
        subst hz2
        have hzz : ((z : Int) == (z : Int)) = true := by simp
        go_wp2_with fail
        go_ret
        exact ⟨rfl, below_drewN hb2 _⟩
  · have HN := Lib.hid fun W (hb : Below w.heap.size w W) => short_no q m c ss W (hq.below hb) hm hs
    clear hq hm hs
    go_enter Try.func4, Try.ntmps4
    go_wp2_with fail
    refine (sup_any _).mono ?_
    rintro e w1 ⟨rfl, hb1⟩
    go_wp2_with fail
    refine (HN.out _ hb1).mono ?_
    rintro e w' ⟨rfl, rfl⟩
    go_wp2_with fail
    go_ret
    exact ⟨rfl, hb1⟩

end Go.Proofs.Ytodokgjankaelaa
