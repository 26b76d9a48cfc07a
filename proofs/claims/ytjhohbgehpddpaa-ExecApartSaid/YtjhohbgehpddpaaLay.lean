
/-
  Contract: le.Lay tells the bytes with the number in them, in new memory.
-/
import Derived.Test.YtjhohbgehpddpaaRefPut
import Derived.Laws.CopyOwn
import Derived.Deep.RegionLaw
namespace Go.Proofs.Ytjhohbgehpddpaa
open Go.RowKit

theorem put_has (v n : Nat) (w : World) (hv : v < 18446744073709551616) (hn : wid n = true) : Calls Try.prog 12 #[.int .u64 v, .int .i64 n] w (GivesH n (leB n v) w) :=
  (put_yes v n w hv hn).mono fun e w' h => by have := h.toH; rwa [leB_length] at this

/-- What Lay tells. -/
def layB (l : List UInt8) (at_ n : Int) (v : Nat) : List UInt8 :=
  if fitB l.length at_ n = true then l.take at_.toNat ++ (leB n.toNat v ++ l.drop (at_.toNat + n.toNat)) else l
theorem layB_no {l : List UInt8} {at_ n : Int} {v : Nat} (h : fitB l.length at_ n = false) : layB l at_ n v = l := by simp [layB, h]
theorem layB_length (l : List UInt8) (at_ n : Int) (v : Nat) : (layB l at_ n v).length = l.length := by
  unfold layB
  split
  · rename_i h
    obtain ⟨hn, h0, h1⟩ := (fitB_iff _ _ _).1 h
    simp [leB_length]
    omega
  · rfl

/-- bytes.Clone of a slice that came in. -/
theorem clone_any (p : Option Addr) (len cap : Nat) (l : List UInt8) (w : World) (h : Has w p l) (hlen : l.length = len) (hcap : len ≤ cap) (hp : p = none → cap = 0) (hbig : len ≤ 140737488355328) :
    Calls Try.prog 24 #[.slice p len cap] w (Gives l w) := by
  rcases p with _ | a
  · obtain rfl := hp rfl
    obtain rfl : len = 0 := by omega
    obtain rfl : l = [] := List.eq_nil_of_length_eq_zero hlen
    exact (clone_nil w).mono fun e w' ⟨he, hw⟩ => ⟨_, he, by subst hw; exact World.ownsRow_nil _ _ _ _, by subst hw; exact Below.refl _ _⟩
  · exact clone_some a len cap l w h hlen hbig

theorem copy_len {l : List UInt8} {k len j : Nat} (hl : l.length = k) (hj : j + k ≤ len) : (l.map u8v).length = Nat.min k (len - j) := by
  rw [List.length_map, hl]
  exact (Nat.min_eq_left (by omega)).symm
theorem copy_fit {l : List UInt8} {cur : Array Value} {k len j cap : Nat} (hl : l.length = k) (hc : cur.size = cap) (hj : j + k ≤ len) (hcap : len ≤ cap) : j + (l.map u8v).length ≤ cur.toList.length := by
  rw [List.length_map, hl, Array.length_toList, hc]
  omega

theorem laid_row {w : World} {base g len cap j k : Nat} {e : TypeId} {cur : Array Value} {l m : List UInt8} (hg : w.heap[g]? = some (.cells (splice cur.toList j (m.map u8v)).toArray e (0, 0)))
    (hb : base ≤ g) (h1 : len ≤ cap) (h2 : cap ≤ maxLen) (h3 : cur.size = cap) (h4 : cur.toList.take len = l.map u8v) (hl : l.length = len) (hm : m.length = k) (hj : j + k ≤ len) :
    w.ownsRow base e 1 (.slice (some ⟨g, 0, none⟩) len cap) len ((l.take j ++ (m ++ l.drop (j + k))).map u8v) := by
  have hlen : (l.take j ++ (m ++ l.drop (j + k))).length = len := by simp [hl, hm]; omega
  refine ⟨by rw [List.length_map, hlen, Nat.mul_one], .inr ⟨g, cap, _, rfl, hb, hg, h1, h2, ?_, ?_⟩⟩
  · rw [List.size_toArray, length_splice _ _ _ (by rw [List.length_map, hm, Array.length_toList, h3]; omega), Array.length_toList, h3, Nat.mul_one]
  · rw [Nat.mul_one]
    show (splice cur.toList j (m.map u8v)).take len = _
    rw [splice_take cur.toList (l.map u8v) (m.map u8v) len j h4 (by rw [List.length_map, hl]) (by rw [List.length_map, hm]; exact hj), List.length_map, hm]
    simp [List.map_take, List.map_drop]

theorem lay_any (p : Option Addr) (len cap : Nat) (l : List UInt8) (at_ n : Int) (v : Nat) (w : World) (h : Has w p l) (hlen : l.length = len) (hcap : len ≤ cap) (hp : p = none → cap = 0) (hbig : len ≤ 140737488355328) (hv : v < 18446744073709551616) :
    Calls Try.prog 10 #[.slice p len cap, .int .i64 at_, .int .i64 n, .int .u64 v] w (Gives (layB l at_ n v) w) := by
  have hml : len ≤ maxLen := by unfold maxLen; omega
  by_cases hf : fitB len at_ n = true
  · obtain ⟨hn, h0, h1⟩ := (fitB_iff _ _ _).1 hf
    obtain ⟨j, rfl⟩ := Int.eq_ofNat_of_zero_le h0
    obtain ⟨k, rfl⟩ := Int.eq_ofNat_of_zero_le (show 0 ≤ n by omega)
    have hw : wid k = true := (wid_iff _).2 hn
    have hk8 : k ≤ 8 := by omega
    have hk1 : 1 ≤ k := by omega
    have hjk : j + k ≤ len := by omega
    have HL := Lib.hid hlen
    have HCL := Lib.hid (clone_any p len cap l w h hlen hcap hp (by omega))
    have HG : Hid (layB l j k v = l.take j ++ (leB k v ++ l.drop (j + k))) := Lib.hid (by simp [layB, hlen, hf])
    clear hn hlen h hp
    go_enter Try.func10, Try.ntmps10
    go_wp2_with fail
    refine HCL.out.mono ?_
    rintro e w1 ⟨v1, rfl, hown, hb⟩
    rw [HL.out] at hown
    obtain ⟨g, cap1, cur, hv1, hbg, hgl, hgr, hc1, hc2, hc3, hc4⟩ := owns_form hown (by omega)
    rw [hv1]
    have hb' := hb
    have HGR := Lib.hid hgr
    have H3 := Lib.hid hc3
    have H4 := Lib.hid hc4
    clear hgr hc3 hc4 hv1 hown HCL
    go_wp2_with (go_at_call 21; refine (hasAll_any _ _ _ _ _ _ hml).mono ?_; rintro e w' ⟨rfl, rfl⟩)
    have hjl : j ≤ len := by omega
    have hjI : (j : Int) ≤ (len : Int) := by omega
    have hcj : ¬ cap1 = j := by omega
    go_region_law (first | (go_simp; go_at_call 12; refine (put_has v k _ hv hw).mono ?_; rintro e w2 ⟨p2, c2, rfl, hl2, hnc2, hcm2, hH2, hb2⟩; obtain ⟨b2, off2, hp2, hc2'⟩ := hH2.plain (by omega); have HP2 := Lib.hid hp2; have HC2 := Lib.hid hc2'; have hb02 := below_two hb hb2; have HG2 := Lib.hid (row_kept hb2 hgl HGR.out); have HLB := Lib.hid hl2; have HCS := Lib.hid (cells_of hp2 hH2); clear hp2 hc2' hl2 hH2 hb2) | (refine step_copy_splice rfl (.tmp 18) (.tmp 21) 22 22 rfl 5 Try.underlying22 Try.sizeU8 (some ⟨g, j, none⟩) p2 (len - j) (cap1 - j) k c2 (by simp [Act.eval]) (by simp [Act.eval]) g j cur.toList 5 (HG2.out) ((leB k v).map u8v) (copy_len HLB.out hjk) (fun _ => ⟨rfl, _, HP2.out, HCS.out⟩) (copy_fit HLB.out H3.out hjk hc1) (map_oneCell _) w.heap.size w hb02 hbg ?_; intro w3 HG3 hb3))
    go_wp2
    go_ret
    refine ⟨_, rfl, ?_, hb3⟩
    rw [layB_length, HL.out, HG.out]
    exact laid_row HG3.out hbg hc1 hc2 H3.out H4.out HL.out HLB.out hjk
  · have hf' : fitB len at_ n = false := by simpa using hf
    have HL := Lib.hid hlen
    have HCL := Lib.hid (clone_any p len cap l w h hlen hcap hp (by omega))
    clear hf hlen h hp
    go_enter Try.func10, Try.ntmps10
    go_wp2_with fail
    refine HCL.out.mono ?_
    rintro e w1 ⟨v1, rfl, hown, hb⟩
    go_wp2_with (go_at_call 21; refine (hasAll_any _ _ _ _ _ _ hml).mono ?_; rintro e w' ⟨rfl, rfl⟩)
    go_ret
    refine ⟨_, rfl, ?_, hb⟩
    rw [layB_no (by rw [HL.out]; exact hf')]
    exact hown

end Go.Proofs.Ytjhohbgehpddpaa
