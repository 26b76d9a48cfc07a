/-
  The walk of UlebTells: uleb and its reference tell the same.
-/
import Derived.Test.YtdmidiiedgbjjaaUUp
import Derived.Test.YtdmidiiedgbjjaaUList
import Derived.Test.YtdmidiiedgbjjaaInts
import Derived.Deep.RegionHeld
import Derived.Deep.DeepCutAuto
namespace Go.Proofs.Ytdmidiiedgbjjaa
open Go.RowKit

/-- What Put tells. -/
def uputB (n : Int) : List UInt8 := if 0 ≤ n ∧ n ≤ 2147483647 then ulebB 5 n.toNat else []

theorem uput_str (n : Int) (w : World) : Calls Try.prog 11 #[.int .i64 n] w (Str (uputB n).length (uputB n) w) := by
  by_cases hn : 0 ≤ n ∧ n ≤ 2147483647
  · obtain ⟨k, rfl⟩ := Int.eq_ofNat_of_zero_le hn.1
    have e : uputB k = ulebB 5 k := by simp only [uputB, if_pos hn]; rfl
    rw [e]
    exact (uput_yes k w (by omega)).mono fun _ _ h => h.toH.toStr
  · have e : uputB n = [] := by simp only [uputB, if_neg hn]
    rw [e]
    refine (uput_no n w (by omega)).mono fun e w' ⟨he, hw⟩ => ?_
    subst hw
    exact GivesH.toStr ⟨none, 0, he, rfl, Nat.le_refl _, Nat.zero_le _, Has.none_ _ _, Below.refl _ _⟩

theorem refUleb_str (n : Int) (w : World) : Calls Try.prog 12 #[.int .i64 n] w (Str (uputB n).length (uputB n) w) := by
  by_cases hn : 0 ≤ n ∧ n ≤ 2147483647
  · obtain ⟨k, rfl⟩ := Int.eq_ofNat_of_zero_le hn.1
    have e : uputB k = ulebB 5 k := by simp only [uputB, if_pos hn]; rfl
    rw [e]
    exact (refUleb_yes 5 k w (by omega) (by omega) (by omega) (by omega)).mono fun _ _ h => h.toH.toStr
  · have e : uputB n = [] := by simp only [uputB, if_neg hn]
    rw [e]
    refine (refUleb_no n w (by omega)).mono fun e w' ⟨he, hw⟩ => ?_
    subst hw
    exact GivesH.toStr ⟨none, 0, he, rfl, Nat.le_refl _, Nat.zero_le _, Has.none_ _ _, Below.refl _ _⟩

/-- What a List tells, for the walk. -/
def GivesLH (n : Nat) (xs : List Int) (ok : Bool) (w : World) (e : Ending) (w' : World) : Prop :=
  ∃ p c, e = .returned (.tuple #[.slice p n c, .bool ok]) ∧ HasI w' p xs ∧ n ≤ maxLen ∧ xs.length = n ∧ Below w.heap.size w w'
theorem natV_map (l : List Nat) : natV l = (l.map fun (n : Nat) => (n : Int)).map (Value.int .i64) := by simp [natV, iv]
theorem GivesL.toLH {r : Option (List Nat)} {w w' : World} {e : Ending} (h : GivesL r w e w') : GivesLH (r.getD []).length ((r.getD []).map fun (n : Nat) => (n : Int)) r.isSome w e w' := by
  obtain ⟨v, rfl, ho, hb⟩ := h
  rw [natV_map] at ho
  obtain ⟨p, c, rfl, h1, h2, h3, h4⟩ := HasI.of_owns ho
  exact ⟨p, c, rfl, h4, by omega, h3, hb⟩

theorem both_tell (p : Option Addr) (len cap : Nat) (l : List UInt8) (at_ : Int) (w : World) (h : Has w p l) (hlen : l.length = len) (hcap : len ≤ cap) (hbig : len ≤ 1000000000) :
    ∃ (x nx u : Int) (ok : Bool),
      (∀ W, Below w.heap.size w W → Calls Try.prog 6 #[.slice p len cap, .int .i64 at_] W fun e w' => e = got x nx ok ∧ W = w') ∧
      (∀ W, Below w.heap.size w W → Calls Try.prog 7 #[.slice p len cap, .int .i64 at_] W fun e w' => e = .returned (.tuple #[.int .i64 x, .int .i64 u]) ∧ W = w') ∧
      (ok = false ∧ u = 0 ∧ nx = 0 ∨ ok = true ∧ 1 ≤ u ∧ u ≤ 5 ∧ nx = at_ + u ∧ 0 ≤ at_ ∧ at_ ≤ 1000000000) := by
  by_cases hin : 0 ≤ at_ ∧ at_ < len
  · obtain ⟨a, rfl⟩ := Int.eq_ofNat_of_zero_le hin.1
    have ha : a < len := by omega
    cases hd : digs5 (l.drop a) with
    | none =>
      refine ⟨0, 0, 0, false, fun W hb => ?_, fun W hb => ?_, .inl ⟨rfl, rfl, rfl⟩⟩
      · have := uget_in p len cap l a W (h.below hb) hlen ha hcap hbig
        rwa [ugot_none a hd] at this
      · have := digits_in p len cap l a W (h.below hb) hlen ha hbig
        rwa [digV_none hd] at this
    | some y =>
      obtain ⟨v, u⟩ := y
      have hu := digs5_used _ _ _ hd
      refine ⟨v, (a : Int) + u, u, true, fun W hb => ?_, fun W hb => ?_, .inr ⟨rfl, by omega, by omega, rfl, by omega, by omega⟩⟩
      · have := uget_in p len cap l a W (h.below hb) hlen ha hcap hbig
        rwa [ugot_some a hd] at this
      · have := digits_in p len cap l a W (h.below hb) hlen ha hbig
        rwa [digV_some hd] at this
  · exact ⟨0, 0, 0, false, fun W _ => uget_out p len cap at_ W (by omega), fun W _ => digits_out p len cap at_ W (by omega), .inl ⟨rfl, rfl, rfl⟩⟩

set_option maxRecDepth 100000 in
set_option maxHeartbeats 1000000 in
theorem utells_walk (p : Option Addr) (len cap : Nat) (l : List UInt8) (at_ n : Int) (w : World) (h : Has w p l) (hlen : l.length = len) (hcap : len ≤ cap) :
    Calls Try.prog 3 #[.slice p len cap, .int .i64 at_, .int .i64 n] w fun e w' => e = .returned (.bool true) ∧ Below w.heap.size w w' := by
  by_cases hbig : len ≤ 10000
  · obtain ⟨x, nx, u, ok, hG, hD, hfact⟩ := both_tell p len cap l at_ w h hlen hcap (by omega)
    have HGet := Lib.hid hG
    have HDig := Lib.hid hD
    have HF := Lib.hid hfact
    have HList := Lib.hid fun W (hb : Below w.heap.size w W) => (ulist_any p len cap l W (h.below hb) hlen hcap (by omega)).mono fun _ _ x => x.toLH
    have HRList := Lib.hid fun W (hb : Below w.heap.size w W) => (refList_any p len cap l W (h.below hb) hlen (by omega)).mono fun _ _ x => x.toLH
    have HPut := Lib.hid fun W => uput_str n W
    have HRPut := Lib.hid fun W => refUleb_str n W
    clear h hlen hG hD hfact
    generalize ((listA l).getD []).length = m at HList HRList
    generalize (((listA l).getD []).map fun (n : Nat) => (n : Int)) = xs at HList HRList
    generalize (listA l).isSome = all at HList HRList
    have haa : (all == all) = true := by simp
    have hxx : (x != x) = false := by simp
    go_enter Try.func3, Try.ntmps3
    go_wp2_with fail
    refine (up_any _).mono ?_
    rintro e w1 ⟨rfl, hb1⟩
    go_upto_region 6 with (first | (go_at_call 6; refine (HGet.out _ hb1).mono ?_; rintro e w' ⟨rfl, rfl⟩) | (go_at_call 7; refine (HDig.out _ hb1).mono ?_; rintro e w' ⟨rfl, rfl⟩))
    go_cut [61] (fun s61 wx => s61 = .bool false ∧ w1 = wx)
    case first =>
      rcases HF.out with ⟨rfl, rfl, rfl⟩ | ⟨rfl, hu1, hu5, hnx, h0, h9⟩
      · go_wp2_with fail
        go_meet
        exact ⟨rfl, rfl⟩
      · have hue : decide ((0 : Int) < u) = true := by simp; omega
        have hne : (nx != at_ + u) = false := by simpa using hnx
        clear hnx
        go_wp2_with fail
        go_meet
        exact ⟨rfl, rfl⟩
    case rest =>
      obtain ⟨rfl, rfl⟩ := hcut
      go_upto_region 10 with (first | (go_at_call 8; refine (HList.out _ hb1).mono ?_; rintro e w2 ⟨p2, c2, rfl, hh2, hm2, hx2, hbb2⟩; have hb2 : Below w.heap.size w w2 := hb1.trans (hbb2.mono hb1.size); have HH2 := Lib.hid hh2; have HX2 := Lib.hid hx2; clear hh2 hx2 hbb2) | (go_at_call 9; refine (HRList.out _ hb2).mono ?_; rintro e w3 ⟨p3, c3, rfl, hh3, _, _, hbb3⟩; have hb3 : Below w.heap.size w w3 := hb2.trans (hbb3.mono hb2.size); have HH3 := Lib.hid hh3; have HB23 := Lib.hid hbb3; clear hh3 hbb3))
      have HInts := Lib.hid fun W (hb : Below w3.heap.size w3 W) => ints_same p2 p3 m c2 c3 xs W ((HH2.out.below HB23.out).below hb) (HH3.out.below hb) HX2.out hm2
      have hr3 := Below.refl w3.heap.size w3
      go_region_held (fun _ => True) (trivial) (first | (go_at_call 10; refine (HInts.out _ (by exact hr3.drew)).mono ?_; rintro e w4 ⟨rfl, k4, hw4⟩; have hb4 : Below w.heap.size w w4 := (by rw [hw4]; exact below_drewN hb3.drew _); clear hw4) | (go_at_call 11; refine (HPut.out _).mono ?_; rintro e w5 ⟨pc, cc, Nc, rfl, hcc, hNc, hbc⟩; have hb5 : Below w.heap.size w w5 := hb4.trans (hbc.mono (by exact hb4.size)); have hrc := Below.refl Nc w5; have HNc := Lib.hid hNc; clear hNc hbc) | (go_at_call 12; refine (HRPut.out _).mono ?_; rintro e w6 ⟨pd, cd, Nd, rfl, hcd, hNd, hbd⟩; have hb6 : Below w.heap.size w w6 := hb5.trans (hbd.mono hb5.size); have hcd2 : Below Nc w5 w6 := (by rw [HNc.out]; exact hbd); have hrd := Below.refl Nd w6; clear hNd hbd))
      all_goals
        go_wp2
        go_ret
        exact ⟨rfl, hb6⟩
  · have hbig' : (10000 : Int) < len := by omega
    go_enter Try.func3, Try.ntmps3
    go_wp2_with fail
    refine (up_any _).mono ?_
    rintro e w1 ⟨rfl, hb1⟩
    go_wp2_with fail
    go_ret
    exact ⟨rfl, hb1⟩

end Go.Proofs.Ytdmidiiedgbjjaa
