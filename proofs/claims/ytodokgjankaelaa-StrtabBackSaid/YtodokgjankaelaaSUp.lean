/-
  The example at the head of the laws of layer strtab; what a Make gave, for the walks.
-/
import Derived.Test.YtodokgjankaelaaSOwn
import Derived.Test.YtodokgjankaelaaInts
import Derived.Deep.RegionHeld
namespace Go.Proofs.Ytodokgjankaelaa
open Go.RowKit

/-- What a Make gave: a table and places, that read so in this world. -/
def GivesTH (n m : Nat) (tb : List UInt8) (pl : List Int) (w : World) (e : Ending) (w' : World) : Prop :=
  ∃ p1 c1 p2 c2, e = .returned (.tuple #[.slice p1 n c1, .slice p2 m c2]) ∧ tb.length = n ∧ n ≤ c1 ∧ c1 ≤ maxLen ∧ Has w' p1 tb ∧ m ≤ maxLen ∧ pl.length = m ∧ HasI w' p2 pl ∧ Below w.heap.size w w'
def intsOf (l : List Nat) : List Int := l.map fun (n : Nat) => (n : Int)
theorem natV_ints (l : List Nat) : natV l = (intsOf l).map (Value.int .i64) := by simp [natV, iv, intsOf]
theorem GivesT.toTH {ns : List Nm} {w w' : World} {e : Ending} (h : GivesT ns w e w') : GivesTH (tabOf ns).tb.length ns.length (tabOf ns).tb (intsOf (placesOf ns)) w e w' := by
  obtain ⟨v1, v2, rfl, h1, h2, hb⟩ := h
  rw [natV_ints, placesOf_length] at h2
  obtain ⟨p1, c1, rfl, a1, a2, a3, a4⟩ := Has.of_owns h1
  obtain ⟨p2, c2, rfl, b1, b2, b3, b4⟩ := HasI.of_owns h2
  exact ⟨p1, c1, p2, c2, rfl, rfl, a1, a2, a4, by omega, b3, b4, hb⟩

def upNames : List ByteArray := [⟨#[97, 98]⟩, ⟨#[]⟩, ⟨#[99]⟩, ⟨#[97, 98]⟩]
theorem up_tab : (tabOf (upNames.map lst)).tb = [0, 97, 98, 0, 99, 0] := by decide
theorem up_places : intsOf (placesOf (upNames.map lst)) = [1, 0, 4, 1] := by decide
theorem up_short : shortB upNames := ⟨by decide, by decide⟩
theorem up_has (w : World) (t : TypeId) : HasS (w.alloc (.cells #[.string ⟨#[97, 98]⟩, .string ⟨#[]⟩, .string ⟨#[99]⟩, .string ⟨#[97, 98]⟩] t)) (some ⟨w.heap.size, 0, none⟩) upNames := fun i x hx => by
  refine ⟨_, rfl, ?_⟩
  match i, hx with
  | 0, hx => simp [upNames] at hx; subst hx; simp [Addr.add]
  | 1, hx => simp [upNames] at hx; subst hx; simp [Addr.add]
  | 2, hx => simp [upNames] at hx; subst hx; simp [Addr.add]
  | 3, hx => simp [upNames] at hx; subst hx; simp [Addr.add]
theorem up_make (w : World) (t : TypeId) : Calls Try.prog 11 #[.slice (some ⟨w.heap.size, 0, none⟩) 4 4] (w.alloc (.cells #[.string ⟨#[97, 98]⟩, .string ⟨#[]⟩, .string ⟨#[99]⟩, .string ⟨#[97, 98]⟩] t))
    (GivesTH 6 4 [0, 97, 98, 0, 99, 0] [1, 0, 4, 1] (w.alloc (.cells #[.string ⟨#[97, 98]⟩, .string ⟨#[]⟩, .string ⟨#[99]⟩, .string ⟨#[97, 98]⟩] t))) := by
  have h := (sMake_any (some ⟨w.heap.size, 0, none⟩) 4 4 upNames _ (up_has w t) rfl up_short).mono fun _ _ x => x.toTH
  rw [up_tab, up_places] at h
  exact h
theorem ints_lit (w : World) (t : TypeId) : HasI (w.alloc (.cells #[.int .i64 1, .int .i64 0, .int .i64 4, .int .i64 1] t)) (some ⟨w.heap.size, 0, none⟩) [1, 0, 4, 1] := fun i x hx => by
  refine ⟨_, rfl, ?_⟩
  match i, hx with
  | 0, hx => simp at hx; subst hx; simp [Addr.add]
  | 1, hx => simp at hx; subst hx; simp [Addr.add]
  | 2, hx => simp at hx; subst hx; simp [Addr.add]
  | 3, hx => simp at hx; subst hx; simp [Addr.add]

theorem up_str : ((str [0, 97, 98, 0, 99, 0]).toList == [0, 97, 98, 0, 99, 0]) = true := by
  rw [ByteArray.toList_eq]
  rfl

theorem sup_any (w : World) : Calls Try.prog 5 #[] w fun e w' => e = .returned (.bool true) ∧ Below w.heap.size w w' := by
  have HM := Lib.hid (up_make w 9)
  go_enter Try.func5, Try.ntmps5
  go_wp2_with fail
  refine HM.out.mono ?_
  rintro e w1 ⟨p1, c1, p2, c2, rfl, hl1, hn1, hc1, hH1, hm2, hl2, hI2, hb⟩
  have hb1 : Below w.heap.size w w1 := ((Below.refl _ w).alloc (Nat.le_refl _) _).trans (hb.mono (by simp))
  have hcv := conv_now (cap := c1) hH1 (n := 6) rfl
  have HI2 : Hid (∀ W, Below w1.heap.size w1 W → HasI W p2 [1, 0, 4, 1]) := Lib.hid fun W h => hI2.below h
  have hst := up_str
  clear hl1 hl2 hH1 hI2 hb hn1 hc1 hm2
  go_wp2_with fail
  refine (ints_same p2 (some ⟨w1.heap.size, 0, none⟩) 4 c2 4 [1, 0, 4, 1] _ (HI2.out _ ((Below.refl _ w1).alloc (Nat.le_refl _) _)) (ints_lit w1 _) rfl (by unfold maxLen; omega)).mono ?_
  rintro e w2 ⟨rfl, k, hw⟩
  have hb2 : Below w.heap.size w w2 := by rw [hw]; exact below_drewN (hb1.alloc hb1.size _) _
  clear hw
  go_wp2_with fail
  go_ret
  exact ⟨rfl, hb2⟩

end Go.Proofs.Ytodokgjankaelaa
