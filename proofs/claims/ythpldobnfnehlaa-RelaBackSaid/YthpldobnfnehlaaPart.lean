/-
  A slice of bytes behind an address of a row's, and the contract of le.Put in its words.
-/
import Derived.Test.YthpldobnfnehlaaAppend
import Derived.Test.YthpldobnfnehlaaPut
import Derived.Test.YthpldobnfnehlaaGet
namespace Go.Proofs.Ythpldobnfnehlaa
open Go.RowKit

/-- A slice of the n bytes l, behind an address of a row's. -/
def Part (w : World) (b o n c : Nat) (l : List UInt8) : Prop := l.length = n ∧ n ≤ c ∧ c ≤ maxLen ∧ Has w (some ⟨b, o, none⟩) l
theorem Part.below {w w' : World} {b o n c : Nat} {l : List UInt8} (h : Part w b o n c l) (hb : Below w.heap.size w w') : Part w' b o n c l := ⟨h.1, h.2.1, h.2.2.1, h.2.2.2.below hb⟩
theorem part_below {w w' : World} {b o n c : Nat} {l : List UInt8} (h : Hid (Part w b o n c l)) (hb : Below w.heap.size w w') : Hid (Part w' b o n c l) := Lib.hid (h.out.below hb)
def PG (n : Nat) (l : List UInt8) (W : World) (e : Ending) (w' : World) : Prop := ∃ b o c, e = .returned (.slice (some ⟨b, o, none⟩) n c) ∧ Hid (Part w' b o n c l) ∧ Below W.heap.size W w'
theorem putP (v n : Nat) (W : World) (hv : v < 18446744073709551616) (hn : wid n = true) : Calls Try.prog 40 #[.int .u64 v, .int .i64 n] W (PG n (leB n v) W) := by
  refine (put_yes v n W hv hn).mono ?_
  rintro e w' ⟨v', rfl, hown, hb⟩
  obtain ⟨p, c, rfl, h1, h2, h3, h4⟩ := Has.of_owns hown
  have hn' := (wid_iff _).1 hn
  rw [leB_length] at h1 h3
  obtain ⟨b, o, rfl, _⟩ := h4.plain (by rw [leB_length]; omega)
  exact ⟨b, o, c, by rw [leB_length], Lib.hid ⟨by rw [leB_length], h1, h2, h4⟩, hb⟩
theorem put1 (v : Nat) (W : World) (hv : v < 18446744073709551616) : Calls Try.prog 40 #[.int .u64 v, .int .i64 1] W (PG 1 (leB 1 v) W) := putP v 1 W hv rfl
theorem put2 (v : Nat) (W : World) (hv : v < 18446744073709551616) : Calls Try.prog 40 #[.int .u64 v, .int .i64 2] W (PG 2 (leB 2 v) W) := putP v 2 W hv rfl
theorem put4 (v : Nat) (W : World) (hv : v < 18446744073709551616) : Calls Try.prog 40 #[.int .u64 v, .int .i64 4] W (PG 4 (leB 4 v) W) := putP v 4 W hv rfl
theorem put8 (v : Nat) (W : World) (hv : v < 18446744073709551616) : Calls Try.prog 40 #[.int .u64 v, .int .i64 8] W (PG 8 (leB 8 v) W) := putP v 8 W hv rfl
theorem put10 (W : World) : Calls Try.prog 40 #[.int .u64 0, .int .i64 1] W (PG 1 [0] W) := putP 0 1 W (by decide) rfl

end Go.Proofs.Ythpldobnfnehlaa
