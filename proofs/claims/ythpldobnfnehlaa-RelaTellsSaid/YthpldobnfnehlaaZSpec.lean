/-
  What the walks of layer rela ask of the project's Width, Get and Put.
-/
import Derived.Test.YthpldobnfnehlaaRelIff
import Derived.Test.YthpldobnfnehlaaAppend
namespace Go.Proofs.Ythpldobnfnehlaa
open Go.RowKit

/-- What Width tells. -/
def ZWidthOK : Prop := ∀ (n : Int) (w : World), Calls Try.prog 31 #[.int .i64 n] w fun e w' => e = .returned (.int .i64 (widthI n)) ∧ w = w'
/-- What Get tells, of any place. -/
def ZGetOK : Prop := ∀ (p : Option Addr) (len cap : Nat) (l : List UInt8) (at_ : Int) (w : World), Has w p l → l.length = len → len ≤ cap → cap ≤ maxLen → len ≤ 100000 → -9223372036854775808 ≤ at_ → at_ ≤ 9223372036854775807 →
    Calls Try.prog 29 #[.slice p len cap, .int .i64 at_] w fun e w' => e = .returned (.tuple #[(relV (relAt l at_)).1, .bool (relV (relAt l at_)).2]) ∧ Below w.heap.size w w'
/-- What Put tells. -/
def ZPutOK : Prop := ∀ (t : Fou) (w : World), t.bd → (t.may → Calls Try.prog 33 #[t.v] w (Gives (relB t) w)) ∧ (¬ t.may → Calls Try.prog 33 #[t.v] w (GivesH 0 [] w))

theorem rel_any (p : Option Addr) (len cap : Nat) (l : List UInt8) (at_ : Int) (w : World) (h : Has w p l) (hlen : l.length = len) (hcap : len ≤ cap) (hbig : len ≤ 1000000000) (ha : at_ ≤ 9223372036854775807) :
    Calls Try.prog 30 #[.slice p len cap, .int .i64 at_] w fun e w' => e = .returned (.tuple #[(relV (relAt l at_)).1, .bool (relV (relAt l at_)).2]) ∧ Below w.heap.size w w' := by
  by_cases hin : 0 ≤ at_ ∧ at_ + 24 ≤ len
  · obtain ⟨a, rfl⟩ := Int.eq_ofNat_of_zero_le hin.1
    exact rel_in p len cap a l w h hlen hcap (by omega) hbig
  · have e : relAt l at_ = none := by
      unfold relAt
      rw [if_neg fun hc => hin ⟨hc.1, by omega⟩]
    rw [e]
    exact rel_out p len cap at_ w (by omega) ha hbig

end Go.Proofs.Ythpldobnfnehlaa
