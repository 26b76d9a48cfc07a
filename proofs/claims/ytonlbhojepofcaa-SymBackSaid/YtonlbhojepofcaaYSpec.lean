/-
  What the walks of layer sym ask of the project's Get and Put; the law's own like.
-/
import Derived.Test.YtonlbhojepofcaaSymIff
import Derived.Test.YtonlbhojepofcaaAppend
namespace Go.Proofs.Ytonlbhojepofcaa
open Go.RowKit

/-- What Get tells, of any place. -/
def YGetOK : Prop := ∀ (p : Option Addr) (len cap : Nat) (l : List UInt8) (at_ : Int) (w : World), Has w p l → l.length = len → len ≤ cap → cap ≤ maxLen → len ≤ 100000 → -9223372036854775808 ≤ at_ → at_ ≤ 9223372036854775807 →
    Calls Try.prog 21 #[.slice p len cap, .int .i64 at_] w fun e w' => e = .returned (.tuple #[(symV (symAt l at_)).1, .bool (symV (symAt l at_)).2]) ∧ Below w.heap.size w w'
/-- What Put tells. -/
def YPutOK : Prop := ∀ (t : Six) (w : World), (t.may → Calls Try.prog 24 #[t.v] w (Gives (entB t) w)) ∧ (¬ t.may → Calls Try.prog 24 #[t.v] w (GivesH 0 [] w))

theorem symbol_any (p : Option Addr) (len cap : Nat) (l : List UInt8) (at_ : Int) (w : World) (h : Has w p l) (hlen : l.length = len) (hcap : len ≤ cap) (hbig : len ≤ 1000000000) (ha : at_ ≤ 9223372036854775807) :
    Calls Try.prog 22 #[.slice p len cap, .int .i64 at_] w fun e w' => e = .returned (.tuple #[(symV (symAt l at_)).1, .bool (symV (symAt l at_)).2]) ∧ Below w.heap.size w w' := by
  by_cases hin : 0 ≤ at_ ∧ at_ + 24 ≤ len
  · obtain ⟨a, rfl⟩ := Int.eq_ofNat_of_zero_le hin.1
    exact symbol_in p len cap a l w h hlen hcap (by omega) hbig
  · have e : symAt l at_ = none := by
      unfold symAt
      rw [if_neg fun hc => hin ⟨hc.1, by omega⟩]
    rw [e]
    exact symbol_out p len cap at_ w (by omega) ha hbig

theorem likeY_any (t : Six) (w : World) : Calls Try.prog 23 #[t.v] w fun e w' => e = .returned t.v ∧ Below w.heap.size w w' := by
  go_enter Try.func23, Try.ntmps23
  go_wp2_with fail
  exact bodyPost_ret (v := t.v) (by simp [results, Try.results23, go_sem]) rfl ⟨rfl, ((Below.refl _ w).alloc (Nat.le_refl _) _).alloc (by simp) _⟩

end Go.Proofs.Ytonlbhojepofcaa
