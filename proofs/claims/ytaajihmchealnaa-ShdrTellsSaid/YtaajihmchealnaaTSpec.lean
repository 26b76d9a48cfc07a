/-
  What the walks of layer shdr ask of the project's Get and Put; the law's own like.
-/
import Derived.Test.YtaajihmchealnaaSectIff
import Derived.Test.YtaajihmchealnaaAppend
namespace Go.Proofs.Ytaajihmchealnaa
open Go.RowKit

/-- What Get tells, of any place. -/
def TGetOK : Prop := ∀ (p : Option Addr) (len cap : Nat) (l : List UInt8) (at_ : Int) (w : World), Has w p l → l.length = len → len ≤ cap → cap ≤ maxLen → len ≤ 100000 → -9223372036854775808 ≤ at_ → at_ ≤ 9223372036854775807 →
    Calls Try.prog 13 #[.slice p len cap, .int .i64 at_] w fun e w' => e = .returned (.tuple #[(sectV (sectAt l at_)).1, .bool (sectV (sectAt l at_)).2]) ∧ Below w.heap.size w w'
/-- What Put tells. -/
def TPutOK : Prop := ∀ (t : Ten) (w : World), (t.may → Calls Try.prog 16 #[t.v] w (Gives (sectB t) w)) ∧ (¬ t.may → Calls Try.prog 16 #[t.v] w (GivesH 0 [] w))

theorem section_any (p : Option Addr) (len cap : Nat) (l : List UInt8) (at_ : Int) (w : World) (h : Has w p l) (hlen : l.length = len) (hcap : len ≤ cap) (hbig : len ≤ 1000000000) (ha : at_ ≤ 9223372036854775807) :
    Calls Try.prog 14 #[.slice p len cap, .int .i64 at_] w fun e w' => e = .returned (.tuple #[(sectV (sectAt l at_)).1, .bool (sectV (sectAt l at_)).2]) ∧ Below w.heap.size w w' := by
  by_cases hin : 0 ≤ at_ ∧ at_ + 64 ≤ len
  · obtain ⟨a, rfl⟩ := Int.eq_ofNat_of_zero_le hin.1
    exact section_in p len cap a l w h hlen hcap (by omega) hbig
  · have e : sectAt l at_ = none := by
      unfold sectAt
      rw [if_neg fun hc => hin ⟨hc.1, by omega⟩]
    rw [e]
    exact section_out p len cap at_ w (by omega) ha hbig

theorem like_any (t : Ten) (w : World) : Calls Try.prog 15 #[t.v] w fun e w' => e = .returned t.v ∧ Below w.heap.size w w' := by
  go_enter Try.func15, Try.ntmps15
  go_wp2_with fail
  exact bodyPost_ret (v := t.v) (by simp [results, Try.results15, go_sem]) rfl ⟨rfl, ((Below.refl _ w).alloc (Nat.le_refl _) _).alloc (by simp) _⟩

end Go.Proofs.Ytaajihmchealnaa
