/-
  Contract of the project's shdr.fields.
-/
import Derived.Test.YtaajihmchealnaaGet
import Derived.Test.YtaajihmchealnaaPut
import Derived.Test.YtaajihmchealnaaSection
import Derived.Deep.RegionWith
import Derived.Deep.DeepCutAuto
import Derived.StillTailTactics
namespace Go.Proofs.Ytaajihmchealnaa
open Go.RowKit

/-- The cells of the list of a header's numbers: where each is, and of how many bytes it is. -/
def tfcells (b : Nat) : Array Value := #[.pointer (some ⟨b, 0, none⟩), .int .i64 4, .pointer (some ⟨b, 1, none⟩), .int .i64 4, .pointer (some ⟨b, 2, none⟩), .int .i64 8, .pointer (some ⟨b, 3, none⟩), .int .i64 8, .pointer (some ⟨b, 4, none⟩), .int .i64 8, .pointer (some ⟨b, 5, none⟩), .int .i64 8, .pointer (some ⟨b, 6, none⟩), .int .i64 4, .pointer (some ⟨b, 7, none⟩), .int .i64 4, .pointer (some ⟨b, 8, none⟩), .int .i64 8, .pointer (some ⟨b, 9, none⟩), .int .i64 8]
theorem tfields_any (b : Nat) (w : World) : Calls Try.prog 26 #[.pointer (some ⟨b, 0, none⟩)] w fun e w' => e = .returned (.slice (some ⟨w.heap.size, 0, none⟩) 10 10) ∧ w' = (w.alloc (.cells (tfcells b) 63)).drew := by
  go_enter Try.func26, Try.ntmps26
  go_wp2_with fail
  go_still_tail 40, (by kernel_rfl)
  change wpList _ _ _ _ _ w.drew
  go_wp2_with fail
  go_ret
  refine ⟨?_, ?_⟩
  · rfl
  · rfl

/-- Where the k-th number begins. -/
def toff : List Nat := [0, 4, 8, 16, 24, 32, 40, 44, 48, 56, 64]
/-- What the cells are, of any header's block. -/
theorem tfcells_at (b k : Nat) (hk : k < 10) : ∃ o wd : Nat, toff[k]? = some o ∧ toff[k + 1]? = some (o + wd) ∧ (wd = 4 ∨ wd = 8) ∧ o + wd ≤ 64 ∧ (tfcells b)[2 * k]? = some (.pointer (some ⟨b, k, none⟩)) ∧ (tfcells b)[2 * k + 1]? = some (.int .i64 (wd : Int)) ∧
    (∀ t : Ten, ∃ x, t.l[k]? = some x ∧ t.nums[2 * k]? = some x ∧ t.nums[2 * k + 1]? = some (wd : Int)) ∧ (∀ l a, (tenAt l a).l[k]? = some (numI l (a + o) wd)) := by
  match k, hk with
  | 0, _ => exact ⟨0, 4, rfl, rfl, .inl rfl, by omega, rfl, rfl, fun t => ⟨t.a, rfl, rfl, rfl⟩, fun _ _ => rfl⟩
  | 1, _ => exact ⟨4, 4, rfl, rfl, .inl rfl, by omega, rfl, rfl, fun t => ⟨t.b, rfl, rfl, rfl⟩, fun _ _ => rfl⟩
  | 2, _ => exact ⟨8, 8, rfl, rfl, .inr rfl, by omega, rfl, rfl, fun t => ⟨t.c, rfl, rfl, rfl⟩, fun _ _ => rfl⟩
  | 3, _ => exact ⟨16, 8, rfl, rfl, .inr rfl, by omega, rfl, rfl, fun t => ⟨t.d, rfl, rfl, rfl⟩, fun _ _ => rfl⟩
  | 4, _ => exact ⟨24, 8, rfl, rfl, .inr rfl, by omega, rfl, rfl, fun t => ⟨t.e, rfl, rfl, rfl⟩, fun _ _ => rfl⟩
  | 5, _ => exact ⟨32, 8, rfl, rfl, .inr rfl, by omega, rfl, rfl, fun t => ⟨t.f, rfl, rfl, rfl⟩, fun _ _ => rfl⟩
  | 6, _ => exact ⟨40, 4, rfl, rfl, .inl rfl, by omega, rfl, rfl, fun t => ⟨t.g, rfl, rfl, rfl⟩, fun _ _ => rfl⟩
  | 7, _ => exact ⟨44, 4, rfl, rfl, .inl rfl, by omega, rfl, rfl, fun t => ⟨t.h, rfl, rfl, rfl⟩, fun _ _ => rfl⟩
  | 8, _ => exact ⟨48, 8, rfl, rfl, .inr rfl, by omega, rfl, rfl, fun t => ⟨t.i, rfl, rfl, rfl⟩, fun _ _ => rfl⟩
  | 9, _ => exact ⟨56, 8, rfl, rfl, .inr rfl, by omega, rfl, rfl, fun t => ⟨t.j, rfl, rfl, rfl⟩, fun _ _ => rfl⟩

end Go.Proofs.Ytaajihmchealnaa
