/-
  Parts of a proof.
-/
import Derived.Test.YteopgmieindojaaGreatGW08
import Derived.Test.YteopgmieindojaaGreatGW03
namespace Go.Proofs.YteopgmieindojaaGreat
open Go.RowKit
theorem sec_at {w : World} {p : Option Addr} {l : List SecD} {k : Nat} {s : SecD} (h : HasL 9 ESec w p l) (hk : l[k]? = some s) :
  ∃ (b off : Nat) (p7 p8 : Option Addr) (c7 c8 : Nat), p = some ⟨b, off, none⟩ ∧ w.cell? ⟨b, off + k * 9, none⟩ = some (.string s.name) ∧ w.cell? ⟨b, off + k * 9 + 1, none⟩ = some (.int .i64 s.type) ∧ w.cell? ⟨b, off + k * 9 + 2, none⟩ = some (.int .i64 s.flags) ∧ w.cell? ⟨b, off + k * 9 + 3, none⟩ = some (.int .i64 s.align) ∧
   w.cell? ⟨b, off + k * 9 + 4, none⟩ = some (.int .i64 s.ent) ∧ w.cell? ⟨b, off + k * 9 + 5, none⟩ = some (.int .i64 s.link) ∧ w.cell? ⟨b, off + k * 9 + 6, none⟩ = some (.int .i64 s.size) ∧ w.cell? ⟨b, off + k * 9 + 7, none⟩ = some (.slice p7 s.data.length c7) ∧ w.cell? ⟨b, off + k * 9 + 8, none⟩ = some (.slice p8 s.rels.length c8) ∧
   (HasL 1 EByte w p7 s.data ∧ s.data.length ≤ c7 ∧ c7 ≤ maxLen ∧ (p7 = none → c7 = 0)) ∧ (HasL 4 ERel w p8 s.rels ∧ s.rels.length ≤ c8 ∧ c8 ≤ maxLen) ∧ s.name.size ≤ maxLen ∧ i64bd s.type ∧ i64bd s.flags ∧ i64bd s.align ∧ i64bd s.ent ∧ i64bd s.link ∧ i64bd s.size := by
 obtain ⟨b, off, rfl, e0, e1, e2, e3, e4, e5, e6, ⟨v7, c7, p7, cc7, rfl, x1, x2, x3, x4⟩, ⟨v8, c8, p8, cc8, rfl, y1, y2, y3, y4⟩⟩ := h k s hk
 exact ⟨b, off, p7, p8, cc7, cc8, rfl, e0.1, e1.1, e2.1, e3.1, e4.1, e5.1, e6.1, c7, c8, ⟨x4, x1, x2, x3⟩, ⟨y4, y1, y2⟩, e0.2, e1.2, e2.2, e3.2, e4.2, e5.2, e6.2⟩
end Go.Proofs.YteopgmieindojaaGreat
