/-
  Parts of a proof.
-/
import Derived.Test.YteopgmieindojaaGreatGW09
namespace Go.Proofs.YteopgmieindojaaGreat
open Go.RowKit
def ENC (w : World) (b o : Nat) (x : NodeD) : Prop := ∃ (p9 p10 : Option Addr) (n9 c9 n10 c10 : Nat), w.cell? ⟨b, o, none⟩ = some (.int .i64 x.obj) ∧ w.cell? ⟨b, o + 1, none⟩ = some (.int .i64 x.sec) ∧ w.cell? ⟨b, o + 2, none⟩ = some (.int .i64 x.pos) ∧ w.cell? ⟨b, o + 3, none⟩ = some (.string x.name) ∧
 w.cell? ⟨b, o + 4, none⟩ = some (.int .i64 x.type) ∧ w.cell? ⟨b, o + 5, none⟩ = some (.int .i64 x.flags) ∧ w.cell? ⟨b, o + 6, none⟩ = some (.int .i64 x.align) ∧ w.cell? ⟨b, o + 7, none⟩ = some (.int .i64 x.ent) ∧ w.cell? ⟨b, o + 8, none⟩ = some (.int .i64 x.size) ∧
 w.cell? ⟨b, o + 9, none⟩ = some (.slice p9 n9 c9) ∧ w.cell? ⟨b, o + 10, none⟩ = some (.slice p10 n10 c10) ∧ w.cell? ⟨b, o + 11, none⟩ = some (.bool x.unique) ∧ w.cell? ⟨b, o + 12, none⟩ = some (.int .i64 x.group) ∧ w.cell? ⟨b, o + 13, none⟩ = some (.int .i64 x.link)
theorem ENC.keeps : Keeps ENC := fun _ _ _ _ _ hb ⟨p9, p10, n9, c9, n10, c10, h0, h1, h2, h3, h4, h5, h6, h7, h8, h9, h10, h11, h12, h13⟩ =>
 ⟨p9, p10, n9, c9, n10, c10, keep_cell hb h0, keep_cell hb h1, keep_cell hb h2, keep_cell hb h3, keep_cell hb h4, keep_cell hb h5, keep_cell hb h6, keep_cell hb h7, keep_cell hb h8, keep_cell hb h9, keep_cell hb h10, keep_cell hb h11, keep_cell hb h12, keep_cell hb h13⟩
end Go.Proofs.YteopgmieindojaaGreat
