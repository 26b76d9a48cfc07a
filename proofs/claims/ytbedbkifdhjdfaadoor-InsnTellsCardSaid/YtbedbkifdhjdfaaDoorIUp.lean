/-
  The example at the head of the laws of layer insn.
-/
import Derived.Test.YtbedbkifdhjdfaaDoorIEncode
namespace Go.Proofs.YtbedbkifdhjdfaaDoor
open Go.RowKit

theorem lit_has (w : World) (l : List UInt8) (cs : Array Value) (T : TypeId) (h : cs = (l.map u8v).toArray) : Has (w.alloc (.cells cs T)) (some ⟨w.heap.size, 0, none⟩) l := by
  subst h
  refine Has.of_plain fun i x hx => ?_
  rw [Nat.zero_add, cell_of_row _ _ i _ _ (0, 0) (heap_alloc_new w _)]
  simp [hx, u8v]

set_option maxRecDepth 100000 in
set_option maxHeartbeats 4000000 in
theorem iup_any (w : World) (hsh : Shapes w) : Calls Tryd.prog 5 #[] w fun e w' => e = .returned (.bool true) ∧ Below w.heap.size w w' := by
  have e1 : dec [195] = some ⟨19, 0, 0, 1, 0, 0, 0⟩ := by kernel_rfl
  have e2 : dec [72, 141, 53, 252, 255, 255, 255] = some ⟨3, 6, 0, 7, 3, 4, -4⟩ := by kernel_rfl
  have hba := (Below.refl w.heap.size w).alloc (Nat.le_refl _) (.cells #[.int .u8 195] 5)
  have HD1 := Lib.hid (idecode_any (some ⟨w.heap.size, 0, none⟩) 1 1 [195] _ (hsh.below hba (Nat.le_refl _)) (lit_has w [195] #[.int .u8 195] 5 rfl) rfl (by omega) (by unfold maxLen; omega))
  rw [e1] at HD1
  simp only [optI] at HD1
  have HSH := Lib.hid hsh
  have HBA := Lib.hid hba
  clear hsh e1 hba
  go_enter Tryd.func5, Tryd.ntmps5
  go_wp2_with fail
  refine HD1.out.mono ?_
  rintro e w2 ⟨rfl, hb2⟩
  have hb3 : Below w.heap.size w (w2.alloc (.cells #[.int .i64 19, .int .i64 0, .int .i64 0, .int .i64 1, .int .i64 0, .int .i64 0, .int .i64 0] 24)) := (HBA.out.trans (hb2.mono HBA.out.size)).alloc (HBA.out.trans (hb2.mono HBA.out.size)).size _
  have hr3 : (w2.alloc (.cells #[.int .i64 19, .int .i64 0, .int .i64 0, .int .i64 1, .int .i64 0, .int .i64 0, .int .i64 0] 24)).heap[w2.heap.size]? = some (.cells #[.int .i64 19, .int .i64 0, .int .i64 0, .int .i64 1, .int .i64 0, .int .i64 0, .int .i64 0] 24 (0, 0)) := heap_alloc_new w2 _
  have HB3 := Lib.hid hb3
  have HR3 := Lib.hid hr3
  clear hb2 hb3 hr3
  go_upto_region 2 with fail
  generalize (w2.alloc (.cells #[.int .i64 19, .int .i64 0, .int .i64 0, .int .i64 1, .int .i64 0, .int .i64 0, .int .i64 0] 24)) = w3 at *
  generalize w2.heap.size = g1 at *
  have hbb := HB3.out.alloc HB3.out.size (.cells #[.int .u8 72, .int .u8 141, .int .u8 53, .int .u8 252, .int .u8 255, .int .u8 255, .int .u8 255] 5)
  have hbb3 := (Below.refl w3.heap.size w3).alloc (Nat.le_refl _) (.cells #[.int .u8 72, .int .u8 141, .int .u8 53, .int .u8 252, .int .u8 255, .int .u8 255, .int .u8 255] 5)
  have HD2 := Lib.hid (idecode_any (some ⟨w3.heap.size, 0, none⟩) 7 7 [72, 141, 53, 252, 255, 255, 255] _ (HSH.out.below hbb (Nat.le_refl _)) (lit_has w3 [72, 141, 53, 252, 255, 255, 255] #[.int .u8 72, .int .u8 141, .int .u8 53, .int .u8 252, .int .u8 255, .int .u8 255, .int .u8 255] 5 rfl) rfl (by omega) (by unfold maxLen; omega))
  rw [e2] at HD2
  simp only [optI] at HD2
  have HBB := Lib.hid hbb
  have HR4 := Lib.hid (row_later hbb3 HR3.out)
  clear e2 hbb hbb3
  go_wp2_with fail
  refine HD2.out.mono ?_
  rintro e w5 ⟨rfl, hb5⟩
  have HB5 := Lib.hid (HBB.out.trans (hb5.mono HBB.out.size))
  have hr6 := row_later ((Below.refl w5.heap.size w5).alloc (Nat.le_refl _) (.cells #[.int .i64 3, .int .i64 6, .int .i64 0, .int .i64 7, .int .i64 3, .int .i64 4, .int .i64 (-4)] 24)) (row_later hb5 HR4.out)
  obtain ⟨⟨x0, x1, x2, x3, x4, x5, x6⟩, _⟩ := seven_cells hr6
  clear hb5 hr6
  go_wp2_with fail
  go_ret
  exact ⟨rfl, HB5.out.alloc HB5.out.size _⟩
end Go.Proofs.YtbedbkifdhjdfaaDoor
