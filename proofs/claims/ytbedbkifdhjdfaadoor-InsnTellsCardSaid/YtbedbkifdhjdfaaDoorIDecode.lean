/-
  Contract of the project's insn: Decode.
-/
import Derived.Test.YtbedbkifdhjdfaaDoorILaid
namespace Go.Proofs.YtbedbkifdhjdfaaDoor
open Go.RowKit

theorem sdec_yes {i : Nat} {s : Shp} {l : List UInt8} {x : Ins} (hs : shapesL[i]? = some s) (h : sdec s l = some x) : dec l = some { x with op := (i : Int) + 1 } := by
  unfold sdec at h
  obtain ⟨⟨r, m, a⟩, h1, h2⟩ := Option.bind_eq_some_iff.1 h
  unfold fld at h2
  simp only at h2
  split at h2
  · next hl =>
    rw [dec_of hs h1 hl, ← Option.some.inj h2]
    split <;> rfl
  · cases h2
theorem sdec_all {l : List UInt8} (h : ∀ (i : Nat) (s : Shp), i < 20 → shapesL[i]? = some s → sdec s l = none) : dec l = none := by
  cases hd' : dec l with
  | none => rfl
  | some x =>
    obtain ⟨i, s, r, m, a, hs, hmm, hl, _⟩ := dec_some hd'
    have := h i s (List.getElem?_eq_some_iff.1 hs).1 hs
    unfold sdec at this
    rw [hmm, Option.bind_some] at this
    unfold fld at this
    rw [if_pos hl] at this
    cases this

set_option maxRecDepth 100000 in
theorem index_shapes (k : Nat) (hk : k < 20) : ∃ s : Shp, shapesL[k]? = some s ∧ ∀ W : World, (Instr.index 38 (.agg shpCells) (.int .i64 (k : Int))).run Tryd.prog W = .ok (shpV s) W := by
  match k, hk with
  | 0, _ | 1, _ | 2, _ | 3, _ | 4, _ | 5, _ | 6, _ | 7, _ | 8, _ | 9, _ | 10, _ | 11, _ | 12, _ | 13, _ | 14, _ | 15, _ | 16, _ | 17, _ | 18, _ | 19, _ => exact ⟨_, rfl, fun W => by kernel_rfl⟩
  | n + 20, h => exact absurd h (by omega)
theorem shapes_ok (k : Nat) (s : Shp) (hs : shapesL[k]? = some s) : 1 ≤ s.first.length ∧ s.first.length ≤ 3 ∧ s.base ≤ 255 ∧ (s.width = 0 ∨ (s.width = 4 ∨ s.width = 8)) := by
  have hi : k < 20 := (List.getElem?_eq_some_iff.1 hs).1
  match k, hi with
  | 0, _ | 1, _ | 2, _ | 3, _ | 4, _ | 5, _ | 6, _ | 7, _ | 8, _ | 9, _ | 10, _ | 11, _ | 12, _ | 13, _ | 14, _ | 15, _ | 16, _ | 17, _ | 18, _ | 19, _ => cases hs; simp

set_option maxRecDepth 100000 in
set_option maxHeartbeats 4000000 in
theorem idecode_any (p : Option Addr) (len cap : Nat) (l : List UInt8) (w : World) (hsh : Shapes w) (h : Has w p l) (hlen : l.length = len) (hcap : len ≤ cap) (hm1 : cap ≤ maxLen) :
    Calls Tryd.prog 6 #[.slice p len cap] w fun e w' => e = .returned (.tuple #[(optI (dec l)).1.v, .bool (optI (dec l)).2]) ∧ Below w.heap.size w w' := by
  have HD := Lib.hid fun (k : Nat) (s : Shp) (hs : shapesL[k]? = some s) W (hb : Below w.heap.size w W) => by
    obtain ⟨g1, g2, g3, g4⟩ := shapes_ok k s hs
    exact idec_any s p len cap l W (h.below hb) hlen hcap hm1 g1 g2 g3 g4
  obtain ⟨T, hg⟩ := hsh
  have hg2 : (w.alloc (.cells #[.int .i64 0, .int .i64 0, .int .i64 0, .int .i64 0, .int .i64 0, .int .i64 0, .int .i64 0] 24)).heap[0]? = some (.cells shpCells T (0, 0)) := row_later ((Below.refl _ w).alloc (Nat.le_refl _) _) hg
  have hr0 : (w.alloc (.cells #[.int .i64 0, .int .i64 0, .int .i64 0, .int .i64 0, .int .i64 0, .int .i64 0, .int .i64 0] 24)).heap[w.heap.size]? = some (.cells #[.int .i64 0, .int .i64 0, .int .i64 0, .int .i64 0, .int .i64 0, .int .i64 0, .int .i64 0] 24 (0, 0)) := heap_alloc_new w _
  have hb0 : Below w.heap.size w (w.alloc (.cells #[.int .i64 0, .int .i64 0, .int .i64 0, .int .i64 0, .int .i64 0, .int .i64 0, .int .i64 0] 24)) := (Below.refl _ w).alloc (Nat.le_refl _) _
  have HG := Lib.hid hg2
  have HR := Lib.hid hr0
  have HB := Lib.hid hb0
  clear hg hg2 hr0 hb0 h hlen
  go_enter Tryd.func6, Tryd.ntmps6
  go_wp2_with (first | (refine wpList_load_row rfl 38 _ rfl 0 rfl T shpCells (0, 0) _ HG.out Tryd.underlying38 rfl (by kernel_rfl) ?_) | fail)
  have HG' : Hid ((w.alloc (.cells #[.int .i64 0, .int .i64 0, .int .i64 0, .int .i64 0, .int .i64 0, .int .i64 0, .int .i64 0] 24)).heap.size = w.heap.size + 1) := Lib.hid (by simp)
  generalize (w.alloc (.cells #[.int .i64 0, .int .i64 0, .int .i64 0, .int .i64 0, .int .i64 0, .int .i64 0, .int .i64 0] 24)) = w1 at *
  go_loopw [9] (fun ii wr => ∃ k : Nat, k ≤ 20 ∧ ii = .int .i64 (k : Int) ∧ (∀ (i : Nat) (s : Shp), i < k → shapesL[i]? = some s → sdec s l = none) ∧ wr.heap[w.heap.size]? = some (.cells #[.int .i64 0, .int .i64 0, .int .i64 0, .int .i64 0, .int .i64 0, .int .i64 0, .int .i64 0] 24 (0, 0)) ∧ Below w.heap.size w wr) (fun ii _ => 20 - (intOf ii).toNat)
  case atStart => exact ⟨0, Nat.zero_le _, rfl, fun i s hi => absurd hi (by omega), HR.out, HB.out⟩
  case round =>
    obtain ⟨k, hk, rfl, hall, hrow, hb⟩ := hrel
    have HALL := Lib.hid hall
    have HROW := Lib.hid hrow
    have HBR := Lib.hid hb
    clear hall hb
    have hkI : (0 : Int) ≤ (k : Int) := by omega
    by_cases hlt : k < 20
    · obtain ⟨s, hs, hix⟩ := index_shapes k hlt
      have HDk := Lib.hid fun W hb => HD.out k s hs W hb
      have HS := Lib.hid hs
      have hI : (k : Int) < 20 := by omega
      cases hsd : sdec s l with
      | none =>
        rw [hsd] at HDk
        have HSD := Lib.hid hsd
        clear hs hsd HD
        simp only [optI, ins0] at HDk
        have hbA : Below w.heap.size w (wr.alloc (.cells #[.string (str s.first), .int .i64 (s.base : Int), .bool s.r, .bool s.m, .bool s.mem, .int .i64 (s.width : Int)] 37)) := HBR.out.alloc HBR.out.size _
        go_wp2_with fail
        refine (HDk.out _ hbA).mono ?_
        rintro e w2 ⟨rfl, hb2⟩
        have hbr : Below wr.heap.size wr (w2.alloc (.cells #[.int .i64 0, .int .i64 0, .int .i64 0, .int .i64 0, .int .i64 0, .int .i64 0, .int .i64 0] 24)) := (((Below.refl wr.heap.size wr).alloc (Nat.le_refl _) _).trans (hb2.mono (by simp))).alloc (by have := hb2.size; simp at this; omega) _
        have hbn : Below w.heap.size w (w2.alloc (.cells #[.int .i64 0, .int .i64 0, .int .i64 0, .int .i64 0, .int .i64 0, .int .i64 0, .int .i64 0] 24)) := HBR.out.trans (hbr.mono HBR.out.size)
        have HROW2 := Lib.hid (row_later hbr HROW.out)
        have HBN := Lib.hid hbn
        clear hb2 hbr hbn hbA
        go_wp2_with fail
        go_roundw
        case rel =>
          refine ⟨k + 1, hlt, by go_num, fun i t hi ht => ?_, HROW2.out, HBN.out⟩
          by_cases hik : i < k
          · exact HALL.out i t hik ht
          · obtain rfl : i = k := by omega
            have := HS.out.symm.trans ht
            cases this
            exact HSD.out
        case measure => simp [intOf]; omega
      | some x =>
        rw [hsd] at HDk
        have HX := Lib.hid (sdec_yes hs hsd)
        clear hs hsd HD
        simp only [optI] at HDk
        have hbA : Below w.heap.size w (wr.alloc (.cells #[.string (str s.first), .int .i64 (s.base : Int), .bool s.r, .bool s.m, .bool s.mem, .int .i64 (s.width : Int)] 37)) := HBR.out.alloc HBR.out.size _
        have hw1 : IntKind.i64.wrap ((k : Int) + 1) = (k : Int) + 1 := IntWalk.i64_in _ (by omega)
        go_wp2_with fail
        refine (HDk.out _ hbA).mono ?_
        rintro e w2 ⟨rfl, hb2⟩
        have hbr : Below wr.heap.size wr (w2.alloc (.cells #[.int .i64 x.op, .int .i64 x.r, .int .i64 x.m, .int .i64 x.len, .int .i64 x.field, .int .i64 x.width, .int .i64 x.imm] 24)) := (((Below.refl wr.heap.size wr).alloc (Nat.le_refl _) _).trans (hb2.mono (by simp))).alloc (by have := hb2.size; simp at this; omega) _
        have hbn : Below w.heap.size w (w2.alloc (.cells #[.int .i64 x.op, .int .i64 x.r, .int .i64 x.m, .int .i64 x.len, .int .i64 x.field, .int .i64 x.width, .int .i64 x.imm] 24)) := HBR.out.trans (hbr.mono HBR.out.size)
        have HBN := Lib.hid hbn
        have hr2 := row_later hbr HROW.out
        have HROW2 := Lib.hid hr2
        have hx2 : (w2.alloc (.cells #[.int .i64 x.op, .int .i64 x.r, .int .i64 x.m, .int .i64 x.len, .int .i64 x.field, .int .i64 x.width, .int .i64 x.imm] 24)).heap[w2.heap.size]? = some (.cells #[.int .i64 x.op, .int .i64 x.r, .int .i64 x.m, .int .i64 x.len, .int .i64 x.field, .int .i64 x.width, .int .i64 x.imm] 24 (0, 0)) := heap_alloc_new w2 _
        obtain ⟨⟨z0, z1, z2, z3, z4, z5, z6⟩, f0, f1, f2, f3, f4, f5, f6⟩ := seven_cells hr2
        obtain ⟨⟨x0, x1, x2, x3, x4, x5, x6⟩, p0, p1, p2, p3, p4, p5, p6⟩ := seven_cells hx2
        have hgx : w.heap.size < w2.heap.size := by
          have h1 := hb2.size
          have h2 := HBR.out.size
          simp at h1
          omega
        clear hb2 hbr hbn hbA hr2 hx2
        go_upto_region 5 with fail
        generalize (w2.alloc (.cells #[.int .i64 x.op, .int .i64 x.r, .int .i64 x.m, .int .i64 x.len, .int .i64 x.field, .int .i64 x.width, .int .i64 x.imm] 24)) = w3 at *
        generalize w2.heap.size = gx at *
        go_wp2_with fail
        have hbs : Below w.heap.size w (w3.setCell ⟨gx, 0, none⟩ (.int .i64 ((k : Int) + 1))) := HBN.out.setCell (by simp; omega) _
        obtain ⟨y1, y2⟩ := seven_set (.int .i64 ((k : Int) + 1)) (.int .i64 x.r) (.int .i64 x.m) (.int .i64 x.len) (.int .i64 x.field) (.int .i64 x.width) (.int .i64 x.imm) (Nat.le_refl w.heap.size) hbs (by rw [heap_setCell_other _ _ _ _ (by simp; omega)]; exact HROW2.out)
        rw [HX.out]
        exact bodyPost_ret (results_ins rfl _ _ _ _ _ _ _ _ _ _ _ (by rfl) (by rfl) y1) rfl ⟨rfl, y2⟩
    · obtain rfl : k = 20 := by omega
      have HN := Lib.hid (sdec_all HALL.out)
      obtain ⟨⟨z0, z1, z2, z3, z4, z5, z6⟩, f0, f1, f2, f3, f4, f5, f6⟩ := seven_cells HROW.out
      clear HALL hrow
      go_wp2_with fail
      obtain ⟨y1, y2⟩ := seven_set (.int .i64 0) (.int .i64 0) (.int .i64 0) (.int .i64 0) (.int .i64 0) (.int .i64 0) (.int .i64 0) (Nat.le_refl w.heap.size) HBR.out HROW.out
      rw [HN.out]
      exact bodyPost_ret (results_ins rfl _ _ _ _ _ _ _ _ _ _ _ (by rfl) (by rfl) y1) rfl ⟨rfl, y2⟩
end Go.Proofs.YtbedbkifdhjdfaaDoor
