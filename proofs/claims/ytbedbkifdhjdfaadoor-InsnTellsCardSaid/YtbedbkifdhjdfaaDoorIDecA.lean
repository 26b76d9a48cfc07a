/-
  Contract of the project's insn: shape.decode, where bytes don't begin so.
-/
import Derived.Test.YtbedbkifdhjdfaaDoorIRegs
import Derived.Deep.DeepCutAuto
import Derived.Deep.RegionHeld
namespace Go.Proofs.YtbedbkifdhjdfaaDoor
open Go.RowKit

def ins0 : Ins := ⟨0, 0, 0, 0, 0, 0, 0⟩
abbrev Ins.v (x : Ins) : Value := .agg #[.int .i64 x.op, .int .i64 x.r, .int .i64 x.m, .int .i64 x.len, .int .i64 x.field, .int .i64 x.width, .int .i64 x.imm]
/-- What a shape makes of bytes, but for Op. -/
def sdec (s : Shp) (l : List UInt8) : Option Ins := (hm s l).bind fun q => fld ⟨0, q.1, q.2.1, q.2.2, s.width⟩ l
theorem sdec_no {s : Shp} {l : List UInt8} (h : ¬ s.first <+: l) : sdec s l = none := by
  unfold sdec hm
  rw [if_neg h]; rfl

theorem str_size (l : List UInt8) : (str l).size = l.length := rfl
theorem has_take {w : World} {p : Option Addr} {l : List UInt8} (h : Has w p l) (k : Nat) : Has w p (l.take k) := fun i x hx => h i x (by
  rw [List.getElem?_take] at hx
  split at hx
  · exact hx
  · cases hx)
theorem lst_str (l : List UInt8) : lst (str l) = l := rfl

/-- The world behind the two new structs. -/
abbrev wtwo (w : World) (s : Shp) : World := (w.alloc (.cells #[.string (str s.first), .int .i64 (s.base : Int), .bool s.r, .bool s.m, .bool s.mem, .int .i64 (s.width : Int)] 37)).alloc (.cells #[.int .i64 0, .int .i64 0, .int .i64 0, .int .i64 0, .int .i64 0, .int .i64 0, .int .i64 0] 24)
theorem wtwo_below (w : World) (s : Shp) : Below w.heap.size w (wtwo w s) := ((Below.refl _ w).alloc (Nat.le_refl _) _).alloc (by simp) _

theorem cells6r {w : World} {g : Nat} {v0 v1 v2 v3 v4 v5 : Value} {T : TypeId} (h : w.heap[g]? = some (.cells #[v0, v1, v2, v3, v4, v5] T (0, 0))) :
    w.cell? ⟨g, 0, none⟩ = some v0 ∧ w.cell? ⟨g, 1, none⟩ = some v1 ∧ w.cell? ⟨g, 2, none⟩ = some v2 ∧ w.cell? ⟨g, 3, none⟩ = some v3 ∧ w.cell? ⟨g, 4, none⟩ = some v4 ∧ w.cell? ⟨g, 5, none⟩ = some v5 := by
  refine ⟨?_, ?_, ?_, ?_, ?_, ?_⟩ <;> exact (cell_of_row w g _ _ _ (0, 0) h).trans rfl
theorem wtwo_rows (w : World) (s : Shp) : (wtwo w s).heap[w.heap.size]? = some (.cells #[.string (str s.first), .int .i64 (s.base : Int), .bool s.r, .bool s.m, .bool s.mem, .int .i64 (s.width : Int)] 37 (0, 0)) ∧
    (wtwo w s).heap[w.heap.size + 1]? = some (.cells #[.int .i64 0, .int .i64 0, .int .i64 0, .int .i64 0, .int .i64 0, .int .i64 0, .int .i64 0] 24 (0, 0)) ∧ (wtwo w s).heap.size = w.heap.size + 1 + 1 := by
  refine ⟨?_, ?_, by simp [wtwo]⟩
  · unfold wtwo
    rw [Below.heap_alloc _ _ _ (by simp)]
    exact heap_alloc_new w _
  · have := heap_alloc_new (w.alloc (.cells #[.string (str s.first), .int .i64 (s.base : Int), .bool s.r, .bool s.m, .bool s.mem, .int .i64 (s.width : Int)] 37)) (.cells #[.int .i64 0, .int .i64 0, .int .i64 0, .int .i64 0, .int .i64 0, .int .i64 0, .int .i64 0] 24)
    simpa [wtwo] using this

theorem set7 {w0 w : World} {B g : Nat} {cs : Array Value} {T : TypeId} (cs' : Array Value) (i : Nat) (v : Value) (hB : B ≤ g) (h : w.heap[g]? = some (.cells cs T (0, 0)) ∧ Below B w0 w) (e : cs.setIfInBounds i v = cs') :
    (w.setCell ⟨g, i, none⟩ v).heap[g]? = some (.cells cs' T (0, 0)) ∧ Below B w0 (w.setCell ⟨g, i, none⟩ v) := by
  subst e
  exact ⟨heap_setCell_same w g i _ _ v h.1, h.2.setCell (by simpa using hB) v⟩
theorem seven_set {w0 w : World} {B g : Nat} {v0 v1 v2 v3 v4 v5 v6 : Value} {T : TypeId} (u0 u1 u2 u3 u4 u5 u6 : Value) (hB : B ≤ g) (hb : Below B w0 w) (h : w.heap[g]? = some (.cells #[v0, v1, v2, v3, v4, v5, v6] T (0, 0))) :
    (((((((w.setCell ⟨g, 0, none⟩ u0).setCell ⟨g, 1, none⟩ u1).setCell ⟨g, 2, none⟩ u2).setCell ⟨g, 3, none⟩ u3).setCell ⟨g, 4, none⟩ u4).setCell ⟨g, 5, none⟩ u5).setCell ⟨g, 6, none⟩ u6).heap[g]? = some (.cells #[u0, u1, u2, u3, u4, u5, u6] T (0, 0)) ∧ Below B w0 (((((((w.setCell ⟨g, 0, none⟩ u0).setCell ⟨g, 1, none⟩ u1).setCell ⟨g, 2, none⟩ u2).setCell ⟨g, 3, none⟩ u3).setCell ⟨g, 4, none⟩ u4).setCell ⟨g, 5, none⟩ u5).setCell ⟨g, 6, none⟩ u6) := by
  have h0 := set7 #[u0, v1, v2, v3, v4, v5, v6] 0 u0 hB ⟨h, hb⟩ rfl
  have h1 := set7 #[u0, u1, v2, v3, v4, v5, v6] 1 u1 hB h0 rfl
  have h2 := set7 #[u0, u1, u2, v3, v4, v5, v6] 2 u2 hB h1 rfl
  have h3 := set7 #[u0, u1, u2, u3, v4, v5, v6] 3 u3 hB h2 rfl
  have h4 := set7 #[u0, u1, u2, u3, u4, v5, v6] 4 u4 hB h3 rfl
  have h5 := set7 #[u0, u1, u2, u3, u4, u5, v6] 5 u5 hB h4 rfl
  exact set7 #[u0, u1, u2, u3, u4, u5, u6] 6 u6 hB h5 rfl
theorem seven_cells {w : World} {g : Nat} {v0 v1 v2 v3 v4 v5 v6 : Value} {T : TypeId} (h : w.heap[g]? = some (.cells #[v0, v1, v2, v3, v4, v5, v6] T (0, 0))) :
    (w.cell? ⟨g, 0, none⟩ = some v0 ∧ w.cell? ⟨g, 1, none⟩ = some v1 ∧ w.cell? ⟨g, 2, none⟩ = some v2 ∧ w.cell? ⟨g, 3, none⟩ = some v3 ∧ w.cell? ⟨g, 4, none⟩ = some v4 ∧ w.cell? ⟨g, 5, none⟩ = some v5 ∧ w.cell? ⟨g, 6, none⟩ = some v6) ∧ (w.frozen? ⟨g, 0, none⟩ = false ∧ w.frozen? ⟨g, 1, none⟩ = false ∧ w.frozen? ⟨g, 2, none⟩ = false ∧ w.frozen? ⟨g, 3, none⟩ = false ∧ w.frozen? ⟨g, 4, none⟩ = false ∧ w.frozen? ⟨g, 5, none⟩ = false ∧ w.frozen? ⟨g, 6, none⟩ = false) := by
  refine ⟨⟨?_, ?_, ?_, ?_, ?_, ?_, ?_⟩, ?_, ?_, ?_, ?_, ?_, ?_, ?_⟩
  all_goals first | exact (cell_of_row w g _ _ _ (0, 0) h).trans rfl | exact frozen_of_row w g _ _ _ h
theorem results_ins {fn : Func} {p u : Tmp} (h : fn.results = #[.cell p 24, .tmp u]) (tmps : Array Value) (w : World) (g : Nat) (v0 v1 v2 v3 v4 v5 v6 : Value) (b : Bool) (hp : tmps.getD p undef = .pointer (some ⟨g, 0, none⟩)) (hu : tmps.getD u undef = .bool b)
    (hg : w.heap[g]? = some (.cells #[v0, v1, v2, v3, v4, v5, v6] 24 (0, 0))) : (results fn tmps).run Tryd.prog w = .ok (.tuple #[.agg #[v0, v1, v2, v3, v4, v5, v6], .bool b]) w := by
  obtain ⟨⟨r0, r1, r2, r3, r4, r5, r6⟩, _⟩ := seven_cells hg
  rw [results_cell_tmp h, hp, hu]
  go_simp
theorem results_ins_drew {fn : Func} {p u : Tmp} (h : fn.results = #[.cell p 24, .tmp u]) (tmps : Array Value) (w : World) (g : Nat) (v0 v1 v2 v3 v4 v5 v6 : Value) (b : Bool) (hp : tmps.getD p undef = .pointer (some ⟨g, 0, none⟩)) (hu : tmps.getD u undef = .bool b)
    (hg : w.heap[g]? = some (.cells #[v0, v1, v2, v3, v4, v5, v6] 24 (0, 0))) : (results fn tmps).run Tryd.prog w.drew = .ok (.tuple #[.agg #[v0, v1, v2, v3, v4, v5, v6], .bool b]) w.drew :=
  results_ins h tmps w.drew g v0 v1 v2 v3 v4 v5 v6 b hp hu hg
theorem row_later {w w' : World} {g : Nat} {o : Obj} (hb : Below w.heap.size w w') (h : w.heap[g]? = some o) : w'.heap[g]? = some o := by
  rw [hb.block g (Array.getElem?_eq_some_iff.1 h).1]; exact h

set_option maxRecDepth 100000 in
set_option maxHeartbeats 4000000 in
theorem idec_no (s : Shp) (p : Option Addr) (len cap : Nat) (l : List UInt8) (w : World) (h : Has w p l) (hlen : l.length = len) (hcap : len ≤ cap) (hno : ¬ s.first <+: l) :
    Calls Tryd.prog 11 #[shpV s, .slice p len cap] w fun e w' => e = .returned (.tuple #[ins0.v, .bool false]) ∧ Below w.heap.size w w' := by
  have hdd : ∀ k : Nat, decide (s.first <+: l.take k) = false := fun k => decide_eq_false fun hp => hno (hp.trans (List.take_prefix _ _))
  have hkf : ∀ k : Nat, k = (if len < (str s.first).size then len else (str s.first).size) → k ≤ len := fun k hk => by subst hk; split <;> omega
  obtain ⟨r0, r1, r2⟩ := wtwo_rows w s
  have hb := wtwo_below w s
  have hcv := fun (k : Nat) (hk : k ≤ len) => conv_at (has_take (h.below hb) k) (n := k) (c := cap) (by rw [List.length_take]; omega) rfl
  have hI0 : ¬ (len : Int) < 0 := by omega
  have hI1 : (0 : Int) ≤ (len : Int) := by omega
  have hI2 : (len : Int) ≤ (cap : Int) := by omega
  obtain ⟨k, hk⟩ : ∃ k : Nat, k = (if len < (str s.first).size then len else (str s.first).size) := ⟨_, rfl⟩
  have hk2 : (if len < (str s.first).size then (len : Int) else ((str s.first).size : Int)) = (k : Int) := by subst hk; split <;> rfl
  have hk1 := hkf k hk
  have hc := hcv k hk1
  have hk3 : (k : Int) ≤ (cap : Int) := by omega
  have HP : Hid (∀ W : World, Calls Tryd.prog 18 #[.string (str (l.take k)), .string (str s.first)] W fun e w' => e = .returned (.bool false) ∧ w' = W) := Lib.hid fun W => by
    have := hasPre_any (str (l.take k)) (str s.first) W
    rw [lst_str, lst_str, hdd k] at this
    exact this
  clear hno h hlen hcv hk hdd hkf
  have hr := (Below.refl (wtwo w s).heap.size (wtwo w s)).drew
  have HB := Lib.hid hb
  have hz0 : w.heap.size + 1 < (wtwo w s).heap.size := by omega
  obtain ⟨N, hN⟩ : ∃ N, N = (wtwo w s).heap.size := ⟨_, rfl⟩
  rw [← hN] at hc hr hz0
  obtain ⟨c0, c1, c2, c3, c4, c5⟩ := cells6r r0
  obtain ⟨⟨z0, z1, z2, z3, z4, z5, z6⟩, f0, f1, f2, f3, f4, f5, f6⟩ := seven_cells r1
  clear hb r2
  go_enter Tryd.func11, Tryd.ntmps11
  go_upto_region 2 with fail
  obtain ⟨w1, hw1⟩ : ∃ w1 : World, w1 = ((w.alloc (.cells #[.string (str s.first), .int .i64 (s.base : Int), .bool s.r, .bool s.m, .bool s.mem, .int .i64 (s.width : Int)] 37)).alloc (.cells #[.int .i64 0, .int .i64 0, .int .i64 0, .int .i64 0, .int .i64 0, .int .i64 0, .int .i64 0] 24)) := ⟨_, rfl⟩
  rw [← hw1]
  have hw2 : wtwo w s = w1 := hw1.symm
  rw [hw2] at HB hc hr hN r0 r1 c0 c1 c2 c3 c4 c5 z0 z1 z2 z3 z4 z5 z6 f0 f1 f2 f3 f4 f5 f6
  have HN := Lib.hid hN
  have R0 := Lib.hid r0
  have R1 := Lib.hid r1
  clear hw1 hw2 hN r0 r1
  go_cut [22] (fun s22 wx => s22 = .bool true ∧ wx = w1.drew)
  case first =>
    go_region_held (fun W => W.cell? ⟨w.heap.size, 0, none⟩ = some (.string (str s.first))) (first | exact c0 | go_keep) (first
      | (go_at_call 18
         refine (HP.out _).mono ?_
         rintro e w4 ⟨rfl, rfl⟩)
      | fail)
    all_goals
      go_wp2_with fail
      go_meet
      exact ⟨rfl, rfl⟩
  case rest =>
    obtain ⟨rfl, rfl⟩ := hcut
    go_wp2_with fail
    obtain ⟨y1, y2⟩ := seven_set (.int .i64 0) (.int .i64 0) (.int .i64 0) (.int .i64 0) (.int .i64 0) (.int .i64 0) (.int .i64 0) (show w.heap.size ≤ w.heap.size + 1 by omega) HB.out R1.out
    exact bodyPost_ret (results_ins_drew rfl _ _ _ _ _ _ _ _ _ _ _ (by rfl) (by rfl) y1) rfl ⟨rfl, y2.drew⟩
end Go.Proofs.YtbedbkifdhjdfaaDoor
