/-
  Images that are read: a segment; its numbers.
-/
import Derived.Test.YtjhohbgehpddpaaExecB
import Derived.Test.YtjhohbgehpddpaaRowL0
import Derived.Laws.ResultCell
import Derived.Deep.CutBlock
import Derived.Deep.DeepCutAuto
namespace Go.Proofs.Ytjhohbgehpddpaa
open Go.RowKit

structure SegD where
  (addr size flags : Nat)
  data : List UInt8
def sFirst (l : List UInt8) (j : Nat) : Nat := num (win l j 4)
def sFlags (l : List UInt8) (j : Nat) : Nat := num (win l (j + 4) 4)
/-- Number m of a segment's. -/
def sV (l : List UInt8) (j m : Nat) : Nat := nV l (j + 8 + 8 * m)
def sAll (l : List UInt8) (j : Nat) : Bool := nOK l (j + 8) && (nOK l (j + 16) && (nOK l (j + 24) && (nOK l (j + 32) && (nOK l (j + 40) && nOK l (j + 48)))))
def sC1 (l : List UInt8) (j : Nat) : Bool := !(sFirst l j == 1) || decide (sFlags l j < 4) || decide (6 < sFlags l j) || !(sV l j 2 == sV l j 1)
def sC2 (l : List UInt8) (j : Nat) : Bool := decide (sV l j 4 < sV l j 3) || decide (l.length < sV l j 0 + sV l j 3) || decide (2147483648 < sV l j 1 + sV l j 4)
def sC3 (l : List UInt8) (j : Nat) : Bool := !(onesI (sV l j 5) == 1) || !(sV l j 0 % sV l j 5 == sV l j 1 % sV l j 5)
def segOK (l : List UInt8) (j : Nat) : Bool := sAll l j && (!sC1 l j && (!sC2 l j && !sC3 l j))
def segD (l : List UInt8) (j : Nat) : SegD := ⟨sV l j 1, sV l j 4, sFlags l j, (l.drop (sV l j 0)).take (sV l j 3)⟩

abbrev zSegL : List Value := [.int .i64 0, .int .i64 0, .int .i64 0, .slice none 0 0]
abbrev zSegC : Array Value := #[.int .i64 0, .int .i64 0, .int .i64 0, .slice none 0 0]
theorem cells4 (w : World) (g : Nat) (v0 v1 v2 v3 : Value) (T : TypeId) (h : w.heap[g]? = some (.cells #[v0, v1, v2, v3] T (0, 0))) :
    (w.cell? ⟨g, 0, none⟩ = some v0 ∧ w.cell? ⟨g, 1, none⟩ = some v1 ∧ w.cell? ⟨g, 2, none⟩ = some v2 ∧ w.cell? ⟨g, 3, none⟩ = some v3) ∧
    (w.frozen? ⟨g, 0, none⟩ = false ∧ w.frozen? ⟨g, 1, none⟩ = false ∧ w.frozen? ⟨g, 2, none⟩ = false ∧ w.frozen? ⟨g, 3, none⟩ = false) := by
  refine ⟨⟨?_, ?_, ?_, ?_⟩, ?_, ?_, ?_, ?_⟩
  all_goals first | exact (cell_of_row w g _ _ _ (0, 0) h).trans rfl | exact frozen_of_row w g _ _ _ h | fail
theorem set_four {w : World} {g N : Nat} {v0 v1 v2 v3 : Value} {T : TypeId} (u0 u1 u2 u3 : Value) (hN : N ≤ g) (h : w.heap[g]? = some (.cells #[v0, v1, v2, v3] T (0, 0))) :
    ((((w.setCell ⟨g, 0, none⟩ u0).setCell ⟨g, 1, none⟩ u1).setCell ⟨g, 2, none⟩ u2).setCell ⟨g, 3, none⟩ u3).heap[g]? = some (.cells #[u0, u1, u2, u3] T (0, 0)) ∧ FrT N [T] w ((((w.setCell ⟨g, 0, none⟩ u0).setCell ⟨g, 1, none⟩ u1).setCell ⟨g, 2, none⟩ u2).setCell ⟨g, 3, none⟩ u3) := by
  have h0 := heap_setCell_same w g 0 _ _ u0 h
  have h1 := heap_setCell_same _ g 1 _ _ u1 h0
  have h2 := heap_setCell_same _ g 2 _ _ u2 h1
  have h3 := heap_setCell_same _ g 3 _ _ u3 h2
  exact ⟨h3, (((FrT.set h (by simp) hN _).trans (FrT.set h0 (by simp) hN _)).trans (FrT.set h1 (by simp) hN _)).trans (FrT.set h2 (by simp) hN _)⟩
theorem results_seg {fn : Func} {p u : Tmp} (h : fn.results = #[.cell p 48, .tmp u]) (tmps : Array Value) (w : World) (g : Nat) (v0 v1 v2 v3 b : Value) (hp : tmps.getD p undef = .pointer (some ⟨g, 0, none⟩)) (hu : tmps.getD u undef = b)
    (hg : w.heap[g]? = some (.cells #[v0, v1, v2, v3] 48 (0, 0))) : (results fn tmps).run Try.prog w = .ok (.tuple #[.agg #[v0, v1, v2, v3], b]) w := by
  obtain ⟨⟨r0, r1, r2, r3⟩, _⟩ := cells4 _ _ _ _ _ _ _ hg
  rw [results_cell_tmp h, hp, hu]
  go_simp

/-- The array of a segment's numbers behind k rounds. -/
def arrS (f : Nat → Nat) (k : Nat) : Array Value := ((List.range 6).map fun m => Value.int .i64 (if m < k then (f m : Int) else 0)).toArray
theorem arrS_set (f : Nat → Nat) (k : Nat) (hk : k < 6) : (arrS f k).setIfInBounds k (.int .i64 (f k : Int)) = arrS f (k + 1) := by
  match k, hk with
  | 0, _ | 1, _ | 2, _ | 3, _ | 4, _ | 5, _ => simp [arrS, List.range, List.range.loop]
theorem arrS_zero (f : Nat → Nat) : arrS f 0 = #[.int .i64 0, .int .i64 0, .int .i64 0, .int .i64 0, .int .i64 0, .int .i64 0] := by simp [arrS, List.range, List.range.loop]
theorem arrS_six (f : Nat → Nat) : arrS f 6 = #[.int .i64 (f 0 : Int), .int .i64 (f 1 : Int), .int .i64 (f 2 : Int), .int .i64 (f 3 : Int), .int .i64 (f 4 : Int), .int .i64 (f 5 : Int)] := by simp [arrS, List.range, List.range.loop]
theorem arrS_size (f : Nat → Nat) (k : Nat) : (arrS f k).size = 6 := by simp [arrS]
theorem cells6s (w : World) (g : Nat) (v0 v1 v2 v3 v4 v5 : Value) (T : TypeId) (h : w.heap[g]? = some (.cells #[v0, v1, v2, v3, v4, v5] T (0, 0))) :
    w.cell? ⟨g, 0, none⟩ = some v0 ∧ w.cell? ⟨g, 1, none⟩ = some v1 ∧ w.cell? ⟨g, 2, none⟩ = some v2 ∧ w.cell? ⟨g, 3, none⟩ = some v3 ∧ w.cell? ⟨g, 4, none⟩ = some v4 ∧ w.cell? ⟨g, 5, none⟩ = some v5 := by
  refine ⟨?_, ?_, ?_, ?_, ?_, ?_⟩
  all_goals exact (cell_of_row w g _ _ _ (0, 0) h).trans rfl

/-- What readSegment tells. -/
def XSegIs (l : List UInt8) (j : Nat) (w : World) (e : Ending) (w' : World) : Prop := ∃ v0 v1 v2 v3 ok, e = .returned (.tuple #[.agg #[v0, v1, v2, v3], .bool ok]) ∧ Below w.heap.size w w' ∧
  (ok = false ∧ segOK l j = false ∧ v0 = .int .i64 0 ∧ v1 = .int .i64 0 ∧ v2 = .int .i64 0 ∧ v3 = .slice none 0 0 ∨
   ok = true ∧ segOK l j = true ∧ v0 = .int .i64 ((segD l j).addr : Int) ∧ v1 = .int .i64 ((segD l j).size : Int) ∧ v2 = .int .i64 ((segD l j).flags : Int) ∧ w'.ownsRow w.heap.size 5 1 v3 (segD l j).data.length ((segD l j).data.map u8v))
end Go.Proofs.Ytjhohbgehpddpaa
