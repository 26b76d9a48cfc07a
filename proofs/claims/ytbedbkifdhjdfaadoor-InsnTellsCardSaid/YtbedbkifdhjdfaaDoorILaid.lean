/-
  What the package variable shapes holds when the call begins, as cells.
-/
import Derived.Test.YtbedbkifdhjdfaaDoorIDecD
import Derived.Test.YtbedbkifdhjdfaaDoorRows
import Derived.ChangeArms
import Derived.Laws.Rows
namespace Go.Proofs.YtbedbkifdhjdfaaDoor
open Go.RowKit

def cells6 (s : Shp) : List Value := [.string (str s.first), .int .i64 (s.base : Int), .bool s.r, .bool s.m, .bool s.mem, .int .i64 (s.width : Int)]
def shpCells : Array Value := (shapesL.flatMap cells6).toArray
/-- In this world the variable holds the twenty shapes. -/
def Shapes (w : World) : Prop := ∃ T, w.heap[0]? = some (.cells shpCells T (0, 0))
theorem Shapes.below {w w' : World} {B : Nat} (h : Shapes w) (hb : Below B w w') (hB : w.heap.size ≤ B) : Shapes w' := by
  obtain ⟨T, h⟩ := h
  refine ⟨T, ?_⟩
  rw [hb.block 0 (by have := (Array.getElem?_eq_some_iff.1 h).1; omega)]
  exact h

def dat6 (s : Shp) : DataW Unit := .agg [.lit (.string s.first), .lit (.int .i64 (s.base : Int)), .lit (.bool s.r), .lit (.bool s.m), .lit (.bool s.mem), .lit (.int .i64 (s.width : Int))]
theorem laid_dat : (Rows.laid_fishplate_insn_shapes : DataW Unit) = .agg (shapesL.map dat6) := rfl

theorem Tryd.shName : Tryd.prog.globalNamed "fishplate/insn.shapes" = some 0 := by kernel_rfl
theorem Tryd.shType : (Tryd.prog.globals[0]?).map (·.type) = some 38 := by kernel_rfl
theorem Tryd.shCells : Tryd.prog.cellsOf 38 = 120 := by kernel_rfl
theorem Tryd.shCell1 : Tryd.prog.cellsOf 37 = 6 := by kernel_rfl
theorem Tryd.one_s : Tryd.prog.cellsOf 9 = 1 := by kernel_rfl
theorem Tryd.one_i : Tryd.prog.cellsOf 3 = 1 := by kernel_rfl
theorem Tryd.one_b : Tryd.prog.cellsOf 4 = 1 := by kernel_rfl

theorem inv6 {W : World} {fuel : Nat} {cs : List Value} {s : Shp} {q : List MemPlace} (h : DataW.trod (fun _ => ()) Tryd.prog W 0 (fun _ => true) false fuel 37 cs = some (dat6 s, q)) : cs = cells6 s := by
  obtain ⟨xs, n, _, hx, hl, hxl, hf⟩ := DataW.trod_struct Tryd.underlying37 h
  rw [Tryd.shCell1] at hl
  obtain ⟨c0, c1, c2, c3, c4, c5, rfl⟩ : ∃ c0 c1 c2 c3 c4 c5, cs = [c0, c1, c2, c3, c4, c5] := by
    match cs, hl with
    | [a, b, c, d, e, f], _ => exact ⟨a, b, c, d, e, f, rfl⟩
  obtain ⟨y0, y1, y2, y3, y4, y5, rfl⟩ : ∃ y0 y1 y2 y3 y4 y5, xs = [y0, y1, y2, y3, y4, y5] := by
    match xs, (hxl : xs.length = 6) with
    | [a, b, c, d, e, f], _ => exact ⟨a, b, c, d, e, f, rfl⟩
  have g0 : DataW.trod (fun _ => ()) Tryd.prog W 0 (fun _ => true) false n 9 (List.take (Tryd.prog.cellsOf 9) (List.drop 0 [c0, c1, c2, c3, c4, c5])) = some y0 := hf 0 _ rfl
  rw [Tryd.one_s] at g0
  have g1 : DataW.trod (fun _ => ()) Tryd.prog W 0 (fun _ => true) false n 3 (List.take (Tryd.prog.cellsOf 3) (List.drop 1 [c0, c1, c2, c3, c4, c5])) = some y1 := hf 1 _ rfl
  rw [Tryd.one_i] at g1
  have g2 : DataW.trod (fun _ => ()) Tryd.prog W 0 (fun _ => true) false n 4 (List.take (Tryd.prog.cellsOf 4) (List.drop 2 [c0, c1, c2, c3, c4, c5])) = some y2 := hf 2 _ rfl
  rw [Tryd.one_b] at g2
  have g3 : DataW.trod (fun _ => ()) Tryd.prog W 0 (fun _ => true) false n 4 (List.take (Tryd.prog.cellsOf 4) (List.drop 3 [c0, c1, c2, c3, c4, c5])) = some y3 := hf 3 _ rfl
  rw [Tryd.one_b] at g3
  have g4 : DataW.trod (fun _ => ()) Tryd.prog W 0 (fun _ => true) false n 4 (List.take (Tryd.prog.cellsOf 4) (List.drop 4 [c0, c1, c2, c3, c4, c5])) = some y4 := hf 4 _ rfl
  rw [Tryd.one_b] at g4
  have g5 : DataW.trod (fun _ => ()) Tryd.prog W 0 (fun _ => true) false n 3 (List.take (Tryd.prog.cellsOf 3) (List.drop 5 [c0, c1, c2, c3, c4, c5])) = some y5 := hf 5 _ rfl
  rw [Tryd.one_i] at g5
  obtain ⟨a0, e0, f0, _⟩ := DataW.trod_string Tryd.underlying9 g0
  obtain ⟨a1, e1, f1, _⟩ := DataW.trod_int Tryd.underlying3 g1
  obtain ⟨a2, e2, f2⟩ := DataW.trod_bool Tryd.underlying4 g2
  obtain ⟨a3, e3, f3⟩ := DataW.trod_bool Tryd.underlying4 g3
  obtain ⟨a4, e4, f4⟩ := DataW.trod_bool Tryd.underlying4 g4
  obtain ⟨a5, e5, f5, _⟩ := DataW.trod_int Tryd.underlying3 g5
  simp at e0 e1 e2 e3 e4 e5
  subst e0 e1 e2 e3 e4 e5 f0 f1 f2 f3 f4 f5
  simp [dat6] at hx
  obtain ⟨⟨h0, h1, h2, h3, h4, h5⟩, _⟩ := hx
  have ha : a0 = str s.first := by
    apply lst_inj
    rw [lst_str]
    exact h0.symm
  rw [ha]
  simp [cells6, h1, h2, h3, h4, h5]

theorem mapM_at {α β : Type} {f : α → Option β} : ∀ {l : List α} {xs : List β}, l.mapM f = some xs → xs.length = l.length ∧ ∀ (i : Nat) a, l[i]? = some a → ∃ x, xs[i]? = some x ∧ f a = some x
  | [], xs, h => by
    simp at h; subst h
    exact ⟨rfl, fun i a h => by simp at h⟩
  | a :: l, xs, h => by
    simp only [List.mapM_cons, Option.bind_eq_bind, Option.bind_eq_some_iff, Option.pure_def, Option.some.injEq] at h
    obtain ⟨x, hx, ys, hy, rfl⟩ := h
    obtain ⟨h1, h2⟩ := mapM_at hy
    refine ⟨by simp [h1], fun i b hb => ?_⟩
    match i, hb with
    | 0, hb => simp at hb; subst hb; exact ⟨x, rfl, hx⟩
    | i + 1, hb => exact h2 i b (by simpa using hb)

theorem flat_get (l : List Shp) (i k : Nat) (s : Shp) (hs : l[i]? = some s) (hk : k < 6) : (l.flatMap cells6)[i * 6 + k]? = (cells6 s)[k]? := by
  induction l generalizing i with
  | nil => simp at hs
  | cons a r ih =>
    match i, hs with
    | 0, hs =>
      simp at hs; subst hs
      rw [List.flatMap_cons, List.getElem?_append_left (by simp [cells6]; omega), Nat.zero_mul, Nat.zero_add]
    | i + 1, hs =>
      rw [List.flatMap_cons, List.getElem?_append_right (by simp [cells6]; omega)]
      have e : (i + 1) * 6 + k - (cells6 a).length = i * 6 + k := by simp [cells6]; omega
      rw [e]
      exact ih i (by simpa using hs)

theorem shapes_of_laid {W : World} (h : laidMet Tryd.prog [("fishplate/insn.shapes", Rows.laid_fishplate_insn_shapes)] W) : Shapes W := by
  obtain ⟨ps, ⟨g, t, cs, fuel, p, q, hg, ht, hvar, hd, _, hps⟩, _, hrow⟩ := h
  obtain rfl := Option.some.inj (Tryd.shName.symm.trans hg)
  obtain rfl := Option.some.inj (Tryd.shType.symm.trans ht)
  rw [laid_dat] at hd
  have key : cs = shpCells := by
    obtain ⟨l⟩ := cs
    cases fuel with
    | zero => simp [DataW.trod] at hd
    | succ fuel =>
      simp only [DataW.trod, Tryd.underlying38, Tryd.shCells, Tryd.shCell1] at hd
      split at hd
      · rename_i hl
        obtain ⟨xs, hm, hx⟩ := Option.map_eq_some_iff.1 hd
        obtain ⟨h1, h2⟩ := mapM_at hm
        simp only [Prod.mk.injEq, DataW.agg.injEq] at hx
        have hx1 := hx.1
        unfold shpCells
        congr 1
        apply List.ext_getElem?
        intro j
        by_cases hj : j < 120
        · have hi : j / 6 < 20 := by omega
          obtain ⟨s, hs⟩ : ∃ s, shapesL[j / 6]? = some s := ⟨_, List.getElem?_eq_getElem hi⟩
          obtain ⟨x, hx2, hx3⟩ := h2 (j / 6) (j / 6) (by rw [List.getElem?_range hi])
          have hx4 : x.1 = dat6 s := by
            have e := congrArg (fun (l : List (DataW Unit)) => l[j / 6]?) hx1
            simp only [List.getElem?_map, hx2, hs, Option.map_some, Option.some.injEq] at e
            exact e
          obtain ⟨x1, x2⟩ := x
          simp only at hx4
          subst hx4
          have h6 := inv6 hx3
          have e1 : j = j / 6 * 6 + j % 6 := by omega
          have e2 := congrArg (fun (l : List Value) => l[j % 6]?) h6
          simp only [List.getElem?_take, List.getElem?_drop] at e2
          rw [if_pos (by omega), ← e1] at e2
          have e3 := flat_get shapesL (j / 6) (j % 6) s hs (by omega)
          rw [← e1] at e3
          rw [e2, e3]
        · have e4 : (shapesL.flatMap cells6).length = 120 := rfl
          have hl2 : l.length = 120 := hl
          rw [List.getElem?_eq_none (by omega), List.getElem?_eq_none (by omega)]
      · cases hd
  subst key
  obtain ⟨⟨c, t, hc⟩, _⟩ := hrow 0 0 (by
    rw [hps]
    refine List.mem_append_left _ (List.mem_append_left _ ?_)
    simp [MemPlace.row, shpCells]
    decide)
  refine ⟨t, ?_⟩
  unfold World.var? at hvar
  rw [Tryd.shName, Option.bind_some, hc] at hvar
  simp only [Option.some.injEq] at hvar
  rw [hc, hvar]
end Go.Proofs.YtbedbkifdhjdfaaDoor
