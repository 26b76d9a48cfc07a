/-
  The reference's Resolve: what its walk rests on.
-/
import Derived.Test.YthnkehdcolnegaaGreatNR09
import Derived.Test.YthnkehdcolnegaaGreatNR10
import Derived.Test.YthnkehdcolnegaaGreatNR05
import Derived.Test.YthnkehdcolnegaaGreatNR11
import Derived.Deep.AppendLies
namespace Go.Proofs.YthnkehdcolnegaaGreat
open Go.RowKit

theorem refGo_snoc {xs : List Sy} {D : List (List Bool)} {x : Sy} : ∀ {ys : List Sy} {st : List DefD × Bool}, refGo xs D (ys ++ [x]) st = (refGo xs D ys st).bind (refStep xs D x)
  | [], st => by
    show (match refStep xs D x st with | none => none | some st' => some st') = refStep xs D x st
    cases refStep xs D x st <;> rfl
  | y :: ys, st => by
    show (match refStep xs D y st with | none => none | some st' => refGo xs D (ys ++ [x]) st') = (match refStep xs D y st with | none => none | some st' => refGo xs D ys st').bind (refStep xs D x)
    cases refStep xs D y st with
    | none => rfl
    | some st' => exact refGo_snoc
theorem refGo_none {xs : List Sy} {D : List (List Bool)} {r : List Sy} : ∀ {ys : List Sy} {st : List DefD × Bool}, refGo xs D ys st = none → refGo xs D (ys ++ r) st = none
  | [], st, h => by cases h
  | y :: ys, st, h => by
    have h : (match refStep xs D y st with | none => none | some st' => refGo xs D ys st') = none := h
    show (match refStep xs D y st with | none => none | some st' => refGo xs D (ys ++ r) st') = none
    cases hs : refStep xs D y st with
    | none => rfl
    | some st' => rw [hs] at h; exact refGo_none h
theorem two_filters {α : Type} {p q : α → Bool} (h : ∀ x, p x = true → q x = false) : ∀ l : List α, (l.filter p).length + (l.filter q).length ≤ l.length
  | [] => Nat.le_refl _
  | x :: l => by
    have ih := two_filters h l
    rw [List.filter_cons, List.filter_cons]
    cases hp : p x with
    | true => rw [h x hp]; simp; omega
    | false => cases hq : q x <;> simp <;> omega
theorem putB_len (l : List DefD) (d : DefD) : (putB l d).length ≤ l.length + 1 := by
  unfold putB
  cases l.any (fun e => sEq e.name d.name) with
  | true => exact Nat.le_succ _
  | false =>
    have := two_filters (p := fun e : DefD => sLt e.name d.name) (q := fun e => sLt d.name e.name) (fun x hx => by
      cases hq : sLt d.name x.name with
      | false => rfl
      | true => have := sLt_trans hx hq; rw [sLt_irrefl] at this; cases this) l
    simp only [cond_false, List.length_append, List.length_cons, List.length_nil]
    omega
theorem refStep_len {xs : List Sy} {D : List (List Bool)} {x : Sy} {st st' : List DefD × Bool} (h : refStep xs D x st = some st') : st'.1.length ≤ st.1.length + 1 := by
  unfold refStep at h
  cases h0 : (x.2.2.bind == 0) with
  | true => rw [h0] at h; cases h; exact Nat.le_succ _
  | false =>
    rw [h0] at h
    simp only [cond_false] at h
    cases h1 : decide (1 < (hitsIn xs D x.2.2.name 1).length) with
    | true => rw [h1] at h; cases h
    | false =>
      rw [h1] at h
      simp only [cond_false] at h
      cases h2 : findIn xs D x.2.2.name with
      | none => rw [h2] at h; cases h; exact Nat.le_succ _
      | some d => rw [h2] at h; cases h; exact putB_len _ _
theorem refGo_len {xs : List Sy} {D : List (List Bool)} : ∀ {ys : List Sy} {st st' : List DefD × Bool}, refGo xs D ys st = some st' → st'.1.length ≤ st.1.length + ys.length
  | [], st, st', h => by cases h; exact Nat.le_refl _
  | y :: ys, st, st', h => by
    have h : (match refStep xs D y st with | none => none | some st' => refGo xs D ys st') = some st' := h
    cases hs : refStep xs D y st with
    | none => rw [hs] at h; cases h
    | some s1 =>
      rw [hs] at h
      have h1 := refStep_len hs
      have h2 := refGo_len h
      simp only [List.length_cons]
      omega
theorem FrT.trans' {N : Nat} {Ts Us : List TypeId} {a b c : World} (h : FrT N Ts a b) (k : FrT N Us b c) : FrT N (Ts ++ Us) a c :=
  (h.mono fun _ hT => List.mem_append.2 (.inl hT)).trans (k.mono fun _ hT => List.mem_append.2 (.inr hT))
/-- The rows of the objects ahead, as the reference lays them. -/
def RowsR (w : World) (base : Nat) (vs : List Value) (l : List ObjD) (i : Nat) : Prop := ∀ j o, j < i → l[j]? = some o → ∃ v, vs[j]? = some v ∧ w.ownsRow base 4 1 v o.secs.length ((dropOf l j).map Value.bool)
theorem RowsR.fr {w w' : World} {base N : Nat} {vs : List Value} {l : List ObjD} {i : Nat} {Ts : List TypeId} (h : RowsR w base vs l i) (hf : FrT N Ts w w') (hT : 4 ∉ Ts) : RowsR w' base vs l i := fun j o hj ho => by
  obtain ⟨v, h1, h2⟩ := h j o hj ho
  exact ⟨v, h1, hf.owns h2 hT⟩
theorem RowsR.snoc {w : World} {base : Nat} {vs : List Value} {l : List ObjD} {i : Nat} {o : ObjD} {v : Value} (h : RowsR w base vs l i) (ho : l[i]? = some o) (hi : vs.length = i) (hv : w.ownsRow base 4 1 v o.secs.length ((dropOf l i).map Value.bool)) : RowsR w base (vs ++ [v]) l (i + 1) := fun j o' hj ho' => by
  by_cases hji : j = i
  · subst hji
    rw [ho] at ho'
    cases ho'
    exact ⟨v, by rw [List.getElem?_append_right (by omega), hi]; simp, hv⟩
  · obtain ⟨u, h1, h2⟩ := h j o' (by omega) ho'
    exact ⟨u, by rw [List.getElem?_append_left (by omega)]; exact h1, h2⟩
theorem dropOK_of {w : World} {N base : Nat} {l : List ObjD} {vs : List Value} {v : Value} (h : w.ownsRow N 138 1 v l.length vs) (hr : RowsR w base vs l l.length) : ∃ pd cd, v = .slice pd l.length cd ∧ DropOK w pd l (dropsOf l) := by
  have hlen : (dropsOf l).length = l.length := by simp [dropsOf]
  obtain ⟨pd, cd, rfl, h1, h2, h3⟩ := slice_form h
  refine ⟨pd, cd, rfl, ⟨fun i x hx => ?_, hlen, fun i o ho => ?_⟩⟩
  · have hi : i < l.length := by have := (List.getElem?_eq_some_iff.1 hx).1; omega
    obtain ⟨o, ho⟩ : ∃ o, l[i]? = some o := ⟨_, List.getElem?_eq_getElem hi⟩
    obtain ⟨u, e1, e2⟩ := hr i o hi ho
    rcases h.2 with ⟨_, h0⟩ | ⟨g, cap, cur, e, _⟩
    · omega
    · cases e
      refine ⟨g, 0, rfl, u, ?_, ?_⟩
      · rw [Nat.zero_add, Nat.mul_one, h.cellAt i (by omega)]; exact e1
      · have hxd : x = dropOf l i := by
          unfold dropsOf at hx
          rw [List.getElem?_map, List.getElem?_range hi, Option.map_some] at hx
          exact (Option.some.inj hx).symm
        rw [hxd]
        exact isL_bools e2
  · have hi := (List.getElem?_eq_some_iff.1 ho).1
    have e1 : drAt (dropsOf l) i = dropOf l i := by
      unfold drAt dropsOf
      rw [List.getElem?_map, List.getElem?_range hi]
      rfl
    rw [e1]
    unfold dropOf
    rw [ho]
    exact dropTo_length l i o _
theorem results_rtab {fn : Func} {p u : Tmp} (h : fn.results = #[.cell p 54, .tmp u]) (tmps : Array Value) (w : World) (g : Nat) (v0 v1 b : Value) (hp : tmps.getD p undef = .pointer (some ⟨g, 0, none⟩)) (hu : tmps.getD u undef = b)
    (hg : w.heap[g]? = some (.cells #[v0, v1] 54 (0, 0))) : (results fn tmps).run Tryz.prog w = .ok (.tuple #[.agg #[v0, v1], b]) w := by
  obtain ⟨⟨r0, r1⟩, _⟩ := pair_cells _ _ _ _ _ hg
  rw [results_cell_tmp h, hp, hu]
  go_simp
/-- What the reference's Resolve tells. -/
def RTabIs (l : List ObjD) (mb : Bool) (w' : World) (n : Int) (v0 v1 : Value) : Prop :=
  mb = false ∧ n = 1 ∧ v0 = nilV ∧ v1 = nilV ∨ mb = true ∧ (refGo (allTo ObjD.syms l l.length) (dropsOf l) (allTo ObjD.syms l l.length) ([], false) = none ∧ n = 3 ∧ v0 = nilV ∧ v1 = nilV ∨
    ∃ defs u, refGo (allTo ObjD.syms l l.length) (dropsOf l) (allTo ObjD.syms l l.length) ([], false) = some (defs, u) ∧ (u = true ∧ n = 4 ∧ v0 = nilV ∧ v1 = nilV ∨ u = false ∧ n = 0 ∧ IsTab w' v0 v1 (dropsOf l) defs))
def RTold (l : List ObjD) (mb : Bool) (w : World) (e : Ending) (w' : World) : Prop := ∃ n v0 v1, e = .returned (.tuple #[.agg #[v0, v1], .int .i64 n]) ∧ RTabIs l mb w' n v0 v1 ∧ Below w.heap.size w w'

theorem rcell_two {w : World} {g o : Nat} {v0 v1 : Value} {T : TypeId} (h : w.heap[g]? = some (.cells #[v0, v1] T (0, 0))) : w.cell? ⟨g, o, none⟩ = #[v0, v1][o]? := cell_of_row w g _ _ _ (0, 0) h
theorem defs_set {w : World} {g k : Nat} {p q : Option Addr} {n m c d : Nat} {v x : Value} {T : TypeId} {defs : List DefD} (hT : w.heap[g]? = some (.cells #[.slice p n c, .slice q m d] T (0, 0))) (h : IsL 3 EDef w x defs) : IsL 3 EDef (w.setCell ⟨g, k, none⟩ v) x defs := by
  obtain ⟨p', c', e, h1, h2, h3, h4⟩ := h
  refine ⟨p', c', e, h1, h2, h3, fun i y hy => ?_⟩
  obtain ⟨b, off, e, f0, f1, f2⟩ := h4 i y hy
  have hne : b ≠ g := fun hbg => by
    subst hbg
    rw [rcell_two hT] at f0
    match ho : off + i * 3 with
    | 0 => rw [ho] at f0; simp at f0
    | 1 => rw [ho] at f0; simp at f0
    | k + 2 => rw [ho] at f0; simp at f0
  exact ⟨b, off, e, by rw [World.cell?_setCell_far _ _ _ _ (by first | exact fun e => hne e | exact fun e => hne e.symm)]; exact f0, by rw [World.cell?_setCell_far _ _ _ _ (by first | exact fun e => hne e | exact fun e => hne e.symm)]; exact f1, by rw [World.cell?_setCell_far _ _ _ _ (by first | exact fun e => hne e | exact fun e => hne e.symm)]; exact f2⟩
theorem refStep_skip {xs : List Sy} {D : List (List Bool)} {x : Sy} {st : List DefD × Bool} (h : (x.2.2.bind == 0) = true) : refStep xs D x st = some st := by
  unfold refStep
  rw [h]; rfl
theorem refStep_dup {xs : List Sy} {D : List (List Bool)} {x : Sy} {st : List DefD × Bool} (h : (x.2.2.bind == 0) = false) (h1 : 1 < (hitsIn xs D x.2.2.name 1).length) : refStep xs D x st = none := by
  unfold refStep
  rw [h, decide_eq_true h1]; rfl
theorem refStep_one {xs : List Sy} {D : List (List Bool)} {x : Sy} {st : List DefD × Bool} (h : (x.2.2.bind == 0) = false) (h1 : ¬ 1 < (hitsIn xs D x.2.2.name 1).length) : refStep xs D x st = bif (findIn xs D x.2.2.name).isSome then some (putB st.1 (findD xs D x.2.2.name), st.2) else some (st.1, st.2 || x.2.2.bind == 1) := by
  unfold refStep findD
  rw [h, decide_eq_false h1]
  cases findIn xs D x.2.2.name <;> rfl
theorem defs_set2 {w : World} {g : Nat} {p q p1 q1 : Option Addr} {n m c d n1 m1 c1 d1 : Nat} {x : Value} {T : TypeId} {defs : List DefD} (hT : w.heap[g]? = some (.cells #[.slice p n c, .slice q m d] T (0, 0))) (h : IsL 3 EDef w x defs) : IsL 3 EDef ((w.setCell ⟨g, 0, none⟩ (.slice p1 n1 c1)).setCell ⟨g, 1, none⟩ (.slice q1 m1 d1)) x defs :=
  defs_set (p := p1) (q := q) (n := n1) (m := m) (c := c1) (d := d) (heap_setCell_same w g 0 _ _ (.slice p1 n1 c1) hT) (defs_set hT h)
theorem dropIs_of {w : World} {N base : Nat} {l : List ObjD} {vs : List Value} {v : Value} (h : w.ownsRow N 138 1 v l.length vs) (hr : RowsR w base vs l l.length) : IsL 1 EBools w v (dropsOf l) := by
  obtain ⟨pd, cd, e, hd⟩ := dropOK_of h hr
  obtain ⟨pd', cd', e', h1, h2, h3⟩ := slice_form h
  rw [e] at e'
  cases e'
  have hl := hd.len
  exact ⟨pd, cd, by rw [hl]; exact e, by rw [hl]; first | exact h1 | exact h2 | exact h3, by first | exact h1 | exact h2 | exact h3, by first | exact h1 | exact h2 | exact h3, hd.has⟩
end Go.Proofs.YthnkehdcolnegaaGreat
