/-
  A struct is stored into a block that is known whole: the library's law at a step of a region that draws its order. Nothing here speaks of the program.
  Contract of the project's readHeads.
-/
import Derived.Test.YtenmcmnhiejbgaaGreatJg02
import Derived.Deep.AppendLies
import Derived.Laws.Tables
import Derived.Test.YtenmcmnhiejbgaaGreatJg06
import Derived.Test.YtenmcmnhiejbgaaGreatJg07
import Derived.Test.YtenmcmnhiejbgaaGreatJg08
import Derived.Test.YtenmcmnhiejbgaaGreatJg09
import Derived.Deep.RegionHeld
namespace Go.Proofs.YtenmcmnhiejbgaaGreat
open Go.RowKit

/-- append of bytes to a row of the call's own, nil or not, at a step of a region that draws its order. -/
theorem step_append_bytes {P : Program} {w : World} {ops : Array Oper} {o : Oper} {a : Act} {K : Act → World → Prop} {Q : Exit → Act → World → Prop} {E : Prop} (hgd : o.guard = none) (s x : Operand) (t : TypeId)
    (ho : o.op = .call { callee := .builtin .append, args := #[s, x], argTypes := #[t, t] })
    (base : Nat) (e : TypeId) (i : TypeInfo) (ht : P.underlying t = some (.slice e)) (hi : P.info? e = some i) (hz : i.zero = some (.int .u8 0)) (hs : i.size = 1) (hb : i.bytes = 1)
    (v : Value) (n : Nat) (l : List UInt8) (hes : a.eval s = v) (hown : w.ownsRow base e 1 v n (l.map u8v)) (q : Option Addr) (m c : Nat) (r : List UInt8) (hex : a.eval x = .slice q m c) (hq : Has w q r) (hr : r.length = m) (hcq : q = none → c = 0)
    (hbig : n + m ≤ 1000000000) (hbase : base ≤ w.heap.size)
    (h : ∀ v' w', w'.ownsRow base e 1 v' (n + m) ((l ++ r).map u8v) → w.grownBy w' v.ownBlock → K (a.put o.dst v') w') :
    if Region.wanted o (yielded ops a.tmps) = true then Oper.wp P o a w K Q else E := by
  have hw : Region.wanted o (yielded ops a.tmps) = true := by simp [Region.wanted, hgd]
  rw [if_pos hw]
  obtain ⟨v', w', hrun, h1, h2⟩ : ∃ v' w', (Builtin.append_ #[t, t] o.type #[v, .slice q m c]).run P w = .ok v' w' ∧ w'.ownsRow base e 1 v' (n + m) ((l ++ r).map u8v) ∧ w.grownBy w' v.ownBlock := by
    rcases q with _ | ad
    · have hr0 : r = [] := by
        cases r with
        | nil => rfl
        | cons y r => obtain ⟨a, e, _⟩ := hq 0 y rfl; cases e
      subst hr0
      have hm : m = 0 := hr.symm
      subst hm
      rw [hcq rfl]
      exact ⟨v, w, run_append_owned_none (P := P) w base t o.type e i 1 ht hi v n _ hown, by simpa using hown, World.grownBy.refl w _⟩
    · obtain ⟨v', w', hrun, h1, h2, _, _⟩ := run_append_own_at (P := P) w base t o.type e i (.int .u8 0) 1 1 ht hi hz hs hb rfl (by decide) v n _ hown ad m c (r.map u8v) (by simp [hr]) hq.cells (map_oneCell _) (by unfold maxLen; omega) (by omega) hbase
      exact ⟨v', w', hrun, by rw [List.map_append]; exact h1, h2⟩
  unfold Oper.wp execOp
  simp only [ho, resolve, invoke, builtin, Sem.run_bind, Sem.run_pure, Result.andThen_ok, List.map_toArray, List.map_cons, List.map_nil, hes, hex, hrun]
  exact h v' w' h1 h2
end Go.Proofs.YtenmcmnhiejbgaaGreat

namespace Go.Proofs.YtenmcmnhiejbgaaGreat
open Go.RowKit

/-- The headers from number i on, behind those that there are; none, if one of them may not be by itself. -/
def hdGo (l : List UInt8) (a : Nat) : Nat → Nat → List Ten → Option (List Ten)
  | _, 0, acc => some acc
  | i, m + 1, acc => match sectAt l ((a : Int) + 64 * (i : Int)) with
    | none => none
    | some t => bif headMay l.length i t then hdGo l a (i + 1) m (acc ++ [t]) else none
/-- What a file's headers and names are. -/
def filB (l : List UInt8) : Option (List Ten × List ByteArray) :=
  if 16384 < l.length then none else
  match begunB l with
  | none => none
  | some (a, m, n) => match hdGo l a 0 m [] with
    | none => none
    | some L => bif isTy L n 3 then (match L[n]? with
      | none => none
      | some t => match nmGo (win l t.e.toNat t.f.toNat) [str []] (L.drop 1) with
        | none => none
        | some ns => some (L, ns)) else none
/-- What is so of headers that are read. -/
def HeadsOK (n : Nat) (L : List Ten) : Prop := ∀ i t, L[i]? = some t → t.may ∧ headMay n i t = true
theorem HeadsOK.snoc {n : Nat} {L : List Ten} {t : Ten} (h : HeadsOK n L) (hm : t.may) (hh : headMay n L.length t = true) : HeadsOK n (L ++ [t]) := fun i x hx => by
  rw [List.getElem?_append] at hx
  split at hx
  · exact h i x hx
  · rename_i hi
    have hi0 : i - L.length = 0 := by have := (List.getElem?_eq_some_iff.1 hx).1; simp at this; omega
    rw [hi0] at hx
    simp at hx
    subst hx
    have : i = L.length := by omega
    subst this
    exact ⟨hm, hh⟩
theorem sectAt_may {l : List UInt8} {a : Int} {t : Ten} (h : sectAt l a = some t) : t.may := by
  unfold sectAt at h
  split at h
  · rename_i hc
    cases h
    exact hc.2.2
  · cases h
theorem cells3 (w : World) (g : Nat) (v0 v1 v2 : Value) (T : TypeId) (h : w.heap[g]? = some (.cells #[v0, v1, v2] T (0, 0))) : w.cell? ⟨g, 0, none⟩ = some v0 ∧ w.cell? ⟨g, 1, none⟩ = some v1 ∧ w.cell? ⟨g, 2, none⟩ = some v2 := by
  refine ⟨?_, ?_, ?_⟩ <;> exact (cell_of_row w g _ _ _ (0, 0) h).trans rfl
abbrev zTen : Array Value := #[.int .i64 0, .int .i64 0, .int .i64 0, .int .i64 0, .int .i64 0, .int .i64 0, .int .i64 0, .int .i64 0, .int .i64 0, .int .i64 0]
theorem zten_kept {w w3 : World} {T : TypeId} (hb : Below (w.alloc (.cells zTen T)).drew.heap.size (w.alloc (.cells zTen T)).drew w3) : w3.heap[w.heap.size]? = some (.cells zTen T (0, 0)) ∧ Below w.heap.size w w3 := by
  have h1 : (w.alloc (.cells zTen T)).heap[w.heap.size]? = some (.cells zTen T (0, 0)) := heap_alloc_new w _
  have h2 : Below w.heap.size w (w.alloc (.cells zTen T)).drew := ((Below.refl _ w).alloc (Nat.le_refl _) _).drew
  exact ⟨by rw [hb.block w.heap.size (by simp)]; exact h1, h2.trans (hb.mono h2.size)⟩
theorem ten_zero {w : World} {g : Nat} {T : TypeId} (h : w.heap[g]? = some (.cells zTen T (0, 0))) :
    (w.cell? ⟨g, 0, none⟩ = some (.int .i64 0) ∧ w.cell? ⟨g, 1, none⟩ = some (.int .i64 0) ∧ w.cell? ⟨g, 2, none⟩ = some (.int .i64 0) ∧ w.cell? ⟨g, 3, none⟩ = some (.int .i64 0) ∧ w.cell? ⟨g, 4, none⟩ = some (.int .i64 0) ∧
     w.cell? ⟨g, 5, none⟩ = some (.int .i64 0) ∧ w.cell? ⟨g, 6, none⟩ = some (.int .i64 0) ∧ w.cell? ⟨g, 7, none⟩ = some (.int .i64 0) ∧ w.cell? ⟨g, 8, none⟩ = some (.int .i64 0) ∧ w.cell? ⟨g, 9, none⟩ = some (.int .i64 0)) := cells_ten _ _ _ _ _ _ _ _ _ _ _ _ _ h
theorem ten_free {w : World} {g : Nat} {T : TypeId} (h : w.heap[g]? = some (.cells zTen T (0, 0))) :
    (w.frozen? ⟨g, 0, none⟩ = false ∧ w.frozen? ⟨g, 1, none⟩ = false ∧ w.frozen? ⟨g, 2, none⟩ = false ∧ w.frozen? ⟨g, 3, none⟩ = false ∧ w.frozen? ⟨g, 4, none⟩ = false ∧
     w.frozen? ⟨g, 5, none⟩ = false ∧ w.frozen? ⟨g, 6, none⟩ = false ∧ w.frozen? ⟨g, 7, none⟩ = false ∧ w.frozen? ⟨g, 8, none⟩ = false ∧ w.frozen? ⟨g, 9, none⟩ = false) := by
  refine ⟨?_, ?_, ?_, ?_, ?_, ?_, ?_, ?_, ?_, ?_⟩ <;> exact frozen_of_row w g _ _ _ h
theorem ten_put {w w0 : World} {g : Nat} {T : TypeId} (t : Ten) (h : w.heap[g]? = some (.cells zTen T (0, 0))) (hb : Below w0.heap.size w0 w) (hg : w0.heap.size ≤ g) :
    ((((((((((w.setCell ⟨g, 0, none⟩ (.int .i64 t.a)).setCell ⟨g, 1, none⟩ (.int .i64 t.b)).setCell ⟨g, 2, none⟩ (.int .i64 t.c)).setCell ⟨g, 3, none⟩ (.int .i64 t.d)).setCell ⟨g, 4, none⟩ (.int .i64 t.e)).setCell ⟨g, 5, none⟩ (.int .i64 t.f)).setCell ⟨g, 6, none⟩ (.int .i64 t.g)).setCell ⟨g, 7, none⟩ (.int .i64 t.h)).setCell ⟨g, 8, none⟩ (.int .i64 t.i)).setCell ⟨g, 9, none⟩ (.int .i64 t.j)).heap[g]? =
      some (.cells #[.int .i64 t.a, .int .i64 t.b, .int .i64 t.c, .int .i64 t.d, .int .i64 t.e, .int .i64 t.f, .int .i64 t.g, .int .i64 t.h, .int .i64 t.i, .int .i64 t.j] T (0, 0)) ∧
    Below w0.heap.size w0 ((((((((((w.setCell ⟨g, 0, none⟩ (.int .i64 t.a)).setCell ⟨g, 1, none⟩ (.int .i64 t.b)).setCell ⟨g, 2, none⟩ (.int .i64 t.c)).setCell ⟨g, 3, none⟩ (.int .i64 t.d)).setCell ⟨g, 4, none⟩ (.int .i64 t.e)).setCell ⟨g, 5, none⟩ (.int .i64 t.f)).setCell ⟨g, 6, none⟩ (.int .i64 t.g)).setCell ⟨g, 7, none⟩ (.int .i64 t.h)).setCell ⟨g, 8, none⟩ (.int .i64 t.i)).setCell ⟨g, 9, none⟩ (.int .i64 t.j)) := by
  have h1 : (w.setCell ⟨g, 0, none⟩ (.int .i64 t.a)).heap[g]? = some (.cells #[.int .i64 t.a, .int .i64 0, .int .i64 0, .int .i64 0, .int .i64 0, .int .i64 0, .int .i64 0, .int .i64 0, .int .i64 0, .int .i64 0] T (0, 0)) := heap_setCell_same _ g 0 _ _ _ h
  have h2 : ((w.setCell ⟨g, 0, none⟩ (.int .i64 t.a)).setCell ⟨g, 1, none⟩ (.int .i64 t.b)).heap[g]? = some (.cells #[.int .i64 t.a, .int .i64 t.b, .int .i64 0, .int .i64 0, .int .i64 0, .int .i64 0, .int .i64 0, .int .i64 0, .int .i64 0, .int .i64 0] T (0, 0)) := heap_setCell_same _ g 1 _ _ _ h1
  have h3 : (((w.setCell ⟨g, 0, none⟩ (.int .i64 t.a)).setCell ⟨g, 1, none⟩ (.int .i64 t.b)).setCell ⟨g, 2, none⟩ (.int .i64 t.c)).heap[g]? = some (.cells #[.int .i64 t.a, .int .i64 t.b, .int .i64 t.c, .int .i64 0, .int .i64 0, .int .i64 0, .int .i64 0, .int .i64 0, .int .i64 0, .int .i64 0] T (0, 0)) := heap_setCell_same _ g 2 _ _ _ h2
  have h4 : ((((w.setCell ⟨g, 0, none⟩ (.int .i64 t.a)).setCell ⟨g, 1, none⟩ (.int .i64 t.b)).setCell ⟨g, 2, none⟩ (.int .i64 t.c)).setCell ⟨g, 3, none⟩ (.int .i64 t.d)).heap[g]? = some (.cells #[.int .i64 t.a, .int .i64 t.b, .int .i64 t.c, .int .i64 t.d, .int .i64 0, .int .i64 0, .int .i64 0, .int .i64 0, .int .i64 0, .int .i64 0] T (0, 0)) := heap_setCell_same _ g 3 _ _ _ h3
  have h5 : (((((w.setCell ⟨g, 0, none⟩ (.int .i64 t.a)).setCell ⟨g, 1, none⟩ (.int .i64 t.b)).setCell ⟨g, 2, none⟩ (.int .i64 t.c)).setCell ⟨g, 3, none⟩ (.int .i64 t.d)).setCell ⟨g, 4, none⟩ (.int .i64 t.e)).heap[g]? = some (.cells #[.int .i64 t.a, .int .i64 t.b, .int .i64 t.c, .int .i64 t.d, .int .i64 t.e, .int .i64 0, .int .i64 0, .int .i64 0, .int .i64 0, .int .i64 0] T (0, 0)) := heap_setCell_same _ g 4 _ _ _ h4
  have h6 : ((((((w.setCell ⟨g, 0, none⟩ (.int .i64 t.a)).setCell ⟨g, 1, none⟩ (.int .i64 t.b)).setCell ⟨g, 2, none⟩ (.int .i64 t.c)).setCell ⟨g, 3, none⟩ (.int .i64 t.d)).setCell ⟨g, 4, none⟩ (.int .i64 t.e)).setCell ⟨g, 5, none⟩ (.int .i64 t.f)).heap[g]? = some (.cells #[.int .i64 t.a, .int .i64 t.b, .int .i64 t.c, .int .i64 t.d, .int .i64 t.e, .int .i64 t.f, .int .i64 0, .int .i64 0, .int .i64 0, .int .i64 0] T (0, 0)) := heap_setCell_same _ g 5 _ _ _ h5
  have h7 : (((((((w.setCell ⟨g, 0, none⟩ (.int .i64 t.a)).setCell ⟨g, 1, none⟩ (.int .i64 t.b)).setCell ⟨g, 2, none⟩ (.int .i64 t.c)).setCell ⟨g, 3, none⟩ (.int .i64 t.d)).setCell ⟨g, 4, none⟩ (.int .i64 t.e)).setCell ⟨g, 5, none⟩ (.int .i64 t.f)).setCell ⟨g, 6, none⟩ (.int .i64 t.g)).heap[g]? = some (.cells #[.int .i64 t.a, .int .i64 t.b, .int .i64 t.c, .int .i64 t.d, .int .i64 t.e, .int .i64 t.f, .int .i64 t.g, .int .i64 0, .int .i64 0, .int .i64 0] T (0, 0)) := heap_setCell_same _ g 6 _ _ _ h6
  have h8 : ((((((((w.setCell ⟨g, 0, none⟩ (.int .i64 t.a)).setCell ⟨g, 1, none⟩ (.int .i64 t.b)).setCell ⟨g, 2, none⟩ (.int .i64 t.c)).setCell ⟨g, 3, none⟩ (.int .i64 t.d)).setCell ⟨g, 4, none⟩ (.int .i64 t.e)).setCell ⟨g, 5, none⟩ (.int .i64 t.f)).setCell ⟨g, 6, none⟩ (.int .i64 t.g)).setCell ⟨g, 7, none⟩ (.int .i64 t.h)).heap[g]? = some (.cells #[.int .i64 t.a, .int .i64 t.b, .int .i64 t.c, .int .i64 t.d, .int .i64 t.e, .int .i64 t.f, .int .i64 t.g, .int .i64 t.h, .int .i64 0, .int .i64 0] T (0, 0)) := heap_setCell_same _ g 7 _ _ _ h7
  have h9 : (((((((((w.setCell ⟨g, 0, none⟩ (.int .i64 t.a)).setCell ⟨g, 1, none⟩ (.int .i64 t.b)).setCell ⟨g, 2, none⟩ (.int .i64 t.c)).setCell ⟨g, 3, none⟩ (.int .i64 t.d)).setCell ⟨g, 4, none⟩ (.int .i64 t.e)).setCell ⟨g, 5, none⟩ (.int .i64 t.f)).setCell ⟨g, 6, none⟩ (.int .i64 t.g)).setCell ⟨g, 7, none⟩ (.int .i64 t.h)).setCell ⟨g, 8, none⟩ (.int .i64 t.i)).heap[g]? = some (.cells #[.int .i64 t.a, .int .i64 t.b, .int .i64 t.c, .int .i64 t.d, .int .i64 t.e, .int .i64 t.f, .int .i64 t.g, .int .i64 t.h, .int .i64 t.i, .int .i64 0] T (0, 0)) := heap_setCell_same _ g 8 _ _ _ h8
  have h10 : ((((((((((w.setCell ⟨g, 0, none⟩ (.int .i64 t.a)).setCell ⟨g, 1, none⟩ (.int .i64 t.b)).setCell ⟨g, 2, none⟩ (.int .i64 t.c)).setCell ⟨g, 3, none⟩ (.int .i64 t.d)).setCell ⟨g, 4, none⟩ (.int .i64 t.e)).setCell ⟨g, 5, none⟩ (.int .i64 t.f)).setCell ⟨g, 6, none⟩ (.int .i64 t.g)).setCell ⟨g, 7, none⟩ (.int .i64 t.h)).setCell ⟨g, 8, none⟩ (.int .i64 t.i)).setCell ⟨g, 9, none⟩ (.int .i64 t.j)).heap[g]? = some (.cells #[.int .i64 t.a, .int .i64 t.b, .int .i64 t.c, .int .i64 t.d, .int .i64 t.e, .int .i64 t.f, .int .i64 t.g, .int .i64 t.h, .int .i64 t.i, .int .i64 t.j] T (0, 0)) := heap_setCell_same _ g 9 _ _ _ h9
  exact ⟨h10, (((((((((hb.setCell hg _).setCell hg _).setCell hg _).setCell hg _).setCell hg _).setCell hg _).setCell hg _).setCell hg _).setCell hg _).setCell hg _⟩
theorem map_int_one (l : List Int) : ∀ u ∈ l.map (Value.int .i64), u.oneCell' = true := fun u hu => by
  obtain ⟨x, _, rfl⟩ := List.mem_map.1 hu
  rfl
theorem names_S {w : World} {G F a m n al c off b B : Nat} {vb vn vs : Value} {sy : Int} {TE TF TH : TypeId} {L : List Ten} {t : Ten} (hG : w.heap[G]? = some (.cells #[.int .i64 (a : Int), .int .i64 (m : Int), .int .i64 (n : Int)] TE (0, 0)))
    (hF : w.heap[F]? = some (.cells #[vb, .slice (some ⟨b, off, none⟩) al c, vn, vs, .int .i64 sy] TF (0, 0))) (ho : w.ownsRow B TH 10 (.slice (some ⟨b, off, none⟩) al c) al (tensV L)) (hl : L.length = al) (ht : L[n]? = some t) :
    w.cell? ⟨G, 2, none⟩ = some (.int .i64 (n : Int)) ∧ w.cell? ⟨F, 1, none⟩ = some (.slice (some ⟨b, off, none⟩) al c) ∧ w.cell? ⟨b, off + n * 10, none⟩ = some (.int .i64 t.a) ∧ w.cell? ⟨b, off + n * 10 + 1, none⟩ = some (.int .i64 t.b) ∧ w.cell? ⟨b, off + n * 10 + 2, none⟩ = some (.int .i64 t.c) ∧ w.cell? ⟨b, off + n * 10 + 3, none⟩ = some (.int .i64 t.d) ∧ w.cell? ⟨b, off + n * 10 + 4, none⟩ = some (.int .i64 t.e) ∧ w.cell? ⟨b, off + n * 10 + 5, none⟩ = some (.int .i64 t.f) ∧ w.cell? ⟨b, off + n * 10 + 6, none⟩ = some (.int .i64 t.g) ∧ w.cell? ⟨b, off + n * 10 + 7, none⟩ = some (.int .i64 t.h) ∧ w.cell? ⟨b, off + n * 10 + 8, none⟩ = some (.int .i64 t.i) ∧ w.cell? ⟨b, off + n * 10 + 9, none⟩ = some (.int .i64 t.j) := by
  subst hl
  obtain ⟨p, c', e, _, _, _, hh⟩ := tens_has ho
  cases e
  obtain ⟨b', o', e, d0, d1, d2, d3, d4, d5, d6, d7, d8, d9⟩ := hh n t ht
  cases e
  exact ⟨(cells3 _ _ _ _ _ _ hG).2.2, (cells5 _ _ _ _ _ _ _ _ hF).1.2.1, d0, d1, d2, d3, d4, d5, d6, d7, d8, d9⟩
theorem nmGo_len {tb : List UInt8} {L : List Ten} : ∀ {acc ns : List ByteArray}, nmGo tb acc L = some ns → ns.length = acc.length + L.length := by
  induction L with
  | nil => intro acc ns h; cases h; simp
  | cons t r ih =>
    intro acc ns h
    unfold nmGo at h
    cases hs : strAt tb t.a with
    | none => rw [hs] at h; cases h
    | some n =>
      rw [hs] at h
      have := ih h
      simp at this ⊢
      omega
/-- What readHeads gives. -/
def GivesHeads (F N : Nat) (vb vs : Value) (sy : Int) (l : List UInt8) (w : World) (e : Ending) (w' : World) : Prop :=
  e = .returned (.bool (filB l).isSome) ∧ FrT N [100] w w' ∧ ∀ L ns, filB l = some (L, ns) → ∃ vh vn, w'.heap[F]? = some (.cells #[vb, vh, vn, vs, .int .i64 sy] 100 (0, 0)) ∧
    w'.ownsRow w.heap.size 104 10 vh L.length (tensV L) ∧ w'.ownsRow w.heap.size 9 1 vn ns.length (ns.map Value.string) ∧ HeadsOK l.length L ∧ ns.length = L.length ∧ 1 ≤ L.length ∧ L.length ≤ 65535

theorem Tryz.infoHead : (Tryz.prog.info? 104).map (fun i => (i.zero, i.size, i.bytes)) = some (some (.agg #[.int .i64 0, .int .i64 0, .int .i64 0, .int .i64 0, .int .i64 0, .int .i64 0, .int .i64 0, .int .i64 0, .int .i64 0, .int .i64 0]), 10, 80) := by kernel_rfl
set_option maxRecDepth 100000 in
set_option maxHeartbeats 4000000 in
theorem readHeads_any (N F : Nat) (w0 : World) (bp : Option Addr) (bc : Nat) (l : List UInt8) (vs : Value) (sy : Int) (w : World) (hN : w0.heap.size = N) (hw : Below N w0 w) (hNF : N ≤ F)
    (hF : w.heap[F]? = some (.cells #[.slice bp l.length bc, .slice none 0 0, .slice none 0 0, vs, .int .i64 sy] 100 (0, 0))) (ht : Has w0 bp l) (h1 : l.length ≤ bc) (h2 : bc ≤ maxLen) (hbig : l.length ≤ 100000) :
    Calls Tryz.prog 45 #[filP F] w (GivesHeads F N (.slice bp l.length bc) vs sy l w) := by
  obtain ⟨i0, hi, hz0, hz1, hz2⟩ := info_parts Tryz.infoHead
  have HI := Lib.hid hi
  have H0 := Lib.hid hz0
  have H1 := Lib.hid hz1
  have H2 := Lib.hid hz2
  have hFs := (Array.getElem?_eq_some_iff.1 hF).1
  have HH := Lib.hid fun (W : World) (hW : Below N w0 W) => hGet_any bp l.length bc l W (ht.below (by rw [hN]; exact hW)) rfl h1 h2
  have HT := Lib.hid fun (W : World) (hW : Below N w0 W) (a : Int) (a0 : 0 ≤ a) (a1 : a ≤ 100000000000) => tget_ok bp l.length bc l a W (ht.below (by rw [hN]; exact hW)) rfl h1 h2 hbig (by omega) (by omega)
  have HW := Lib.hid hw
  have HF := Lib.hid hF
  have hfil : filB l = if 16384 < l.length then none else
    match begunB l with
    | none => none
    | some (a, m, n) => match hdGo l a 0 m [] with
      | none => none
      | some L => bif isTy L n 3 then (match L[n]? with
        | none => none
        | some t => match nmGo (win l t.e.toNat t.f.toNat) [str []] (L.drop 1) with
          | none => none
          | some ns => some (L, ns)) else none := rfl
  have HFIL := Lib.hid hfil
  have HG : Hid (GivesHeads F N (.slice bp l.length bc) vs sy l w = fun e w' => e = .returned (.bool (filB l).isSome) ∧ FrT N [100] w w' ∧ ∀ L ns, filB l = some (L, ns) → ∃ vh vn, w'.heap[F]? = some (.cells #[.slice bp l.length bc, vh, vn, vs, .int .i64 sy] 100 (0, 0)) ∧
    w'.ownsRow w.heap.size 104 10 vh L.length (tensV L) ∧ w'.ownsRow w.heap.size 9 1 vn ns.length (ns.map Value.string) ∧ HeadsOK l.length L ∧ ns.length = L.length ∧ 1 ≤ L.length ∧ L.length ≤ 65535) := Lib.hid rfl
  rw [HG.out]
  clear HG
  generalize filB l = res at *
  have HHAS := Lib.hid ht
  clear hi hz0 hz1 hz2 ht hw hfil
  go_enter Tryz.func45, Tryz.ntmps45
  obtain ⟨⟨c0, c1, c2, c3, c4⟩, f0, f1, f2, f3, f4⟩ := cells5 _ _ _ _ _ _ _ _ HF.out
  by_cases hbl : 16384 < l.length
  · have hE : Hid (res = none) := Lib.hid (by rw [HFIL.out, if_pos hbl])
    have hI : (16384 : Int) < (l.length : Int) := by omega
    clear HFIL
    go_wp2_with fail
    go_ret
    refine ⟨by rw [hE.out]; rfl, FrT.refl _ _ _, fun L ns h => ?_⟩
    rw [hE.out] at h
    cases h
  · have hI : ¬ (16384 : Int) < (l.length : Int) := by omega
    have hE := HFIL.out
    rw [if_neg hbl] at hE
    have hG := HH.out w HW.out
    unfold hgot at hG
    cases hbg : begunB l with
    | none =>
      rw [hbg] at hG hE
      have HGX := Lib.hid hG
      have hE2 : Hid (res = none) := Lib.hid hE
      clear hG hE HFIL hbg
      go_wp2_with fail
      refine HGX.out.mono ?_
      rintro e w1 ⟨rfl, hb1⟩
      go_wp2_with fail
      go_ret
      refine ⟨by rw [hE2.out]; rfl, (FrT.of_below hb1).trans (FrT.of_below ((Below.refl _ _).alloc (Nat.le_refl _) _)), fun L ns h => ?_⟩
      rw [hE2.out] at h
      cases h
    | some x =>
      obtain ⟨a, m, n⟩ := x
      rw [hbg] at hG hE
      simp only at hG hE
      have HGX := Lib.hid hG
      have HE := Lib.hid hE
      have HBG := Lib.hid hbg
      clear hG hE HFIL hbg
      go_wp2_with fail
      refine HGX.out.mono ?_
      rintro e w1 ⟨rfl, hb1⟩
      go_upto_region 6 with fail
      obtain ⟨⟨ha0, ha1, hm1, hm2, hn1, hn2⟩, _⟩ := (begunB_iff l a m n).1 HBG.out
      have hba : Below w1.heap.size w1 (w1.alloc (.cells #[.int .i64 (a : Int), .int .i64 (m : Int), .int .i64 (n : Int)] 132)) := (Below.refl _ w1).alloc (Nat.le_refl _) _
      have hG2 := heap_new w1 (.cells #[.int .i64 (a : Int), .int .i64 (m : Int), .int .i64 (n : Int)] 132)
      have hF2 := FrT.heap (N := N) (Ts := []) ((FrT.of_below hb1).trans (FrT.of_below hba)) HF.out (by simp)
      have hfr2 : FrT N [100] w _ := (FrT.of_below hb1).trans (FrT.of_below hba)
      have hbN2 : Below N w0 _ := HW.out.trans (hfr2.below (by have := HW.out.size; omega))
      generalize w1.alloc (.cells #[.int .i64 (a : Int), .int .i64 (m : Int), .int .i64 (n : Int)] 132) = W2 at *
      generalize w1.heap.size = G at *
      have hs2 := hfr2.size
      have HG2 := Lib.hid hG2
      have HF2 := Lib.hid hF2
      have HFR2 := Lib.hid hfr2
      have HBN2 := Lib.hid hbN2
      clear c0 c1 c2 c3 c4 f0 f1 f2 f3 f4 hb1 hba HGX hF2 hfr2 hbN2
      obtain ⟨g0, g1, g2⟩ := cells3 _ _ _ _ _ _ hG2
      clear hG2
      go_wp2_with fail
      go_loopw [26] (fun r26 wr => ∃ (k : Nat) (acc : List Ten) (v : Value), k ≤ m ∧ r26 = .int .i64 (k : Int) ∧ hdGo l a 0 m [] = hdGo l a k (m - k) acc ∧ HeadsOK l.length acc ∧ acc.length = k ∧ wr.heap[F]? = some (.cells #[.slice bp l.length bc, v, .slice none 0 0, vs, .int .i64 sy] 100 (0, 0)) ∧ wr.ownsRow W2.heap.size 104 10 v acc.length (tensV acc) ∧ FrT N [100] W2 wr) (fun r26 _ => m - (intOf r26).toNat)
      case atStart => exact ⟨0, [], _, Nat.zero_le _, rfl, rfl, (fun i t h => by simp at h), rfl, HF2.out, World.ownsRow_nil _ _ _ _, FrT.refl _ _ _⟩
      case round =>
        obtain ⟨k, acc, v, hk, rfl, hgo, hok, hal, hFr, hown, hfr⟩ := hrel
        have HGO := Lib.hid hgo
        have HOK := Lib.hid hok
        have HFR := Lib.hid hfr
        have HOWN := Lib.hid hown
        have HFr := Lib.hid hFr
        have hbN : Below N w0 wr := HBN2.out.trans (hfr.below (by have := HBN2.out.size; omega))
        have hGr := hfr.heap HG2.out (by decide)
        have hsr := hfr.size
        clear hgo hok hfr g0 g1 g2 hown
        by_cases hlt : k < m
        · obtain ⟨g0, g1, g2⟩ := cells3 _ _ _ _ _ _ hGr
          obtain ⟨⟨c0, c1, c2, c3, c4⟩, f0, f1, f2, f3, f4⟩ := cells5 _ _ _ _ _ _ _ _ hFr
          have HT2 := Lib.hid fun (W : World) (hW : Below wr.heap.size wr W) => HT.out W (hbN.trans (hW.mono (by have := hbN.size; omega))) ((a : Int) + 64 * (k : Int)) (by omega) (by omega)
          have hgs : hdGo l a k (m - k) acc = match sectAt l ((a : Int) + 64 * (k : Int)) with
            | none => none
            | some t => bif headMay l.length k t then hdGo l a (k + 1) (m - (k + 1)) (acc ++ [t]) else none := by
            rw [show m - k = (m - (k + 1)) + 1 by omega]
            rfl
          have HGS := Lib.hid hgs
          have hJ : (k : Int) < (m : Int) := by omega
          have k1 : IntKind.i64.wrap (64 * (k : Int)) = 64 * (k : Int) := IntWalk.i64_in _ (by omega)
          have k2 : IntKind.i64.wrap ((a : Int) + 64 * (k : Int)) = (a : Int) + 64 * (k : Int) := IntWalk.i64_in _ (by omega)
          have k3 : (0 : Int) ≤ (k : Int) := by omega
          have hmayt : ∀ t, sectAt l ((a : Int) + 64 * (k : Int)) = some t → t.may := fun t h => sectAt_may h
          clear hgs hFr
          obtain ⟨t, ok, hsv, hok1, hok0⟩ : ∃ (t : Ten) (ok : Bool), sectV (sectAt l ((a : Int) + 64 * (k : Int))) = (t.v, ok) ∧ (ok = true → sectAt l ((a : Int) + 64 * (k : Int)) = some t) ∧ (ok = false → sectAt l ((a : Int) + 64 * (k : Int)) = none) := by
            cases hsa : sectAt l ((a : Int) + 64 * (k : Int)) with
            | none => exact ⟨ten0, false, rfl, (fun h => by cases h), fun _ => rfl⟩
            | some t => exact ⟨t, true, rfl, (fun _ => rfl), fun h => by cases h⟩
          rw [hsv] at HT2
          have HT3 : Hid (∀ (W : World), Below wr.heap.size wr W → Calls Tryz.prog 83 #[.slice bp l.length bc, .int .i64 ((a : Int) + 64 * (k : Int))] W fun e w' => e = .returned (.tuple #[.agg #[.int .i64 t.a, .int .i64 t.b, .int .i64 t.c, .int .i64 t.d, .int .i64 t.e, .int .i64 t.f, .int .i64 t.g, .int .i64 t.h, .int .i64 t.i, .int .i64 t.j], .bool ok]) ∧ Below W.heap.size W w') := HT2
          have HOK1 := Lib.hid hok1
          have HOK0 := Lib.hid hok0
          have HMT := Lib.hid hmayt
          clear hsv HT2 hok1 hok0 hmayt
          go_upto_region 9 with fail
          go_cut [6, 7] (fun s6 s7 wx => ∃ g, s6 = .pointer (some ⟨g, 0, none⟩) ∧ s7 = .bool ok ∧ wx.heap[g]? = some (.cells #[.int .i64 t.a, .int .i64 t.b, .int .i64 t.c, .int .i64 t.d, .int .i64 t.e, .int .i64 t.f, .int .i64 t.g, .int .i64 t.h, .int .i64 t.i, .int .i64 t.j] 104 (0, 0)) ∧ wr.heap.size ≤ g ∧ Below wr.heap.size wr wx)
          case first =>
            have g0z := cell_later (((Below.refl _ wr).alloc (Nat.le_refl _) (.cells zTen 104)).drew) g0
            have c0z := cell_later (((Below.refl _ wr).alloc (Nat.le_refl _) (.cells zTen 104)).drew) c0
            have c0d := cell_later ((Below.refl _ wr).drew) c0
            have g0d := cell_later ((Below.refl _ wr).drew) g0
            clear c1 c2 c3 c4 f0 f1 f2 f3 f4 g1 g2 hGr
            go_region_held3 (fun W => W.cell? ⟨F, 0, none⟩ = some (.slice bp l.length bc) ∧ W.cell? ⟨G, 0, none⟩ = some (.int .i64 (a : Int))) (first | with_reducible exact ⟨c0, g0⟩ | with_reducible exact ⟨c0d, g0d⟩ | with_reducible exact ⟨c0z, g0z⟩ | with_reducible exact ⟨c0w, g0w⟩ | with_reducible exact ⟨c0s, g0s⟩ | with_reducible exact ⟨c0t, g0t⟩ | with_reducible exact ⟨c0u, g0u⟩ | fail)
              ((first
                | (go_at_call 83
                   refine (HT3.out _ (by first | exact Below.refl _ _ | exact (Below.refl _ wr).drew | exact ((Below.refl _ wr).alloc (Nat.le_refl _) _).drew | fail)).mono ?_
                   rintro e w3 ⟨rfl, hb3⟩
                   first
                    | (have hb4 : Below wr.heap.size wr w3 := below_drew (w := wr) hb3 rfl
                       have c0w := cell_later hb4 c0
                       have g0w := cell_later hb4 g0
                       have c0s := cell_later ((Below.refl _ w3).alloc (Nat.le_refl _) (.cells zTen 104)) c0w
                       have g0s := cell_later ((Below.refl _ w3).alloc (Nat.le_refl _) (.cells zTen 104)) g0w
                       have c0u := cell_later ((Below.refl _ w3).alloc (Nat.le_refl _) (.cells #[.int .i64 t.a, .int .i64 t.b, .int .i64 t.c, .int .i64 t.d, .int .i64 t.e, .int .i64 t.f, .int .i64 t.g, .int .i64 t.h, .int .i64 t.i, .int .i64 t.j] 104)) c0w
                       have g0u := cell_later ((Below.refl _ w3).alloc (Nat.le_refl _) (.cells #[.int .i64 t.a, .int .i64 t.b, .int .i64 t.c, .int .i64 t.d, .int .i64 t.e, .int .i64 t.f, .int .i64 t.g, .int .i64 t.h, .int .i64 t.i, .int .i64 t.j] 104)) g0w
                       have hz := heap_new w3 (.cells zTen 104)
                       have hb5 : Below wr.heap.size wr (w3.alloc (.cells zTen 104)) := hb4.alloc hb4.size _
                       have hgg := hb4.size)
                    | (obtain ⟨hz, hb5⟩ := zten_kept (w := wr) hb3
                       obtain ⟨y0, y1, y2, y3, y4, y5, y6, y7, y8, y9⟩ := ten_zero hz
                       obtain ⟨z0, z1, z2, z3, z4, z5, z6, z7, z8, z9⟩ := ten_free hz
                       have hx := ten_put t hz hb5 (Nat.le_refl _)
                       have HX := Lib.hid hx
                       have c0w := cell_later hb5 c0
                       have g0w := cell_later hb5 g0
                       have c0s := cell_later hx.2 c0
                       have g0s := cell_later hx.2 g0
                       clear hx hz hb3 c0z g0z c0d g0d)
                    | fail)
                | fail))
            all_goals go_wp2_with fail
            all_goals go_meet
            all_goals first
              | exact ⟨_, rfl, rfl, HX.out.1, Nat.le_refl _, HX.out.2⟩
              | exact ⟨_, rfl, rfl, heap_alloc_new _ _, hb4.size, hb4.alloc hb4.size _⟩
              | fail
          case rest =>
            obtain ⟨g, rfl, rfl, hgh, hgs, hbx⟩ := hcut
            cases ok with
            | false =>
              have hE2 : Hid (res = none) := Lib.hid (by
                rw [HE.out, HGO.out, HGS.out, HOK0.out rfl])
              go_wp2_with fail
              go_ret
              refine ⟨by rw [hE2.out]; rfl, (HFR2.out.trans HFR.out).trans (FrT.of_below hbx), fun L ns h => ?_⟩
              rw [hE2.out] at h
              cases h
            | true =>
              have hsa := HOK1.out rfl
              have hmt := HMT.out t hsa
              have hgs0 := HGS.out
              rw [hsa] at hgs0
              have HGS := Lib.hid hgs0
              clear hsa hgs0
              have hFx := FrT.heap (N := N) (Ts := []) (FrT.of_below hbx) HFr.out (by simp)
              have hownx := owns_belowN HOWN.out hbx
              have hfrx := HFR.out.trans (FrT.of_below hbx)
              have hsx := hbx.size
              obtain ⟨x0, x1, x2, x3, x4, x5, x6, x7, x8, x9⟩ := cells_ten _ _ _ _ _ _ _ _ _ _ _ _ _ hgh
              obtain ⟨⟨c0', c1', c2', c3', c4'⟩, f0', f1', f2', f3', f4'⟩ := cells5 _ _ _ _ _ _ _ _ hFx
              have HMH := Lib.hid (mayHead_any F k t bp l.length bc _ c0' hmt)
              have HFX := Lib.hid hFx
              have HOX := Lib.hid hownx
              have HRX := Lib.hid hfrx
              have HGH := Lib.hid hgh
              obtain ⟨q, hq⟩ : ∃ q, q = headMay l.length k t := ⟨_, rfl⟩
              have hgs2 : hdGo l a k (m - k) acc = bif headMay l.length k t then hdGo l a (k + 1) (m - (k + 1)) (acc ++ [t]) else none := HGS.out
              rw [← hq] at HMH hgs2
              have HGS2 := Lib.hid hgs2
              have HQ := Lib.hid hq
              clear hFx hownx hfrx hgh c0 c1 c2 c3 c4 f0 f1 f2 f3 f4 g0 g1 g2 hbx hq hgs2 HGS
              go_wp2_with fail
              refine HMH.out.mono ?_
              rintro e w4 ⟨rfl, hb4⟩
              clear HMH c0' c1' c2' c3' c4' f0' f1' f2' f3' f4' x0 x1 x2 x3 x4 x5 x6 x7 x8 x9
              cases q with
              | false =>
                have hE2 : Hid (res = none) := Lib.hid (by rw [HE.out, HGO.out, HGS2.out]; rfl)
                go_wp2_with fail
                go_ret
                refine ⟨by rw [hE2.out]; rfl, (HFR2.out.trans HRX.out).trans (FrT.of_below hb4), fun L ns h => ?_⟩
                rw [hE2.out] at h
                cases h
              | true =>
                have hF4 := FrT.heap (N := N) (Ts := []) (FrT.of_below hb4) HFX.out (by simp)
                have hown4 := owns_belowN HOX.out hb4
                have hfr4 := HRX.out.trans (FrT.of_below (N := N) (Ts := [100]) hb4)
                have hgh4 := FrT.heap (N := N) (Ts := []) (FrT.of_below hb4) HGH.out (by simp)
                obtain ⟨x0, x1, x2, x3, x4, x5, x6, x7, x8, x9⟩ := cells_ten _ _ _ _ _ _ _ _ _ _ _ _ _ hgh4
                obtain ⟨⟨c0, c1, c2, c3, c4⟩, f0, f1, f2, f3, f4⟩ := cells5 _ _ _ _ _ _ _ _ hF4
                have hsk := Lib.hid (show hdGo l a 0 m [] = hdGo l a (k + 1) (m - (k + 1)) (acc ++ [t]) by rw [HGO.out, HGS2.out]; rfl)
                go_upto_region 12 with fail
                rw [hal] at hown4
                have hNW : N ≤ W2.heap.size := by have := HBN2.out.size; omega
                have hf4 : FrT N [100] W2 ((w4.alloc (.cells #[.int .i64 t.a, .int .i64 t.b, .int .i64 t.c, .int .i64 t.d, .int .i64 t.e, .int .i64 t.f, .int .i64 t.g, .int .i64 t.h, .int .i64 t.i, .int .i64 t.j] 104)).drew) := hfr4.trans (FrT.of_below ((Below.refl _ w4).alloc (Nat.le_refl _) _).drew)
                have hF5 := FrT.heap (N := N) (Ts := []) (FrT.of_below (((Below.refl _ w4).alloc (Nat.le_refl _) (.cells #[.int .i64 t.a, .int .i64 t.b, .int .i64 t.c, .int .i64 t.d, .int .i64 t.e, .int .i64 t.f, .int .i64 t.g, .int .i64 t.h, .int .i64 t.i, .int .i64 t.j] 104)).drew)) hF4 (by simp)
                have c1a := cell_later ((Below.refl _ w4).alloc (Nat.le_refl _) (.cells #[.int .i64 t.a, .int .i64 t.b, .int .i64 t.c, .int .i64 t.d, .int .i64 t.e, .int .i64 t.f, .int .i64 t.g, .int .i64 t.h, .int .i64 t.i, .int .i64 t.j] 104)) c1
                go_region_law (first
                  | (refine step_append_lies _ (by rfl) _ _ _ (by rfl) W2.heap.size 104 i0 _ 10 80 Tryz.underlying98 HI.out H0.out H1.out H2.out rfl (by decide) _ k _ (by rfl) ((hown4.alloc _).drew) ⟨w4.heap.size, 0, none⟩ 1 1 (t.l.map (Value.int .i64)) (by rfl) (by rfl) (ten_cell_at w4 #[.int .i64 t.a, .int .i64 t.b, .int .i64 t.c, .int .i64 t.d, .int .i64 t.e, .int .i64 t.f, .int .i64 t.g, .int .i64 t.h, .int .i64 t.i, .int .i64 t.j] 104) (map_int_one t.l) (by omega) (by unfold maxLen; omega) (by omega) (by have := hfr4.size; simp; omega) _ rfl ?_
                     intro g3 cap3 w5 hown5 hgrow5 _ _
                     have hfg : FrT N [104] _ w5 := FrT.grown ((hown4.alloc _).drew) hgrow5 (by simp) hNW
                     have hF6 := hfg.heap hF5 (by decide)
                     have hf6 : FrT N [100] W2 w5 := hf4.grownNew hgrow5 (fun g hg => (hown4.lt g hg).1)
                     obtain ⟨⟨e0, e1, e2, e3, e4⟩, z0, z1, z2, z3, z4⟩ := cells5 _ _ _ _ _ _ _ _ hF6
                     rw [← tensV_snoc] at hown5)
                  | fail)
                all_goals
                  have hf7 : FrT N [100] w5 (w5.setCell ⟨F, 1, none⟩ (.slice (some ⟨g3, 0, none⟩) (k + 1) cap3)) := FrT.set hF6 (by simp) hNF _
                  have hF7 := heap_setCell_same w5 F 1 _ _ (.slice (some ⟨g3, 0, none⟩) (k + 1) cap3) hF6
                  have hown7 := hf7.owns hown5 (by decide)
                  have hf8 := hf6.trans hf7
                  have HR8 : Hid (FrT N [100] W2 (w5.setCell ⟨F, 1, none⟩ (.slice (some ⟨g3, 0, none⟩) (k + 1) cap3))) := Lib.hid hf8
                  have HO8 := Lib.hid hown7
                  have HF8 : Hid ((w5.setCell ⟨F, 1, none⟩ (.slice (some ⟨g3, 0, none⟩) (k + 1) cap3)).heap[F]? = some (.cells #[.slice bp l.length bc, .slice (some ⟨g3, 0, none⟩) (k + 1) cap3, .slice none 0 0, vs, .int .i64 sy] 100 (0, 0))) := Lib.hid hF7
                  have hk8 : (acc ++ [t]).length = k + 1 := by rw [List.length_append, hal]; rfl
                  clear c1a hf4 hF5 hF6 hfg hf6 hf7 hF7 hown7 hf8 hown5 hgrow5 x0 x1 x2 x3 x4 x5 x6 x7 x8 x9 c0 c1 c2 c3 c4 f0 f1 f2 f3 f4 hown4 hfr4 hF4 hgh4
                  go_wp2_with fail
                  go_roundw
                  case rel => exact ⟨k + 1, acc ++ [t], _, hlt, by go_num, hsk.out, HOK.out.snoc hmt (by rw [hal]; exact HQ.out.symm), hk8, HF8.out, by rw [hk8]; exact HO8.out, HR8.out⟩
                  case measure => simp [intOf]; omega
        · obtain rfl : k = m := by omega
          have hJ : ¬ (k : Int) < (k : Int) := by omega
          have hgo2 : hdGo l a 0 k [] = some acc := by rw [HGO.out, Nat.sub_self]; rfl
          have hE3 := HE.out
          rw [hgo2] at hE3
          have hE4 : Hid (res = bif isTy acc n 3 then (match acc[n]? with
            | none => none
            | some t => match nmGo (win l t.e.toNat t.f.toNat) [str []] (acc.drop 1) with
              | none => none
              | some ns => some (acc, ns)) else none) := Lib.hid hE3
          have hnl : n < acc.length := by omega
          obtain ⟨t, ht⟩ : ∃ t, acc[n]? = some t := ⟨_, List.getElem?_eq_getElem hnl⟩
          obtain ⟨hmt, hht⟩ := HOK.out n t ht
          have hty : isTy acc n 3 = (t.b == 3) := by unfold isTy; rw [ht]
          obtain ⟨p, c, rfl, q1, q2, q3, hLh⟩ := tens_has HOWN.out
          obtain ⟨b, off, e, hten⟩ := hLh n t ht
          subst e
          obtain ⟨g0, g1, g2⟩ := cells3 _ _ _ _ _ _ hGr
          obtain ⟨⟨c0, c1, c2, c3, c4⟩, f0, f1, f2, f3, f4⟩ := cells5 _ _ _ _ _ _ _ _ hFr
          have HTY := Lib.hid fun (W : World) (hW : Below wr.heap.size wr W) => isType_any F n 3 (some ⟨b, off, none⟩) c acc W (cell_later hW c1) (hLh.below ETen.keeps hW)
          rw [hty] at HTY hE4
          generalize hal2 : acc.length = al at *
          obtain ⟨d0, d1, d2, d3, d4, d5, d6, d7, d8, d9⟩ := hten
          have hJn : (n : Int) < (al : Int) := by omega
          have hJ0 : (0 : Int) ≤ (n : Int) := by omega
          have hGr2 := hGr
          clear hgo2 hE3 hnl hLh hFr hGr
          cases hb3 : (t.b == 3) with
          | false =>
            rw [hb3] at HTY hE4
            have hE5 : Hid (res = none) := Lib.hid hE4.out
            go_wp2_with fail
            go_quiet (first | (go_at_call 85; refine Calls.quiet_of_same (HTY.out _ (by first | exact Below.refl _ _ | exact (Below.refl _ wr).drew | exact below_drewN (Below.refl _ wr) _ | fail))) | fail)
            go_wp2_with fail
            go_ret
            refine ⟨by rw [hE5.out]; rfl, (HFR2.out.trans HFR.out).trans (FrT.of_below (below_drewN (Below.refl _ wr) _)), fun L ns h => ?_⟩
            rw [hE5.out] at h
            cases h
          | true =>
            rw [hb3] at HTY hE4
            have hb3' : t.b = 3 := by simpa using hb3
            have hte := (fitsB_iff _).1 (hmt t.e (by simp [Ten.l]))
            have htf := (fitsB_iff _).1 (hmt t.f (by simp [Ten.l]))
            have hn0 : ¬ n = 0 := by omega
            have hef : t.e + t.f ≤ (l.length : Int) := by
              unfold headMay at hht
              rw [show (n == 0) = false by simpa using hn0, hb3'] at hht
              simp [tyOK] at hht
              exact hht.2
            obtain ⟨te, hte2⟩ := Int.eq_ofNat_of_zero_le hte.1
            obtain ⟨tf, htf2⟩ := Int.eq_ofNat_of_zero_le htf.1
            have hwl := win_length l te tf (by omega)
            have HTO := Lib.hid fun (W : World) (hW : Below wr.heap.size wr W) => told_any F t bp bc l.length te tf W (cell_later hW c0) h1 h2 hte2 htf2 (by omega) (by omega)
            have hRN := fun (W : World) (hW : Below wr.heap.size wr W) => readNames_any N F W2.heap.size w0 (tolP bp bc te) (bc - te) (win l te tf) (.slice bp l.length bc) (.slice (some ⟨b, off, none⟩) al c) (.slice none 0 0) vs sy acc W hN (hbN.trans (hW.mono (by have := hbN.size; omega))) hNF (by rw [hW.block F (Array.getElem?_eq_some_iff.1 HFr.out).1]; exact HFr.out) (by rw [hal2]; exact owns_belowN HOWN.out hW) (tol_has HHAS.out h1 (by omega)) (by rw [hwl]; omega) (by rw [hwl]; omega) (by omega) (by omega)
            have hE5 : Hid (res = match nmGo (win l te tf) [str []] (acc.drop 1) with
              | none => none
              | some ns => some (acc, ns)) := Lib.hid (by
                rw [hE4.out, ht]
                show (match nmGo (win l t.e.toNat t.f.toNat) [str []] (acc.drop 1) with | none => none | some ns => some (acc, ns)) = _
                rw [hte2, htf2]
                rfl)
            rw [hwl] at hRN
            have HRN := Lib.hid hRN
            have HGr := Lib.hid hGr2
            have HSB := Lib.hid fun (W : World) (hW : Below wr.heap.size wr W) => show W.cell? ⟨G, 2, none⟩ = some (.int .i64 (n : Int)) ∧ W.cell? ⟨F, 1, none⟩ = some (.slice (some ⟨b, off, none⟩) al c) ∧ W.cell? ⟨b, off + n * 10, none⟩ = some (.int .i64 t.a) ∧ W.cell? ⟨b, off + n * 10 + 1, none⟩ = some (.int .i64 t.b) ∧ W.cell? ⟨b, off + n * 10 + 2, none⟩ = some (.int .i64 t.c) ∧ W.cell? ⟨b, off + n * 10 + 3, none⟩ = some (.int .i64 t.d) ∧ W.cell? ⟨b, off + n * 10 + 4, none⟩ = some (.int .i64 t.e) ∧ W.cell? ⟨b, off + n * 10 + 5, none⟩ = some (.int .i64 t.f) ∧ W.cell? ⟨b, off + n * 10 + 6, none⟩ = some (.int .i64 t.g) ∧ W.cell? ⟨b, off + n * 10 + 7, none⟩ = some (.int .i64 t.h) ∧ W.cell? ⟨b, off + n * 10 + 8, none⟩ = some (.int .i64 t.i) ∧ W.cell? ⟨b, off + n * 10 + 9, none⟩ = some (.int .i64 t.j) from ⟨cell_later hW g2, cell_later hW c1, cell_later hW d0, cell_later hW d1, cell_later hW d2, cell_later hW d3, cell_later hW d4, cell_later hW d5, cell_later hW d6, cell_later hW d7, cell_later hW d8, cell_later hW d9⟩
            have hS0 : wr.cell? ⟨G, 2, none⟩ = some (.int .i64 (n : Int)) ∧ wr.cell? ⟨F, 1, none⟩ = some (.slice (some ⟨b, off, none⟩) al c) ∧ wr.cell? ⟨b, off + n * 10, none⟩ = some (.int .i64 t.a) ∧ wr.cell? ⟨b, off + n * 10 + 1, none⟩ = some (.int .i64 t.b) ∧ wr.cell? ⟨b, off + n * 10 + 2, none⟩ = some (.int .i64 t.c) ∧ wr.cell? ⟨b, off + n * 10 + 3, none⟩ = some (.int .i64 t.d) ∧ wr.cell? ⟨b, off + n * 10 + 4, none⟩ = some (.int .i64 t.e) ∧ wr.cell? ⟨b, off + n * 10 + 5, none⟩ = some (.int .i64 t.f) ∧ wr.cell? ⟨b, off + n * 10 + 6, none⟩ = some (.int .i64 t.g) ∧ wr.cell? ⟨b, off + n * 10 + 7, none⟩ = some (.int .i64 t.h) ∧ wr.cell? ⟨b, off + n * 10 + 8, none⟩ = some (.int .i64 t.i) ∧ wr.cell? ⟨b, off + n * 10 + 9, none⟩ = some (.int .i64 t.j) := HSB.out wr (Below.refl _ _)
            have hSd : wr.drew.cell? ⟨G, 2, none⟩ = some (.int .i64 (n : Int)) ∧ wr.drew.cell? ⟨F, 1, none⟩ = some (.slice (some ⟨b, off, none⟩) al c) ∧ wr.drew.cell? ⟨b, off + n * 10, none⟩ = some (.int .i64 t.a) ∧ wr.drew.cell? ⟨b, off + n * 10 + 1, none⟩ = some (.int .i64 t.b) ∧ wr.drew.cell? ⟨b, off + n * 10 + 2, none⟩ = some (.int .i64 t.c) ∧ wr.drew.cell? ⟨b, off + n * 10 + 3, none⟩ = some (.int .i64 t.d) ∧ wr.drew.cell? ⟨b, off + n * 10 + 4, none⟩ = some (.int .i64 t.e) ∧ wr.drew.cell? ⟨b, off + n * 10 + 5, none⟩ = some (.int .i64 t.f) ∧ wr.drew.cell? ⟨b, off + n * 10 + 6, none⟩ = some (.int .i64 t.g) ∧ wr.drew.cell? ⟨b, off + n * 10 + 7, none⟩ = some (.int .i64 t.h) ∧ wr.drew.cell? ⟨b, off + n * 10 + 8, none⟩ = some (.int .i64 t.i) ∧ wr.drew.cell? ⟨b, off + n * 10 + 9, none⟩ = some (.int .i64 t.j) := HSB.out wr.drew (Below.refl _ _).drew
            clear hRN hwl hef hmt hht hE4 c0 c2 c3 c4 f0 f1 f2 f3 f4 g0 g1 hGr2 hte2 htf2 hb3' hb3 hte htf hty
            go_wp2_with fail
            go_region_held3 (fun W => W.cell? ⟨G, 2, none⟩ = some (.int .i64 (n : Int)) ∧ W.cell? ⟨F, 1, none⟩ = some (.slice (some ⟨b, off, none⟩) al c) ∧ W.cell? ⟨b, off + n * 10, none⟩ = some (.int .i64 t.a) ∧ W.cell? ⟨b, off + n * 10 + 1, none⟩ = some (.int .i64 t.b) ∧ W.cell? ⟨b, off + n * 10 + 2, none⟩ = some (.int .i64 t.c) ∧ W.cell? ⟨b, off + n * 10 + 3, none⟩ = some (.int .i64 t.d) ∧ W.cell? ⟨b, off + n * 10 + 4, none⟩ = some (.int .i64 t.e) ∧ W.cell? ⟨b, off + n * 10 + 5, none⟩ = some (.int .i64 t.f) ∧ W.cell? ⟨b, off + n * 10 + 6, none⟩ = some (.int .i64 t.g) ∧ W.cell? ⟨b, off + n * 10 + 7, none⟩ = some (.int .i64 t.h) ∧ W.cell? ⟨b, off + n * 10 + 8, none⟩ = some (.int .i64 t.i) ∧ W.cell? ⟨b, off + n * 10 + 9, none⟩ = some (.int .i64 t.j)) (first | with_reducible exact hS0 | with_reducible exact hSd | with_reducible exact hS2 | with_reducible exact hS3 | fail)
              ((first
                | (go_at_call 85
                   refine (HTY.out _ (by first | exact Below.refl _ _ | exact (Below.refl _ wr).drew | fail)).mono ?_
                   rintro e w' ⟨rfl, rfl⟩)
                | (go_at_call 87
                   refine (HTO.out _ (by first | exact Below.refl _ _ | exact (Below.refl _ wr).drew | fail)).mono ?_
                   rintro e w2 ⟨rfl, hb2⟩
                   have hb4 : Below wr.heap.size wr w2 := below_drew (w := wr) hb2 rfl
                   have hS2 := HSB.out w2 hb4)
                | (go_at_call 86
                   refine (HRN.out w2 hb4).mono ?_
                   rintro e w3 ⟨rfl, vn, hFn, hfn, hnm⟩
                   have hG3 := hfn.heap (FrT.heap (N := N) (Ts := []) (FrT.of_below hb4) HGr.out (by simp)) (by decide)
                   have hown3 := hfn.owns (owns_belowN HOWN.out hb4) (by decide)
                   have hS3 := names_S hG3 hFn hown3 hal2 ht)
                | fail))
            have hnl : ∀ ns, nmGo (win l te tf) [str []] (acc.drop 1) = some ns → ns.length = acc.length := by
              intro ns h
              have := nmGo_len h
              rw [List.length_drop] at this
              simp at this
              omega
            have hfE : FrT N [100] w w3 := ((HFR2.out.trans HFR.out).trans (FrT.of_below hb4)).trans hfn
            have hszE : W2.heap.size ≤ w2.heap.size := by have := HFR.out.size; have := hb4.size; omega
            rw [← List.drop_one]
            generalize nmGo (win l te tf) [str []] (acc.drop 1) = so at *
            have HNM := Lib.hid hnm
            have HNL := Lib.hid hnl
            have HFE := Lib.hid hfE
            have HFN := Lib.hid hFn
            have HO3 := Lib.hid hown3
            clear hnm hnl hfE hFn hown3 hfn hG3
            cases so with
            | none =>
              have hE6 : Hid (res = none) := Lib.hid hE5.out
              go_wp2_with fail
              go_ret
              refine ⟨by rw [hE6.out]; rfl, HFE.out, fun L ns h => ?_⟩
              rw [hE6.out] at h
              cases h
            | some ns =>
              have hE6 : Hid (res = some (acc, ns)) := Lib.hid hE5.out
              go_wp2_with fail
              go_ret
              refine ⟨by rw [hE6.out]; rfl, HFE.out, fun L ns' h => ?_⟩
              rw [hE6.out] at h
              cases h
              refine ⟨_, vn, HFN.out, ?_, owns_lower (HNM.out ns rfl) (by omega), HOK.out, HNL.out ns rfl, by omega, by omega⟩
              rw [hal2]
              exact owns_lower HO3.out hs2
end Go.Proofs.YtenmcmnhiejbgaaGreat
