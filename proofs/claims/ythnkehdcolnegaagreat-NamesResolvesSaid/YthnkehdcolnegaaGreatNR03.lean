/-
  XFr0's words, for texts over objects.
  A region that draws its order and whose calls make memory. Nothing here walks the program.
  Rows of elements that each lie in some cells, as a reader sees them. Nothing here names the program.
  Rows of elements that each lie in some cells, as a reader sees them; sections, symbols, groups, relocations as they lie while an object is read. It names types of the program, none of its functions.
-/
import Derived.Test.YthnkehdcolnegaaGreatObjMem
import Derived.Test.YthnkehdcolnegaaGreatNR02
import Derived.Test.YthnkehdcolnegaaGreatWords
import Derived.BigQuiet
namespace Go.Proofs.YthnkehdcolnegaaGreat
end Go.Proofs.YthnkehdcolnegaaGreat

namespace Go.Proofs.YthnkehdcolnegaaGreat
open Go.RowKit

/-- A region that draws its order, of whose operations and callees each leaves alone what was there: walked once, in the order of the text. -/
theorem wp_region_below {P : Program} {id : Nat} {Q : Exit → Act → World → Prop} {a : Act} {w : World} {l : List Oper} (hm : P.follows .mixedOrders = true) (hB : Region.lexB .any l.toArray = true)
    (h : wpQuiet P l.toArray (fun W => Below w.heap.size w W) (fun a' => ∀ w', Below w.heap.size w w' → Q .normal a' w') l a) : (Code.region id l.toArray true).wp P Q a w :=
  wp_region_quiet (C := fun W => Below w.heap.size w W) hm hB ((Below.refl _ w).drew) (by simpa using h)
end Go.Proofs.YthnkehdcolnegaaGreat

namespace Go.Proofs.YthnkehdcolnegaaGreat
open Go.RowKit

theorem flat_get {α : Type} {k : Nat} {f : α → List Value} (hk : ∀ x, (f x).length = k) : ∀ (xs : List α) (i : Nat) (x : α) (j : Nat) (u : Value), xs[i]? = some x → (f x)[j]? = some u → (xs.flatMap f)[i * k + j]? = some u
  | [], i, x, j, u, h, _ => by simp at h
  | y :: xs, 0, x, j, u, h, hj => by
    simp at h
    subst h
    rw [List.flatMap_cons, Nat.zero_mul, Nat.zero_add, List.getElem?_append_left (List.getElem?_eq_some_iff.1 hj).1]
    exact hj
  | y :: xs, i + 1, x, j, u, h, hj => by
    have := flat_get hk xs i x j u (by simpa using h) hj
    rw [List.flatMap_cons, List.getElem?_append_right (by rw [hk y, Nat.succ_mul]; omega), hk y, show (i + 1) * k + j - k = i * k + j by rw [Nat.succ_mul]; omega]
    exact this
theorem flat_snoc {α : Type} (f : α → List Value) (xs : List α) (x : α) : (xs ++ [x]).flatMap f = xs.flatMap f ++ f x := by simp
/-- A row of elements is a slice of them. -/
theorem isL_rows {α β : Type} {k : Nat} {E : World → Nat → Nat → β → Prop} {f : α → List Value} {g : α → β} (hk : ∀ x, (f x).length = k) {w : World} {B : Nat} {T : TypeId} {v : Value} {xs : List α} (h : w.ownsRow B T k v xs.length (xs.flatMap f))
    (hE : ∀ x ∈ xs, ∀ b o, (∀ j u, (f x)[j]? = some u → w.cell? ⟨b, o + j, none⟩ = some u) → E w b o (g x)) : IsL k E w v (xs.map g) := by
  rcases h.2 with ⟨rfl, h0⟩ | ⟨b, cap, cur, rfl, hb, hg, h1, h2, h3, h4⟩
  · have : xs = [] := List.length_eq_zero_iff.1 h0
    subst this
    exact ⟨none, 0, rfl, Nat.le_refl _, Nat.zero_le _, fun _ => rfl, fun i x hx => by simp at hx⟩
  · refine ⟨some ⟨b, 0, none⟩, cap, by rw [List.length_map], by rw [List.length_map]; exact h1, h2, (fun h => by cases h), fun i y hy => ⟨b, 0, rfl, ?_⟩⟩
    rw [List.getElem?_map] at hy
    cases hx : xs[i]? with
    | none => rw [hx] at hy; cases hy
    | some x =>
      rw [hx] at hy
      cases hy
      have hi := (List.getElem?_eq_some_iff.1 hx).1
      refine hE x (List.mem_of_getElem? hx) b (0 + i * k) fun j u hj => ?_
      have hjk : j < k := by rw [← hk x]; exact (List.getElem?_eq_some_iff.1 hj).1
      have hlt : i * k + j < xs.length * k := by
        have : (i + 1) * k ≤ xs.length * k := Nat.mul_le_mul_right k hi
        rw [Nat.succ_mul] at this
        omega
      have hf := flat_get hk xs i x j u hx hj
      rw [Nat.zero_add]
      refine (cell_of_row w b (i * k + j) cur T (0, 0) hg).trans ?_
      rw [← h4, List.getElem?_take, if_pos hlt] at hf
      simpa using hf
def i64bd (x : Int) : Prop := -9223372036854775808 ≤ x ∧ x ≤ 9223372036854775807
end Go.Proofs.YthnkehdcolnegaaGreat

namespace Go.Proofs.YthnkehdcolnegaaGreat
open Go.RowKit

/-! ## What is read -/
def relC (r : RelD) : List Value := [.int .i64 r.off, .int .i64 r.type, .int .i64 r.sym, .int .i64 r.add]
def RelD.bd (r : RelD) : Prop := i64bd r.off ∧ i64bd r.type ∧ i64bd r.sym ∧ i64bd r.add
/-- A section as it lies: its numbers, its data's slice, its relocations' slice. -/
structure SecV where
  (s : SecD)
  (d r : Value)
def SecV.cells (x : SecV) : List Value := [.string x.s.name, .int .i64 x.s.type, .int .i64 x.s.flags, .int .i64 x.s.align, .int .i64 x.s.ent, .int .i64 x.s.link, .int .i64 x.s.size, x.d, x.r]
def SecD.bd (s : SecD) : Prop := s.name.size ≤ maxLen ∧ i64bd s.type ∧ i64bd s.flags ∧ i64bd s.align ∧ i64bd s.ent ∧ i64bd s.link ∧ i64bd s.size ∧ ∀ r ∈ s.rels, r.bd
/-- Its data, and its relocations, lie in memory from block N on. -/
def SecV.ok (x : SecV) (N : Nat) (w : World) : Prop := w.ownsRow N 5 1 x.d x.s.data.length (x.s.data.map u8v) ∧ w.ownsRow N 94 4 x.r x.s.rels.length (x.s.rels.flatMap relC) ∧ x.s.bd
theorem SecV.ok.fr {x : SecV} {N M : Nat} {Ts : List TypeId} {w w' : World} (h : x.ok N w) (hf : FrT M Ts w w') (h1 : 5 ∉ Ts) (h2 : 94 ∉ Ts) : x.ok N w' := ⟨hf.owns h.1 h1, hf.owns h.2.1 h2, h.2.2⟩
def SymD.bd (s : SymD) : Prop := s.name.size ≤ maxLen ∧ i64bd s.bind ∧ i64bd s.type ∧ i64bd s.sec ∧ i64bd s.value ∧ i64bd s.size
/-- A group as it lies: its symbol, its members' slice. -/
structure GroupV where
  (g : GroupD)
  (m : Value)
def GroupV.cells (x : GroupV) : List Value := [.int .i64 x.g.sym, x.m]
def GroupV.ok (x : GroupV) (N : Nat) (w : World) : Prop := w.ownsRow N 3 1 x.m x.g.members.length (x.g.members.map (Value.int .i64)) ∧ i64bd x.g.sym ∧ ∀ y ∈ x.g.members, i64bd y
theorem GroupV.ok.fr {x : GroupV} {N M : Nat} {Ts : List TypeId} {w w' : World} (h : x.ok N w) (hf : FrT M Ts w w') (h1 : 3 ∉ Ts) : x.ok N w' := ⟨hf.owns h.1 h1, h.2⟩
end Go.Proofs.YthnkehdcolnegaaGreat
