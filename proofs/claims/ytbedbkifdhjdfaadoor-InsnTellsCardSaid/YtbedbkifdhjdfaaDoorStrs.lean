/-
  Words on slices of strings, and on two rows of unlike elements.
-/
import Derived.Test.YtbedbkifdhjdfaaDoorStrWords
import Derived.Test.YtbedbkifdhjdfaaDoorMem0
import Derived.Lib.AppendStr
import Derived.Deep.QuietTactic
import Derived.BigQuiet
import Derived.Deep.DeepCutAuto
namespace Go.Proofs.YtbedbkifdhjdfaaDoor
open Go.RowKit

/-- Behind the address p lie the strings ss. -/
def HasS (w : World) (p : Option Addr) (ss : List ByteArray) : Prop :=
  ∀ i x, ss[i]? = some x → ∃ a, p = some a ∧ w.cell? (a.add i) = some (.string x)
theorem HasS.below {w w' : World} {p : Option Addr} {ss : List ByteArray} (h : HasS w p ss) (hb : Below w.heap.size w w') : HasS w' p ss := fun i x hx => by
  obtain ⟨a, e, hc⟩ := h i x hx
  exact ⟨a, e, (hb.cell (World.block_lt_of_cell? w _ hc)).trans hc⟩
theorem HasS.at_ {w : World} {p : Option Addr} {ss : List ByteArray} (h : HasS w p ss) {i : Nat} (hi : i < ss.length) :
    ∃ b off x, p = some ⟨b, off, none⟩ ∧ ss[i]? = some x ∧ w.cell? ⟨b, off + i, none⟩ = some (.string x) := by
  obtain ⟨⟨b, off, spot⟩, e, hc⟩ := h i ss[i] (List.getElem?_eq_getElem hi)
  have hs : spot = none := by
    obtain ⟨a0, e0, hc0⟩ := h 0 ss[0] (List.getElem?_eq_getElem (by omega))
    rw [e] at e0
    cases e0
    simpa [Addr.add] using World.cell?_spot hc0
  subst hs
  refine ⟨b, off, ss[i], e, List.getElem?_eq_getElem hi, ?_⟩
  have ha : (⟨b, off, none⟩ : Addr).add i = ⟨b, off + i, none⟩ := by unfold Addr.add; split <;> simp_all
  rwa [ha] at hc
theorem HasS.plain {w : World} {p : Option Addr} {ss : List ByteArray} (h : HasS w p ss) (hl : 0 < ss.length) :
    ∃ b off, p = some ⟨b, off, none⟩ ∧ ∀ i x, ss[i]? = some x → w.cell? ⟨b, off + i, none⟩ = some (.string x) := by
  obtain ⟨b, off, x, e, _, _⟩ := h.at_ hl
  refine ⟨b, off, e, fun i y hy => ?_⟩
  obtain ⟨b', off', y', e', hy', hc⟩ := h.at_ (List.getElem?_eq_some_iff.1 hy).1
  rw [e] at e'
  simp only [Option.some.injEq, Addr.mk.injEq, and_true] at e'
  obtain ⟨rfl, rfl⟩ := e'
  rw [hy] at hy'
  cases hy'
  exact hc

/-- A slice of strings that came in, as the row's opening hands it over. -/
def IsStrs (w : World) (a : Option Addr) (len cap : Nat) (ss : List ByteArray) : Prop :=
  (a = none ∧ len = 0 ∧ cap = 0 ∧ ss = []) ∨
  ∃ x, a = some x ∧ len ≤ cap ∧ cap ≤ maxLen ∧ ss.length = cap ∧ (∀ i, i < ss.length → w.cell? (x.add i) = some (.string (ss.getD i ByteArray.empty))) ∧ ∀ s ∈ ss, s.size ≤ maxLen
theorem IsStrs.hasS {w : World} {a : Option Addr} {len cap : Nat} {zs : List ByteArray} (h : IsStrs w a len cap zs) : ∃ ss : List ByteArray, ss.length = len ∧ HasS w a ss ∧ len ≤ cap ∧ cap ≤ maxLen := by
  rcases h with ⟨rfl, rfl, rfl, rfl⟩ | ⟨x, rfl, hl, hm, hz, hc, _⟩
  · exact ⟨[], rfl, fun i x hx => by simp at hx, Nat.le_refl _, Nat.zero_le _⟩
  · refine ⟨zs.take len, by simp; omega, fun i y hy => ⟨x, rfl, ?_⟩, hl, hm⟩
    rw [List.getElem?_take] at hy
    split at hy
    · have hi : i < zs.length := (List.getElem?_eq_some_iff.1 hy).1
      rw [hc i hi]
      simp [List.getD, hy]
    · cases hy

/-- A string's bytes. -/
abbrev lst (s : ByteArray) : Nm := s.data.toList
theorem lst_inj {a b : ByteArray} (h : lst a = lst b) : a = b := by
  apply ByteArray.ext
  exact Array.toList_inj.1 h
theorem strCells_lst (s : ByteArray) : Lib.strCells s = (lst s).map u8v := by simp [Lib.strCells, u8v]

theorem owns_apart {w : World} {b1 b2 : Nat} {e1 e2 : TypeId} {s1 s2 : Nat} {v1 v2 : Value} {n1 n2 : Nat} {xs1 xs2 : List Value} (h1 : w.ownsRow b1 e1 s1 v1 n1 xs1) (h2 : w.ownsRow b2 e2 s2 v2 n2 xs2) (he : e1 ≠ e2) :
    v1.ownBlock = none ∨ v1.ownBlock ≠ v2.ownBlock := by
  rcases h1.2 with ⟨rfl, _⟩ | ⟨g, cap, cur, rfl, _, hg, _⟩
  · exact .inl rfl
  · right
    rcases h2.2 with ⟨rfl, _⟩ | ⟨g', cap', cur', rfl, _, hg', _⟩
    · simp [Value.ownBlock]
    · simp only [Value.ownBlock, ne_eq, Option.some.injEq]
      intro e
      subst e
      rw [hg] at hg'
      simp only [Option.some.injEq, Obj.cells.injEq] at hg'
      exact he hg'.2.1

end Go.Proofs.YtbedbkifdhjdfaaDoor
