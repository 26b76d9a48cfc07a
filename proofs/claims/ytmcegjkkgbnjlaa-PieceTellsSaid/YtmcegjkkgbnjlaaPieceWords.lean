/-
  Pieces of a section: words. Nothing here walks the program.
-/
import Derived.Test.YtmcegjkkgbnjlaaShapeG
namespace Go.Proofs.Ytmcegjkkgbnjlaa
open Go.RowKit

/-- A piece: where, and of how many bytes. -/
structure PcD where
  (at_ size : Int)
def EPc (w : World) (b o : Nat) (p : PcD) : Prop := EInt w b o p.at_ ∧ EInt w b (o + 1) p.size
theorem EPc.keeps : Keeps EPc := fun _ _ _ _ _ hb ⟨h0, h1⟩ => ⟨EInt.keeps _ _ _ _ _ hb h0, EInt.keeps _ _ _ _ _ hb h1⟩
/-- Their cells. -/
def pcV : List PcD → List Value
  | [] => []
  | p :: l => .int .i64 p.at_ :: .int .i64 p.size :: pcV l
theorem pcV_length : ∀ l : List PcD, (pcV l).length = l.length * 2
  | [] => rfl
  | _ :: l => by simp [pcV, pcV_length l]; omega
theorem pcV_append : ∀ a b : List PcD, pcV (a ++ b) = pcV a ++ pcV b
  | [], _ => rfl
  | _ :: l, b => by simp [pcV, pcV_append l b]
theorem pcV_get : ∀ (l : List PcD) (i : Nat) (p : PcD), l[i]? = some p → (pcV l)[i * 2]? = some (.int .i64 p.at_) ∧ (pcV l)[i * 2 + 1]? = some (.int .i64 p.size)
  | [], i, p, h => by simp at h
  | q :: l, 0, p, h => by simp at h; subst h; simp [pcV]
  | q :: l, i + 1, p, h => by
    have := pcV_get l i p (by simpa using h)
    rw [show (i + 1) * 2 = i * 2 + 2 by omega]
    simpa [pcV] using this
def PcD.bd (p : PcD) : Prop := (-9223372036854775808 ≤ p.at_ ∧ p.at_ ≤ 9223372036854775807) ∧ -9223372036854775808 ≤ p.size ∧ p.size ≤ 9223372036854775807
/-- A row of one's own holds them. -/
theorem isL_pc {w : World} {base : Nat} {T : TypeId} {v : Value} {l : List PcD} (h : w.ownsRow base T 2 v l.length (pcV l)) (hbd : ∀ p ∈ l, p.bd) : IsL 2 EPc w v l := by
  obtain ⟨_, h⟩ := h
  rcases h with ⟨rfl, h0⟩ | ⟨g, cap, cur, rfl, _, hg, h1, h2, h3, h4⟩
  · have : l = [] := List.length_eq_zero_iff.1 h0
    subst this
    exact ⟨none, 0, rfl, Nat.le_refl _, Nat.zero_le _, fun _ => rfl, fun i x hx => by simp at hx⟩
  · refine ⟨some ⟨g, 0, none⟩, cap, rfl, h1, h2, (fun h => by cases h), fun i p hp => ⟨g, 0, rfl, ?_⟩⟩
    have hi : i < l.length := (List.getElem?_eq_some_iff.1 hp).1
    obtain ⟨q0, q1⟩ := pcV_get l i p hp
    obtain ⟨d0, d1⟩ := hbd p (List.mem_of_getElem? hp)
    have hc : ∀ j x, j < l.length * 2 → (pcV l)[j]? = some x → w.cell? ⟨g, j, none⟩ = some x := fun j x hj hx => by
      refine (cell_of_row w g j cur T (0, 0) hg).trans ?_
      rw [← h4, List.getElem?_take, if_pos hj] at hx
      simpa using hx
    refine ⟨⟨hc _ _ (by omega) (by rw [Nat.zero_add]; exact q0), d0⟩, ⟨hc _ _ (by omega) (by rw [Nat.zero_add]; exact q1), d1⟩⟩

/-! ## The pieces -/
def endB (strs : Bool) (ent : Int) (a k : Nat) (x : UInt8) : Bool := bif strs then x == 0 else ((k : Int) + 1 - (a : Int)) == ent
/-- The pieces that end within the first k bytes, and where the next one begins. -/
def pcStep (strs : Bool) (ent : Int) (d : List UInt8) : Nat → List PcD × Nat
  | 0 => ([], 0)
  | k + 1 => match d[k]? with
    | none => pcStep strs ent d k
    | some x => bif endB strs ent (pcStep strs ent d k).2 k x then ((pcStep strs ent d k).1 ++ [⟨(pcStep strs ent d k).2, (k : Int) + 1 - ((pcStep strs ent d k).2 : Int)⟩], k + 1) else pcStep strs ent d k
def piecesOf (s : SecD) : List PcD := bif hasF s.flags 16 then (pcStep (hasF s.flags 32) s.ent s.data s.data.length).1 else [⟨0, s.size⟩]
theorem pcStep_yes {strs : Bool} {ent : Int} {d : List UInt8} {k a : Nat} {l : List PcD} {x : UInt8} (h : pcStep strs ent d k = (l, a)) (hx : d[k]? = some x) (he : endB strs ent a k x = true) : pcStep strs ent d (k + 1) = (l ++ [⟨a, (k : Int) + 1 - (a : Int)⟩], k + 1) := by
  show (match d[k]? with | none => _ | some x => _) = _
  rw [hx, h]
  simp only
  rw [he]
  rfl
theorem pcStep_no {strs : Bool} {ent : Int} {d : List UInt8} {k a : Nat} {l : List PcD} {x : UInt8} (h : pcStep strs ent d k = (l, a)) (hx : d[k]? = some x) (he : endB strs ent a k x = false) : pcStep strs ent d (k + 1) = (l, a) := by
  show (match d[k]? with | none => _ | some x => _) = _
  rw [hx, h]
  simp only
  rw [he]
  rfl

/-- Where pieces that stand one behind the other, from 0 on, end. -/
def endOf (l : List PcD) : Int := (l.map PcD.size).sum
theorem endOf_snoc (l : List PcD) (p : PcD) : endOf (l ++ [p]) = endOf l + p.size := by simp [endOf]
/-- They stand one behind the other, and end at a; each has a byte. -/
def Chain (l : List PcD) (a : Int) : Prop := endOf l = a ∧ ∀ i p, l[i]? = some p → p.at_ = endOf (l.take i) ∧ 0 ≤ p.size
theorem Chain.snoc {l : List PcD} {a n : Int} (h : Chain l a) (hn : 0 ≤ n) : Chain (l ++ [⟨a, n⟩]) (a + n) := by
  refine ⟨by rw [endOf_snoc, h.1], fun i p hp => ?_⟩
  rw [List.getElem?_append] at hp
  split at hp
  · rename_i hi
    have := h.2 i p hp
    rw [List.take_append_of_le_length (by omega)]
    exact this
  · rename_i hi
    have hi0 : i - l.length = 0 := by have := (List.getElem?_eq_some_iff.1 hp).1; simp at this; omega
    rw [hi0] at hp
    simp at hp
    subst hp
    have : i = l.length := by omega
    subst this
    rw [List.take_append_of_le_length (Nat.le_refl _), List.take_length, h.1]
    exact ⟨rfl, hn⟩
/-- What is so of all that pcStep tells. -/
theorem pcStep_inv (strs : Bool) (ent : Int) (d : List UInt8) : ∀ k, k ≤ d.length → Chain (pcStep strs ent d k).1 ((pcStep strs ent d k).2 : Int) ∧ (pcStep strs ent d k).2 ≤ k ∧ (pcStep strs ent d k).1.length ≤ k ∧ (∀ p ∈ (pcStep strs ent d k).1, 0 ≤ p.at_ ∧ 1 ≤ p.size ∧ p.at_ + p.size ≤ (k : Int)) ∧
    (strs = true → (∀ j x, (pcStep strs ent d k).2 ≤ j → j < k → d[j]? = some x → x ≠ 0) ∧ ∀ p ∈ (pcStep strs ent d k).1, ∀ (j : Nat) x, p.at_ ≤ (j : Int) → (j : Int) < p.at_ + p.size → d[j]? = some x → (x == 0) = ((j : Int) == p.at_ + p.size - 1)) ∧
    (strs = false → 1 ≤ ent → ((k : Int) - ((pcStep strs ent d k).2 : Int) < ent) ∧ ent ∣ ((pcStep strs ent d k).2 : Int))
  | 0, _ => by
    refine ⟨⟨rfl, fun i p hp => by simp [pcStep] at hp⟩, Nat.le_refl _, Nat.le_refl _, fun p hp => by simp [pcStep] at hp, fun _ => ⟨fun j x _ h => absurd h (by omega), fun p hp => by simp [pcStep] at hp⟩, fun _ h1 => ⟨by simp [pcStep]; omega, by simp [pcStep]⟩⟩
  | k + 1, hk => by
    obtain ⟨hc, ha, hl, hp, hs, he⟩ := pcStep_inv strs ent d k (by omega)
    obtain ⟨x, hx⟩ : ∃ x, d[k]? = some x := ⟨_, List.getElem?_eq_getElem (by omega)⟩
    generalize hst : pcStep strs ent d k = st at *
    obtain ⟨l, a⟩ := st
    simp only at hc ha hl hp hs he
    cases hb : endB strs ent a k x with
    | true =>
      rw [pcStep_yes hst hx hb]
      simp only
      refine ⟨?_, Nat.le_refl _, by simp; omega, fun p hpm => ?_, fun h => ⟨fun j y h1 h2 => absurd h1 (by omega), fun p hpm j y h1 h2 hy => ?_⟩, fun h h1 => ?_⟩
      · have := hc.snoc (n := (k : Int) + 1 - (a : Int)) (by omega)
        rw [show (a : Int) + ((k : Int) + 1 - (a : Int)) = ((k + 1 : Nat) : Int) by omega] at this
        exact this
      · rcases List.mem_append.1 hpm with h | h
        · have := hp p h; omega
        · simp at h; subst h; simp only; omega
      · subst h
        rcases List.mem_append.1 hpm with h | h
        · exact (hs rfl).2 p h j y h1 h2 hy
        · simp at h
          subst h
          simp only at h1 h2 ⊢
          by_cases hjk : j = k
          · subst hjk
            rw [hx] at hy
            cases hy
            have hx0 : (x == 0) = true := hb
            rw [hx0]
            simp; omega
          · have := (hs rfl).1 j y (by omega) (by omega) hy
            have e1 : (y == 0) = false := by simpa using this
            rw [e1]
            symm
            simp; omega
      · subst h
        have h2 := he rfl h1
        have h3 : ((k : Int) + 1 - (a : Int)) = ent := by
          have : (((k : Int) + 1 - (a : Int)) == ent) = true := hb
          simpa using this
        refine ⟨by omega, ?_⟩
        obtain ⟨q, hq⟩ := h2.2
        exact ⟨q + 1, by rw [Int.mul_add, ← hq]; omega⟩
    | false =>
      rw [pcStep_no hst hx hb]
      simp only
      refine ⟨hc, by omega, by omega, fun p hpm => ?_, fun h => ⟨fun j y h1 h2 hy => ?_, ?_⟩, fun h h1 => ?_⟩
      · have := hp p hpm; omega
      · subst h
        by_cases hjk : j = k
        · subst hjk
          rw [hx] at hy
          cases hy
          have hx0 : (x == 0) = false := hb
          simpa using hx0
        · exact (hs rfl).1 j y h1 (by omega) hy
      · exact (hs h).2
      · subst h
        have h2 := he rfl h1
        have h3 : ¬ ((k : Int) + 1 - (a : Int)) = ent := by
          have : (((k : Int) + 1 - (a : Int)) == ent) = false := hb
          simpa using this
        exact ⟨by omega, h2.2⟩

end Go.Proofs.Ytmcegjkkgbnjlaa
