/-
  What is so of the pieces of a section that may be, and of the piece in which a place is. Nothing here walks the program.
-/
import Derived.Test.YtmcegjkkgbnjlaaPieceWords
namespace Go.Proofs.Ytmcegjkkgbnjlaa
open Go.RowKit

abbrev secVS (s : SecD) (vd vr : Value) : Value := secV s.name s.type s.flags s.align s.ent s.link s.size vd vr
/-- What kind says of a section, as far as pieces ask. -/
def SecFacts (s : SecD) : Prop := (0 ≤ s.size ∧ s.size ≤ 2147483647) ∧
  (hasF s.flags 16 = true → s.size = (s.data.length : Int) ∧ s.data.length ≤ 16384 ∧ (hasF s.flags 32 = true → s.data = [] ∨ s.data.getLast? = some 0) ∧ (hasF s.flags 32 = false → 1 ≤ s.ent ∧ s.ent ∣ s.size)) ∧
  (hasF s.flags 16 = false → hasF s.flags 32 = false) ∧ 0 ≤ s.flags
theorem flags_neg {n : Int} (h : n < 0) : ∀ L : List Int, L.foldl flagStep n = n
  | [] => rfl
  | l :: L => by
    have e : flagStep n l = n := by unfold flagStep hasF; rw [decide_eq_false (show ¬ 0 ≤ n by omega)]; simp
    rw [List.foldl_cons, e]
    exact flags_neg h L
theorem flags_pos {n : Int} (h : flagsB n = true) : 0 ≤ n := by
  by_cases h0 : 0 ≤ n
  · exact h0
  · unfold flagsB at h
    rw [flags_neg (by omega)] at h
    simp at h
    omega
theorem cond_false_of {c d : Bool} (h : (bif c then false else d) = true) : c = false ∧ d = true := by cases c <;> simp_all
theorem kind_facts {s : SecD} (h : kindS s = true) : SecFacts s := by
  unfold kindS kindB at h
  obtain ⟨h1, h⟩ := cond_false_of h
  have hfl : 0 ≤ s.flags := flags_pos (by
    rw [Bool.or_eq_false_iff, Bool.or_eq_false_iff] at h1
    simpa using h1.1.1)
  obtain ⟨h2, h⟩ := cond_false_of h
  obtain ⟨h3, h⟩ := cond_false_of h
  obtain ⟨h4, h⟩ := cond_false_of h
  have hty : s.type = 1 ∨ s.type = 8 := by simp at h4; omega
  have hl1 : s.type = 1 → s.size = (s.data.length : Int) ∧ s.size ≤ 16384 := fun e => by
    simp [e] at h2
    omega
  have hl8 : s.type = 8 → s.data.length = 0 ∧ 0 ≤ s.size ∧ s.size ≤ 2147483647 ∧ hasF s.flags 16 = false := fun e => by
    simp [e] at h3
    obtain ⟨⟨⟨⟨x1, x2⟩, x3⟩, _⟩, x5⟩ := h3
    exact ⟨by rw [x1]; rfl, by omega, by omega, x5⟩
  have hsz : 0 ≤ s.size ∧ s.size ≤ 2147483647 := by
    rcases hty with e | e
    · have := hl1 e; omega
    · have := hl8 e; omega
  refine ⟨hsz, fun hm => ?_, fun hm => ?_, hfl⟩
  · have e1 : s.type = 1 := by
      rcases hty with e | e
      · exact e
      · have := (hl8 e).2.2.2; rw [hm] at this; cases this
    obtain ⟨e2, e3⟩ := hl1 e1
    rw [hm] at h
    have h' : (bif hasF s.flags 1 || hasF s.flags 4 || decide (0 < (s.rels.length : Int)) then false else
      bif hasF s.flags 32 then (s.ent == 1) && (s.align == 1) && (((s.data.length : Int) == 0) || (s.data.getLast? == some 0)) else
      (s.ent == 4 || s.ent == 8 || s.ent == 16) && decide (s.align ≤ s.ent) && (s.size.tmod s.ent == 0)) = true := h
    obtain ⟨_, h5⟩ := cond_false_of h'
    refine ⟨e2, by omega, fun hs => ?_, fun hs => ?_⟩
    · rw [hs] at h5
      simp at h5
      rcases h5.2 with h6 | h6
      · exact .inl h6
      · exact .inr h6
    · rw [hs] at h5
      simp at h5
      obtain ⟨⟨h6, _⟩, h7⟩ := h5
      exact ⟨by omega, Int.dvd_of_tmod_eq_zero h7⟩
  · rw [hm] at h
    simp at h
    exact h.2

theorem pieces_facts {s : SecD} (h : SecFacts s) : Chain (piecesOf s) s.size ∧ (piecesOf s).length ≤ 16384 ∧ (∀ p ∈ piecesOf s, 0 ≤ p.at_ ∧ 0 ≤ p.size ∧ p.at_ + p.size ≤ s.size) ∧
    (hasF s.flags 32 = true → ∀ p ∈ piecesOf s, p.at_ + p.size ≤ (s.data.length : Int) ∧ ∀ (j : Nat) x, p.at_ ≤ (j : Int) → (j : Int) < p.at_ + p.size → s.data[j]? = some x → (x == 0) = ((j : Int) == p.at_ + p.size - 1)) := by
  obtain ⟨hsz, hm, hn, _⟩ := h
  cases hq : hasF s.flags 16 with
  | false =>
    have e : piecesOf s = [⟨0, s.size⟩] := by unfold piecesOf; rw [hq]; rfl
    rw [e]
    refine ⟨⟨by simp [endOf], fun i p hp => ?_⟩, by simp, fun p hp => ?_, fun h32 => ?_⟩
    · match i, hp with
      | 0, hp => simp at hp; subst hp; exact ⟨by simp [endOf], hsz.1⟩
      | i + 1, hp => simp at hp
    · simp at hp; subst hp; simp only; omega
    · rw [hn hq] at h32; cases h32
  | true =>
    obtain ⟨e1, e2, hs, he⟩ := hm hq
    have e : piecesOf s = (pcStep (hasF s.flags 32) s.ent s.data s.data.length).1 := by unfold piecesOf; rw [hq]; rfl
    rw [e]
    obtain ⟨i1, i2, i3, i4, i5, i6⟩ := pcStep_inv (hasF s.flags 32) s.ent s.data s.data.length (Nat.le_refl _)
    have ha : (pcStep (hasF s.flags 32) s.ent s.data s.data.length).2 = s.data.length := by
      cases h32 : hasF s.flags 32 with
      | true =>
        rw [h32] at i2 i5
        rcases hs h32 with h0 | h0
        · rw [h0]; rfl
        · by_cases hlt : (pcStep true s.ent s.data s.data.length).2 < s.data.length
          · have hg : s.data[s.data.length - 1]? = some 0 := by rw [← List.getLast?_eq_getElem?]; exact h0
            exact absurd rfl ((i5 rfl).1 (s.data.length - 1) 0 (by omega) (by omega) hg)
          · omega
      | false =>
        rw [h32] at i2 i6
        obtain ⟨h1, h2⟩ := he h32
        obtain ⟨h3, h4⟩ := i6 rfl h1
        rw [e1] at h2
        have h5 : s.ent ∣ ((s.data.length : Int) - ((pcStep false s.ent s.data s.data.length).2 : Int)) := Int.dvd_sub h2 h4
        have h6 := Int.emod_eq_of_lt (show 0 ≤ (s.data.length : Int) - ((pcStep false s.ent s.data s.data.length).2 : Int) by omega) h3
        rw [Int.emod_eq_zero_of_dvd h5] at h6
        omega
    rw [ha, ← e1] at i1
    refine ⟨i1, by omega, fun p hp => ?_, fun h32 p hp => ?_⟩
    · have := i4 p hp; omega
    · exact ⟨(i4 p hp).2.2, (i5 h32).2 p hp⟩

/-! ## In which piece a place is -/
def inB2 (n : Nat) (at_ : Int) (i : Nat) (p : PcD) : Bool := decide (p.at_ ≤ at_) && (decide (at_ < p.at_ + p.size) || (((i : Int) == (n : Int) - 1) && (at_ == p.at_ + p.size)))
def inStep (l : List PcD) (at_ : Int) : Nat → Int
  | 0 => -1
  | i + 1 => match l[i]? with
    | none => inStep l at_ i
    | some p => bif inB2 l.length at_ i p then (i : Int) else inStep l at_ i
def inP (l : List PcD) (at_ : Int) : Int := inStep l at_ l.length
theorem inStep_some {l : List PcD} {at_ : Int} {i : Nat} {p : PcD} (h : l[i]? = some p) : inStep l at_ (i + 1) = bif inB2 l.length at_ i p then (i : Int) else inStep l at_ i := by
  show (match l[i]? with | none => _ | some p => _) = _
  rw [h]
theorem inStep_no {l : List PcD} {at_ : Int} : ∀ k, k ≤ l.length → (∀ i p, i < k → l[i]? = some p → inB2 l.length at_ i p = false) → inStep l at_ k = -1
  | 0, _, _ => rfl
  | k + 1, hk, h => by
    have hx : l[k]? = some l[k] := List.getElem?_eq_getElem (by omega)
    rw [inStep_some hx, h k _ (by omega) hx]
    exact inStep_no k (by omega) fun i p hi hp => h i p (by omega) hp
theorem inStep_yes {l : List PcD} {at_ : Int} : ∀ k, k ≤ l.length → (∃ i p, i < k ∧ l[i]? = some p ∧ inB2 l.length at_ i p = true) → ∃ (i : Nat) (p : PcD), inStep l at_ k = (i : Int) ∧ i < k ∧ l[i]? = some p ∧ inB2 l.length at_ i p = true
  | 0, _, ⟨i, p, hi, _⟩ => absurd hi (by omega)
  | k + 1, hk, ⟨i, p, hi, hp, hb⟩ => by
    have hx : l[k]? = some l[k] := List.getElem?_eq_getElem (by omega)
    rw [inStep_some hx]
    cases hq : inB2 l.length at_ k l[k] with
    | true => exact ⟨k, l[k], rfl, by omega, hx, hq⟩
    | false =>
      have hne : i ≠ k := fun e => by
        subst e
        rw [hx] at hp
        cases hp
        rw [hq] at hb
        cases hb
      obtain ⟨j, q, h1, h2, h3⟩ := inStep_yes k (by omega) ⟨i, p, by omega, hp, hb⟩
      exact ⟨j, q, h1, by omega, h3⟩
theorem endOf_take {l : List PcD} {i : Nat} {p : PcD} (h : l[i]? = some p) : endOf (l.take (i + 1)) = endOf (l.take i) + p.size := by
  rw [List.take_add_one, h]
  exact endOf_snoc _ _
theorem endOf_find {l : List PcD} {at_ : Int} (h0 : 0 ≤ at_) : ∀ k, at_ < endOf (l.take k) → ∃ j p, l[j]? = some p ∧ endOf (l.take j) ≤ at_ ∧ at_ < endOf (l.take j) + p.size
  | 0, h => by simp [endOf] at h; omega
  | k + 1, h => by
    by_cases hk : at_ < endOf (l.take k)
    · exact endOf_find h0 k hk
    · cases hx : l[k]? with
      | none =>
        rw [List.take_add_one, hx] at h
        simp at h
        omega
      | some p => exact ⟨k, p, hx, by omega, by rw [← endOf_take hx]; exact h⟩
theorem inP_out {l : List PcD} {n at_ : Int} (hb : ∀ p ∈ l, 0 ≤ p.at_ ∧ 0 ≤ p.size ∧ p.at_ + p.size ≤ n) (h : at_ < 0 ∨ n < at_ ∨ l.length = 0) : inP l at_ = -1 := by
  refine inStep_no _ (Nat.le_refl _) fun i p hi hp => ?_
  have := hb p (List.mem_of_getElem? hp)
  unfold inB2
  rcases h with h | h | h
  · rw [decide_eq_false (by omega)]; rfl
  · rw [decide_eq_false (p := at_ < p.at_ + p.size) (by omega), show (at_ == p.at_ + p.size) = false by simp; omega]; simp
  · omega
theorem inP_in {l : List PcD} {n at_ : Int} (hc : Chain l n) (h0 : 0 ≤ at_) (h1 : at_ ≤ n) (hl : 0 < l.length) :
    ∃ (i : Nat) (p : PcD), inP l at_ = (i : Int) ∧ i < l.length ∧ l[i]? = some p ∧ p.at_ ≤ at_ ∧ (at_ < p.at_ + p.size ∨ at_ = n ∧ (i : Int) = (l.length : Int) - 1) := by
  have hex : ∃ i p, i < l.length ∧ l[i]? = some p ∧ inB2 l.length at_ i p = true := by
    by_cases hn : at_ < n
    · have hn' : at_ < endOf (l.take l.length) := by rw [List.take_length, hc.1]; exact hn
      obtain ⟨j, p, hp, g1, g2⟩ := endOf_find h0 _ hn'
      have hp2 := (hc.2 j p hp).1
      refine ⟨j, p, (List.getElem?_eq_some_iff.1 hp).1, hp, ?_⟩
      unfold inB2
      rw [decide_eq_true (show p.at_ ≤ at_ by omega), decide_eq_true (show at_ < p.at_ + p.size by omega)]
      rfl
    · have hx : l[l.length - 1]? = some l[l.length - 1] := List.getElem?_eq_getElem (by omega)
      have he := endOf_take hx
      rw [show l.length - 1 + 1 = l.length by omega, List.take_length, hc.1] at he
      have hp2 := hc.2 _ _ hx
      refine ⟨l.length - 1, _, by omega, hx, ?_⟩
      unfold inB2
      rw [decide_eq_true (by omega), show (((l.length - 1 : Nat) : Int) == (l.length : Int) - 1) = true by simp; omega, show (at_ == (l[l.length - 1]).at_ + (l[l.length - 1]).size) = true by simp; omega]
      simp
  obtain ⟨i, p, g1, g2, g3, g4⟩ := inStep_yes l.length (Nat.le_refl _) hex
  refine ⟨i, p, g1, g2, g3, ?_⟩
  unfold inB2 at g4
  rw [Bool.and_eq_true, Bool.or_eq_true, Bool.and_eq_true] at g4
  obtain ⟨x1, x2⟩ := g4
  refine ⟨of_decide_eq_true x1, ?_⟩
  rcases x2 with x2 | ⟨x2, x3⟩
  · exact .inl (of_decide_eq_true x2)
  · right
    have y2 : (i : Int) = (l.length : Int) - 1 := by simpa using x2
    have y3 : at_ = p.at_ + p.size := by simpa using x3
    have he := endOf_take g3
    rw [show i + 1 = l.length by omega, List.take_length, hc.1] at he
    have hp2 := (hc.2 i p g3).1
    exact ⟨by omega, y2⟩

/-- With more than one, each has a byte. -/
theorem pieces_some {s : SecD} : (piecesOf s).length = 1 ∨ ∀ p ∈ piecesOf s, 1 ≤ p.size := by
  cases hq : hasF s.flags 16 with
  | false => left; unfold piecesOf; rw [hq]; rfl
  | true =>
    right
    have e : piecesOf s = (pcStep (hasF s.flags 32) s.ent s.data s.data.length).1 := by unfold piecesOf; rw [hq]; rfl
    rw [e]
    intro p hp
    exact ((pcStep_inv (hasF s.flags 32) s.ent s.data s.data.length (Nat.le_refl _)).2.2.2.1 p hp).2.1

end Go.Proofs.Ytmcegjkkgbnjlaa
