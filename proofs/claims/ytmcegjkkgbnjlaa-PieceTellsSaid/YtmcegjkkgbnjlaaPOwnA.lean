/-
  The project's way of the pieces of a section, and of the piece in which a place is: what is so of it. Nothing here walks the program.
-/
import Derived.Test.YtmcegjkkgbnjlaaPieceSpec
import Derived.Laws.OwnMore
namespace Go.Proofs.Ytmcegjkkgbnjlaa
open Go.RowKit

/-! ## Strings -/
theorem pcStep_stay {ent : Int} {d : List UInt8} {a : Nat} {l : List PcD} (h : pcStep true ent d a = (l, a)) : ∀ n, (∀ j x, a ≤ j → j < a + n → d[j]? = some x → x ≠ 0) → pcStep true ent d (a + n) = (l, a)
  | 0, _ => h
  | n + 1, hz => by
    have ih := pcStep_stay h n fun j x h1 h2 h3 => hz j x h1 (by omega) h3
    cases hx : d[a + n]? with
    | none =>
      show (match d[a + n]? with | none => _ | some x => _) = _
      rw [hx]
      exact ih
    | some x =>
      refine pcStep_no ih hx ?_
      have := hz _ x (by omega) (by omega) hx
      show (x == 0) = false
      simpa using this
theorem pcStep_zero {ent : Int} {d : List UInt8} {a k : Nat} {l : List PcD} (h : pcStep true ent d a = (l, a)) (hz : ∀ (i : Nat) (y : UInt8), i < k → (d.drop a)[i]? = some y → y ≠ 0) (h0 : (d.drop a)[k]? = some 0) :
    pcStep true ent d (a + (k + 1)) = (l ++ [⟨(a : Int), (k : Int) + 1⟩], a + (k + 1)) := by
  rw [List.getElem?_drop] at h0
  have := pcStep_yes (pcStep_stay h k fun j x h1 h2 h3 => hz (j - a) x (by omega) (by rw [List.getElem?_drop, show a + (j - a) = j by omega]; exact h3)) h0 rfl
  rw [show ((a + k : Nat) : Int) + 1 - (a : Int) = (k : Int) + 1 by omega] at this
  exact this
theorem pcStep_end {ent : Int} {d : List UInt8} {a : Nat} {l : List PcD} (h : pcStep true ent d a = (l, a)) (ha : a ≤ d.length) (hz : ∀ (i : Nat) (y : UInt8), (d.drop a)[i]? = some y → y ≠ 0) : (pcStep true ent d d.length).1 = l := by
  have := pcStep_stay h (d.length - a) fun j x h1 h2 h3 => hz (j - a) x (by rw [List.getElem?_drop, show a + (j - a) = j by omega]; exact h3)
  rw [show a + (d.length - a) = d.length by omega] at this
  rw [this]

/-! ## Entries -/
def entPcs (ent m : Nat) : List PcD := (List.range m).map fun i => ⟨((i * ent : Nat) : Int), (ent : Int)⟩
theorem entPcs_length (ent m : Nat) : (entPcs ent m).length = m := by simp [entPcs]
theorem entPcs_succ (ent m : Nat) : entPcs ent (m + 1) = entPcs ent m ++ [⟨((m * ent : Nat) : Int), (ent : Int)⟩] := by simp [entPcs, List.range_succ]
theorem pcStep_stayE {ent a : Nat} {d : List UInt8} {l : List PcD} (h : pcStep false (ent : Int) d a = (l, a)) : ∀ n, n < ent → pcStep false (ent : Int) d (a + n) = (l, a)
  | 0, _ => h
  | n + 1, hn => by
    have ih := pcStep_stayE h n (by omega)
    cases hx : d[a + n]? with
    | none =>
      show (match d[a + n]? with | none => _ | some x => _) = _
      rw [hx]
      exact ih
    | some x =>
      refine pcStep_no ih hx ?_
      show ((((a + n : Nat) : Int) + 1 - (a : Int)) == (ent : Int)) = false
      simp
      omega
theorem pcStep_ent {ent : Nat} (h1 : 1 ≤ ent) {d : List UInt8} : ∀ m, m * ent ≤ d.length → pcStep false (ent : Int) d (m * ent) = (entPcs ent m, m * ent)
  | 0, _ => by rw [Nat.zero_mul]; rfl
  | m + 1, hm => by
    rw [Nat.succ_mul] at hm
    have ih := pcStep_stayE (pcStep_ent (d := d) h1 m (by omega)) (ent - 1) (by omega)
    have hx : d[m * ent + (ent - 1)]? = some d[m * ent + (ent - 1)] := List.getElem?_eq_getElem (by omega)
    have := pcStep_yes ih hx (by
      show ((((m * ent + (ent - 1) : Nat) : Int) + 1 - ((m * ent : Nat) : Int)) == (ent : Int)) = true
      simp
      omega)
    rw [show m * ent + (ent - 1) + 1 = (m + 1) * ent by rw [Nat.succ_mul]; omega, show ((m * ent + (ent - 1) : Nat) : Int) + 1 - ((m * ent : Nat) : Int) = (ent : Int) by omega] at this
    rw [this, entPcs_succ]
/-- The row of pieces behind k rounds. -/
def rowP (ent m k : Nat) : List Value := pcV (entPcs ent k) ++ List.replicate ((m - k) * 2) (.int .i64 0)
theorem rowP_length {ent m k : Nat} (hk : k ≤ m) : (rowP ent m k).length = m * 2 := by
  simp [rowP, pcV_length, entPcs_length]
  omega
theorem rowP_full (ent m : Nat) : rowP ent m m = pcV (entPcs ent m) := by simp [rowP]
theorem rowP_zero (ent m : Nat) : rowP ent m 0 = List.replicate (m * 2) (.int .i64 0) := by simp [rowP, entPcs, pcV]
theorem rowP_step {ent m k : Nat} (hk : k < m) : ((rowP ent m k).set (k * 2) (.int .i64 ((k * ent : Nat) : Int))).set (k * 2 + 1) (.int .i64 (ent : Int)) = rowP ent m (k + 1) := by
  have hl : (pcV (entPcs ent k)).length = k * 2 := by rw [pcV_length, entPcs_length]
  unfold rowP
  rw [entPcs_succ, pcV_append, List.set_append_right _ _ (by omega), hl, Nat.sub_self, show (m - k) * 2 = (m - (k + 1)) * 2 + 1 + 1 by omega, List.replicate_succ, List.replicate_succ, List.set_cons_zero,
    List.set_append_right _ _ (by omega), hl, show k * 2 + 1 - k * 2 = 1 by omega, List.set_cons_succ, List.set_cons_zero, List.append_assoc]
  rfl
theorem madeCells_two (m : Nat) : (madeCells #[.int .i64 0, .int .i64 0] (m * 2)).toList = List.replicate (m * 2) (Value.int .i64 0) := by
  apply List.ext_getElem?
  intro j
  by_cases hj : j < m * 2
  · have : j % 2 = 0 ∨ j % 2 = 1 := by omega
    rcases this with h | h <;> simp [madeCells, hj, h]
  · simp [madeCells, hj]

/-! ## In which piece a place is -/
theorem endOf_le {l : List PcD} (h : ∀ p ∈ l, 0 ≤ p.size) (i : Nat) : ∀ j, i ≤ j → endOf (l.take i) ≤ endOf (l.take j)
  | 0, hj => by
    obtain rfl : i = 0 := by omega
    exact Int.le_refl _
  | j + 1, hj => by
    by_cases hij : i = j + 1
    · subst hij; exact Int.le_refl _
    · have ih := endOf_le h i j (by omega)
      cases hx : l[j]? with
      | none => rw [List.take_add_one, hx]; simpa using ih
      | some p =>
        rw [endOf_take hx]
        have := h p (List.mem_of_getElem? hx)
        omega
theorem find_cut {l : List PcD} {n at_ : Int} (hc : Chain l n) (hb : ∀ p ∈ l, 0 ≤ p.at_ ∧ 0 ≤ p.size ∧ p.at_ + p.size ≤ n) :
    ∃ k : Nat, k ≤ l.length ∧ (∀ (j : Nat) p, l[j]? = some p → decide (at_ < p.at_ + p.size) = decide (k ≤ j)) ∧
    ((∃ p, l[k]? = some p ∧ p.at_ ≤ at_ ∧ inP l at_ = (k : Int)) ∨
      ((∀ p, l[k]? = some p → ¬ p.at_ ≤ at_) ∧
        ((∃ p, l[l.length - 1]? = some p ∧ at_ = p.at_ + p.size ∧ inP l at_ = (l.length : Int) - 1) ∨
         ((∀ p, l[l.length - 1]? = some p → at_ ≠ p.at_ + p.size) ∧ inP l at_ = -1)))) := by
  have hbs : ∀ p ∈ l, 0 ≤ p.size := fun p hp => (hb p hp).2.1
  by_cases hl : l.length = 0
  · have hn : ∀ (j : Nat) p, l[j]? = some p → False := fun j p hp => by have := (List.getElem?_eq_some_iff.1 hp).1; omega
    exact ⟨0, Nat.zero_le _, fun j p hp => (hn j p hp).elim, .inr ⟨fun p hp => (hn _ p hp).elim, .inr ⟨fun p hp => (hn _ p hp).elim, inP_out hb (.inr (.inr hl))⟩⟩⟩
  by_cases h0 : at_ < 0
  · refine ⟨0, Nat.zero_le _, fun j p hp => ?_, .inr ⟨fun p hp => ?_, .inr ⟨fun p hp => ?_, inP_out hb (.inl h0)⟩⟩⟩ <;> have := hb p (List.mem_of_getElem? hp)
    · rw [decide_eq_true (show at_ < p.at_ + p.size by omega), decide_eq_true (Nat.zero_le j)]
    · omega
    · omega
  by_cases h1 : n < at_
  · refine ⟨l.length, Nat.le_refl _, fun j p hp => ?_, .inr ⟨fun p hp => ?_, .inr ⟨fun p hp => ?_, inP_out hb (.inr (.inl h1))⟩⟩⟩ <;> have := hb p (List.mem_of_getElem? hp) <;> have hj := (List.getElem?_eq_some_iff.1 hp).1
    · rw [decide_eq_false (show ¬ at_ < p.at_ + p.size by omega), decide_eq_false (show ¬ l.length ≤ j by omega)]
    · omega
    · omega
  obtain ⟨i, p, g1, g2, g3, g4, g5⟩ := inP_in hc (by omega) (by omega : at_ ≤ n) (by omega)
  have hpi := (hc.2 i p g3).1
  have hpe := endOf_take g3
  by_cases h2 : at_ < p.at_ + p.size
  · refine ⟨i, by omega, fun j q hq => ?_, .inl ⟨p, g3, g4, g1⟩⟩
    have hqi := (hc.2 j q hq).1
    have hqe := endOf_take hq
    by_cases hij : i ≤ j
    · have := endOf_le hbs (i + 1) (j + 1) (by omega)
      rw [decide_eq_true (show at_ < q.at_ + q.size by omega), decide_eq_true hij]
    · have := endOf_le hbs (j + 1) i (by omega)
      rw [decide_eq_false (show ¬ at_ < q.at_ + q.size by omega), decide_eq_false hij]
  · obtain ⟨e1, e2⟩ : at_ = n ∧ (i : Int) = (l.length : Int) - 1 := by
      rcases g5 with g5 | g5
      · exact absurd g5 h2
      · exact g5
    have e3 : i = l.length - 1 := by omega
    have hn : endOf (l.take (i + 1)) = n := by rw [show i + 1 = l.length by omega, List.take_length, hc.1]
    refine ⟨l.length, Nat.le_refl _, fun j q hq => ?_, .inr ⟨fun q hq => ?_, .inl ⟨p, by rw [← e3]; exact g3, by omega, by omega⟩⟩⟩
    · have hj := (List.getElem?_eq_some_iff.1 hq).1
      have := hb q (List.mem_of_getElem? hq)
      rw [decide_eq_false (show ¬ at_ < q.at_ + q.size by omega), decide_eq_false (show ¬ l.length ≤ j by omega)]
    · have hj := (List.getElem?_eq_some_iff.1 hq).1
      omega

end Go.Proofs.Ytmcegjkkgbnjlaa
