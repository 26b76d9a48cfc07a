/-
  What is so of all that Load tells. Nothing here walks the program.
-/
import Derived.Test.YtjhohbgehpddpaaExecE
namespace Go.Proofs.Ytjhohbgehpddpaa
open Go.RowKit

def inS (a : Int) (s : SegD) : Bool := decide ((s.addr : Int) ≤ a) && decide (a < (s.addr : Int) + (s.size : Int))
/-- In how many of them an address is. -/
def cntS (a : Int) (l : List SegD) : Nat := (l.filter (inS a)).length
theorem cntS_snoc (a : Int) (l : List SegD) (s : SegD) : cntS a (l ++ [s]) = cntS a l + (bif inS a s then 1 else 0) := by
  unfold cntS
  rw [List.filter_append, List.length_append]
  cases h : inS a s <;> simp [h]
/-- What is so of one segment, in bytes so many. -/
def SegFit (n : Nat) (s : SegD) : Prop := (s.flags = 4 ∨ s.flags = 5 ∨ s.flags = 6) ∧ s.data.length ≤ s.size ∧ s.addr + s.size ≤ 2147483648 ∧ s.data.length ≤ n
theorem segOK_fit {l : List UInt8} {j : Nat} (h : segOK l j = true) : SegFit l.length (segD l j) := by
  unfold segOK at h
  simp only [Bool.and_eq_true, Bool.not_eq_true'] at h
  obtain ⟨_, h1, h2, _⟩ := h
  unfold sC1 at h1
  unfold sC2 at h2
  simp only [Bool.or_eq_false_iff, decide_eq_false_iff_not, Nat.not_lt] at h1 h2
  have hl : (segD l j).data.length = sV l j 3 := by
    show ((l.drop (sV l j 0)).take (sV l j 3)).length = _
    rw [List.length_take, List.length_drop]
    omega
  refine ⟨?_, ?_, ?_, ?_⟩
  · show sFlags l j = 4 ∨ sFlags l j = 5 ∨ sFlags l j = 6
    omega
  · rw [hl]; exact h2.1.1
  · exact h2.2
  · rw [hl]; omega
theorem loadGo_facts {l : List UInt8} (a : Int) : ∀ {k : Nat} {s : List SegD} {e : Nat}, loadGo l k = some (s, e) → (∀ x ∈ s, SegFit l.length x ∧ x.addr + x.size ≤ e) ∧ cntS a s ≤ 1 ∧ ((e : Int) ≤ a → cntS a s = 0)
  | 0, s, e, h => by cases h; exact ⟨fun x hx => (by cases hx), Nat.zero_le _, fun _ => rfl⟩
  | k + 1, s, e, h => by
    unfold loadGo at h
    cases hk : loadGo l k with
    | none => rw [hk] at h; cases h
    | some x =>
      obtain ⟨s0, e0⟩ := x
      rw [hk] at h
      simp only at h
      cases hb : (segOK l (64 + 56 * k) && decide (e0 ≤ (segD l (64 + 56 * k)).addr)) with
      | false => rw [hb] at h; cases h
      | true =>
        rw [hb] at h
        cases h
        rw [Bool.and_eq_true, decide_eq_true_eq] at hb
        obtain ⟨ih1, ih2, ih3⟩ := loadGo_facts a hk
        have hf := segOK_fit hb.1
        have hle := hb.2
        generalize segD l (64 + 56 * k) = S at *
        refine ⟨fun x hx => ?_, ?_, fun ha => ?_⟩
        · rcases List.mem_append.1 hx with hx | hx
          · have := ih1 x hx
            exact ⟨this.1, by omega⟩
          · obtain rfl := List.mem_singleton.1 hx
            exact ⟨hf, Nat.le_refl _⟩
        · rw [cntS_snoc]
          cases hi : inS a S with
          | false => exact ih2
          | true =>
            unfold inS at hi
            simp only [Bool.and_eq_true, decide_eq_true_eq] at hi
            rw [ih3 (by omega)]
            exact Nat.le_refl _
        · rw [cntS_snoc]
          have hi : inS a S = false := by
            unfold inS
            rw [decide_eq_false (by omega : ¬ a < (S.addr : Int) + (S.size : Int)), Bool.and_false]
          rw [hi, ih3 (by omega)]
          rfl
theorem loadO_parts {l : List UInt8} {en : Nat} {segs : List SegD} (h : loadO l = some (en, segs)) : xHeadOK l = true ∧ ∃ e, loadGo l (xMany l) = some (segs, e) ∧ segs.length = xMany l := by
  unfold loadO at h
  cases hx : xHeadOK l with
  | false => rw [hx] at h; cases h
  | true =>
    rw [hx] at h
    simp only [cond_true] at h
    cases hg : loadGo l (xMany l) with
    | none => rw [hg] at h; cases h
    | some y =>
      obtain ⟨s, e⟩ := y
      rw [hg] at h
      cases h
      exact ⟨rfl, e, rfl, loadGo_length hg⟩
theorem head_fit {l : List UInt8} (h : xHeadOK l = true) : 64 ≤ l.length ∧ xMany l ≤ 16 ∧ 64 + 56 * xMany l ≤ l.length := by
  unfold xHeadOK xFit at h
  simp only [Bool.and_eq_true, decide_eq_true_eq] at h
  omega
theorem layB_take (l : List UInt8) (at_ n : Int) (v k : Nat) (hk : (k : Int) ≤ at_) (ha : at_ ≤ l.length) : (layB l at_ n v).take k = l.take k := by
  unfold layB
  split
  · rw [List.take_append, List.take_take, Nat.min_eq_left (by omega), List.length_take, show k - min at_.toNat l.length = 0 by omega]
    simp
  · rfl
theorem str_toList (X : List UInt8) : (str X).toList = X := by rw [ByteArray.toList_eq]; rfl
theorem head_ident {l : List UInt8} (h : xHeadOK l = true) : l.take 16 = xHead.take 16 := by
  have h64 := (head_fit h).1
  unfold xHeadOK at h
  rw [Bool.and_eq_true] at h
  have h2 : xFirst l = xHead := by
    have := h.2
    rw [str_toList] at this
    exact eq_of_beq this
  have hl : (l.take 64).length = 64 := by rw [List.length_take]; omega
  rw [← h2]
  unfold xFirst
  rw [layB_take _ _ _ _ _ (by decide) (by rw [layB_length, hl]; decide), layB_take _ _ _ _ _ (by decide) (by rw [hl]; decide), List.take_take]
  rfl
/-- Cut off within the numbers of segments it is none. -/
theorem load_cut {l : List UInt8} {en : Nat} {segs : List SegD} (h : loadO l = some (en, segs)) {c : Nat} (hc : c < 64 + 56 * segs.length) : loadO (l.take c) = none := by
  obtain ⟨hx, e, hg, hs⟩ := loadO_parts h
  obtain ⟨h64, h16, hfit⟩ := head_fit hx
  have hno : xHeadOK (l.take c) = false := by
    cases hq : xHeadOK (l.take c) with
    | false => rfl
    | true =>
      obtain ⟨k64, _, kfit⟩ := head_fit hq
      have hm : xMany (l.take c) = xMany l := by
        unfold xMany win
        rw [List.length_take] at k64
        rw [List.take_take, Nat.min_eq_left (by omega)]
      rw [hm, List.length_take] at kfit
      omega
  unfold loadO
  rw [hno]
  rfl
/-- With one of the first sixteen bytes turned it is none. -/
theorem load_turned {l : List UInt8} {en : Nat} {segs : List SegD} (h : loadO l = some (en, segs)) {t : Nat} {x y : UInt8} (ht : t < 16) (hx : l[t]? = some x) (hy : y ≠ x) : loadO (l.set t y) = none := by
  obtain ⟨hh, _⟩ := loadO_parts h
  have hi := head_ident hh
  have hno : xHeadOK (l.set t y) = false := by
    cases hq : xHeadOK (l.set t y) with
    | false => rfl
    | true =>
      have hi2 := head_ident hq
      rw [← hi] at hi2
      have := congrArg (·[t]?) hi2
      simp only [List.getElem?_take, if_pos ht] at this
      rw [List.getElem?_set_self (List.getElem?_eq_some_iff.1 hx).1, hx] at this
      exact absurd (Option.some.inj this) hy
  unfold loadO
  rw [hno]
  rfl
end Go.Proofs.Ytjhohbgehpddpaa
