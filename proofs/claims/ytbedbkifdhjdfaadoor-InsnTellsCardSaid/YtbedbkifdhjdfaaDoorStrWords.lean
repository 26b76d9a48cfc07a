/-
  Tables of names: what the document's own functions tell, as functions on lists of bytes. Nothing here speaks of the program.
-/
import Derived.Test.YtbedbkifdhjdfaaDoorWords
namespace Go.Proofs.YtbedbkifdhjdfaaDoor
open Go.RowKit

abbrev Nm := List UInt8

/-- May the bytes be a name? -/
def mayB (l : Nm) : Bool := decide (l.length ≤ 32) && l.all (fun x => x != 0)

/-- The name with which the bytes begin. -/
def nameB (l : List UInt8) : Option Nm :=
  if (l.takeWhile fun x => x != 0).length < l.length ∧ (l.takeWhile fun x => x != 0).length ≤ 32 then some (l.takeWhile fun x => x != 0) else none

theorem takeWhile_hit : ∀ (k : Nat) (l : List UInt8), (∀ i y, i < k → l[i]? = some y → y ≠ 0) → l[k]? = some 0 → (l.takeWhile fun x => x != 0) = l.take k
  | _, [], _, h => by simp at h
  | 0, x :: r, _, h => by
    simp at h
    subst h
    simp
  | k + 1, x :: r, hb, h => by
    have hx := hb 0 x (by omega) rfl
    have ih := takeWhile_hit k r (fun i y hi hy => hb (i + 1) y (by omega) (by simpa using hy)) (by simpa using h)
    simp [hx, ih]
theorem takeWhile_long : ∀ (k : Nat) (l : List UInt8), (∀ i y, i < k → l[i]? = some y → y ≠ 0) → k ≤ l.length → k ≤ (l.takeWhile fun x => x != 0).length
  | 0, _, _, _ => Nat.zero_le _
  | _ + 1, [], _, h => by simp at h
  | k + 1, x :: r, hb, h => by
    have hx := hb 0 x (by omega) rfl
    have ih := takeWhile_long k r (fun i y hi hy => hb (i + 1) y (by omega) (by simpa using hy)) (by simpa using h)
    simp [hx, ih]
theorem takeWhile_le (l : List UInt8) : (l.takeWhile fun x => x != 0).length ≤ l.length := (List.takeWhile_sublist _).length_le

/-- k bytes that are not 0, then a 0: that is the name. -/
theorem nameB_hit {k : Nat} {l : List UInt8} (hb : ∀ i y, i < k → l[i]? = some y → y ≠ 0) (h : l[k]? = some 0) (hk : k ≤ 32) : nameB l = some (l.take k) := by
  have hl : k < l.length := (List.getElem?_eq_some_iff.1 h).1
  unfold nameB
  rw [takeWhile_hit k l hb h, List.length_take, Nat.min_eq_left (by omega), if_pos ⟨hl, hk⟩]
/-- No 0 at all, or none among the first 33. -/
theorem nameB_miss {k : Nat} {l : List UInt8} (hb : ∀ i y, i < k → l[i]? = some y → y ≠ 0) (h : k = l.length ∨ 32 < k ∧ k ≤ l.length) : nameB l = none := by
  have h1 := takeWhile_long k l hb (by omega)
  have h2 := takeWhile_le l
  unfold nameB
  rw [if_neg (by omega)]

/-! ## The table -/
/-- Where a name stands, as far as the table has it. -/
def look (e : List (Nm × Nat)) (n : Nm) : Option Nat := (e.find? fun x => x.1 == n).map (·.2)
/-- The table, and who stands in it. -/
structure Tab where
  tb : List UInt8
  env : List (Nm × Nat)
def tab0 : Tab := ⟨[0], [([], 0)]⟩
def tabStep (t : Tab) (n : Nm) : Tab :=
  match look t.env n with
  | some _ => t
  | none => ⟨t.tb ++ (n ++ [0]), t.env ++ [(n, t.tb.length)]⟩
def tabOf (ns : List Nm) : Tab := ns.foldl tabStep tab0
def placeOf (ns : List Nm) (n : Nm) : Nat := (look (tabOf ns).env n).getD 0
/-- The places of the names. -/
def placesOf (ns : List Nm) : List Nat := ns.map (placeOf ns)

theorem tabOf_snoc (ns : List Nm) (n : Nm) : tabOf (ns ++ [n]) = tabStep (tabOf ns) n := by simp [tabOf]
theorem look_append (e f : List (Nm × Nat)) (n : Nm) : look (e ++ f) n = (look e n).or (look f n) := by
  unfold look
  rw [List.find?_append]
  cases List.find? (fun x => x.1 == n) e <;> simp
theorem look_step_some {t : Tab} {n m : Nm} {p : Nat} (h : look t.env m = some p) : look (tabStep t n).env m = some p := by
  unfold tabStep
  split
  · exact h
  · simp only [look_append, h, Option.some_or]
theorem look_step_self (t : Tab) (n : Nm) : look (tabStep t n).env n = some ((look t.env n).getD t.tb.length) := by
  unfold tabStep
  split
  · rename_i p hp
    rw [hp]
    rfl
  · rename_i hp
    simp only [look_append, hp, Option.none_or]
    simp [look]
theorem look_step_none {t : Tab} {n m : Nm} (h : look (tabStep t n).env m = none) : look t.env m = none ∧ m ≠ n := by
  constructor
  · cases hl : look t.env m with
    | none => rfl
    | some p => rw [look_step_some hl] at h; cases h
  · intro e
    subst e
    rw [look_step_self] at h
    cases h
theorem look_step_other {t : Tab} {n m : Nm} (hm : m ≠ n) : look (tabStep t n).env m = look t.env m := by
  unfold tabStep
  split
  · rfl
  · rw [look_append]
    have : look [(n, t.tb.length)] m = none := by
      have : (n == m) = false := by simpa using Ne.symm hm
      simp [look, List.find?, this]
    rw [this, Option.or_none]

theorem snoc_ind {α : Type} {P : List α → Prop} (h0 : P []) (hs : ∀ l x, P l → P (l ++ [x])) (l : List α) : P l := by
  have h : ∀ r : List α, P r.reverse := fun r => by
    induction r with
    | nil => exact h0
    | cons x r ih => rw [List.reverse_cons]; exact hs _ _ ih
  simpa using h l.reverse

/-- Who has a place: the empty name, and who was handed in. -/
theorem look_iff (ns : List Nm) (m : Nm) : look (tabOf ns).env m = none ↔ m ≠ [] ∧ m ∉ ns := by
  induction ns using snoc_ind with
  | h0 =>
    cases m with
    | nil => simp [tabOf, tab0, look]
    | cons x r => simp [tabOf, tab0, look, List.find?]
  | hs ns n ih =>
    rw [tabOf_snoc]
    by_cases hm : m = n
    · subst hm
      rw [look_step_self]
      simp
    · rw [look_step_other hm, ih]
      simp [hm]
theorem look_mem {ns : List Nm} {m : Nm} (h : m = [] ∨ m ∈ ns) : ∃ p, look (tabOf ns).env m = some p := by
  cases hl : look (tabOf ns).env m with
  | some p => exact ⟨p, rfl⟩
  | none =>
    have := (look_iff ns m).1 hl
    rcases h with h | h
    · exact absurd h this.1
    · exact absurd h this.2
theorem placeOf_old {ns : List Nm} {m : Nm} (n : Nm) (h : m = [] ∨ m ∈ ns) : placeOf (ns ++ [n]) m = placeOf ns m := by
  obtain ⟨p, hp⟩ := look_mem h
  unfold placeOf
  rw [tabOf_snoc, look_step_some hp, hp]
theorem placesOf_snoc (ns : List Nm) (n : Nm) : placesOf (ns ++ [n]) = placesOf ns ++ [placeOf (ns ++ [n]) n] := by
  unfold placesOf
  rw [List.map_append]
  congr 1
  exact List.map_congr_left fun m hm => placeOf_old n (.inr hm)
/-- An old name. -/
theorem tab_old {ns : List Nm} {n : Nm} (h : n = [] ∨ n ∈ ns) : tabOf (ns ++ [n]) = tabOf ns ∧ placeOf (ns ++ [n]) n = placeOf ns n := by
  obtain ⟨p, hp⟩ := look_mem h
  refine ⟨?_, placeOf_old n h⟩
  rw [tabOf_snoc]
  simp only [tabStep, hp]
/-- A new name. -/
theorem tab_new {ns : List Nm} {n : Nm} (h0 : n ≠ []) (h : n ∉ ns) : (tabOf (ns ++ [n])).tb = (tabOf ns).tb ++ (n ++ [0]) ∧ placeOf (ns ++ [n]) n = (tabOf ns).tb.length := by
  have hp := (look_iff ns n).2 ⟨h0, h⟩
  constructor
  · rw [tabOf_snoc]
    simp only [tabStep, hp]
  · unfold placeOf
    rw [tabOf_snoc, look_step_self, hp]
    rfl
theorem placeOf_nil (ns : List Nm) : placeOf ns [] = 0 := by
  induction ns using snoc_ind with
  | h0 => rfl
  | hs ns n ih => rw [placeOf_old n (.inl rfl), ih]

/-- Each name stands at its place, a 0 behind it. -/
theorem stands (ns : List Nm) (m : Nm) (h : m = [] ∨ m ∈ ns) : ∃ r, (tabOf ns).tb.drop (placeOf ns m) = m ++ 0 :: r := by
  induction ns using snoc_ind with
  | h0 =>
    rcases h with rfl | h
    · exact ⟨[], rfl⟩
    · simp at h
  | hs ns n ih =>
    by_cases ho : m = [] ∨ m ∈ ns
    · obtain ⟨r, hr⟩ := ih ho
      rw [placeOf_old n ho]
      have hl : placeOf ns m < (tabOf ns).tb.length := by
        have := congrArg List.length hr
        simp at this
        omega
      by_cases hn : n = [] ∨ n ∈ ns
      · rw [(tab_old hn).1]
        exact ⟨r, hr⟩
      · obtain ⟨h1, h2⟩ := not_or.1 hn
        rw [(tab_new h1 h2).1, List.drop_append_of_le_length (by omega), hr]
        exact ⟨r ++ (n ++ [0]), by simp⟩
    · obtain ⟨h1, h2⟩ := not_or.1 ho
      have hmn : m = n := by
        rcases h with h | h
        · exact absurd h h1
        · rcases List.mem_append.1 h with h | h
          · exact absurd h h2
          · simpa using h
      subst hmn
      rw [(tab_new h1 h2).1, (tab_new h1 h2).2, List.drop_left]
      exact ⟨[], rfl⟩
theorem all_ne {n : Nm} (h : mayB n = true) : n.length ≤ 32 ∧ ∀ x ∈ n, x ≠ 0 := by
  simp only [mayB, Bool.and_eq_true, decide_eq_true_eq, List.all_eq_true, bne_iff_ne] at h
  exact h
theorem nameB_stands {n : Nm} {r : List UInt8} (h : mayB n = true) : nameB (n ++ 0 :: r) = some n := by
  obtain ⟨h1, h2⟩ := all_ne h
  have := nameB_hit (k := n.length) (l := n ++ 0 :: r) (fun i y hi hy => by
    rw [List.getElem?_append_left hi] at hy
    exact h2 y (List.mem_of_getElem? hy)) (by simp) h1
  rw [this, List.take_left]
/-- The table's length: a 0, and of each new name its bytes and a 0. -/
theorem tab_length (ns : List Nm) : (tabOf ns).tb.length ≤ 33 * ns.length + 1 ∨ ∃ n ∈ ns, mayB n = false := by
  induction ns using snoc_ind with
  | h0 => exact .inl (Nat.le_refl _)
  | hs ns n ih =>
    rcases ih with ih | ⟨m, hm, h⟩
    · cases hn : mayB n with
      | false => exact .inr ⟨n, by simp, hn⟩
      | true =>
        have h32 := (all_ne hn).1
        by_cases ho : n = [] ∨ n ∈ ns
        · rw [(tab_old ho).1]
          exact .inl (by simp; omega)
        · obtain ⟨h1, h2⟩ := not_or.1 ho
          rw [(tab_new h1 h2).1]
          exact .inl (by simp; omega)
    · exact .inr ⟨m, by simp [hm], h⟩

end Go.Proofs.YtbedbkifdhjdfaaDoor
