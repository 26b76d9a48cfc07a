/-
  Words on patterns of names: which bytes fit which pattern. Nothing here speaks of the program.
-/
import Derived.Test.YtnhhmfgneipneaaDoorWords
namespace Go.Proofs.YtnhhmfgneipneaaDoor
open Go.RowKit

/-- s fits the pattern p: * any bytes, ? any one, any other byte itself. -/
inductive Fit : List UInt8 → List UInt8 → Prop
  | nil : Fit [] []
  | star0 {p s} : Fit p s → Fit (42 :: p) s
  | star1 {p s x} : Fit (42 :: p) s → Fit (42 :: p) (x :: s)
  | one {c p x s} : c ≠ 42 → (c = 63 ∨ c = x) → Fit p s → Fit (c :: p) (x :: s)

/-- The row of a * : it fits a beginning that the rest fits, and more. -/
def starRow (row : List UInt8 → Bool) : List UInt8 → Bool
  | [] => row []
  | x :: s => row (x :: s) || starRow row s
def fitR : List UInt8 → List UInt8 → Bool
  | [] => fun s => s.isEmpty
  | c :: p => fun s => if c = 42 then starRow (fitR p) s else match s with
    | [] => false
    | x :: s' => fitR p s' && (c == 63 || c == x)
theorem fitR_star0 (p : List UInt8) : fitR (42 :: p) [] = fitR p [] := rfl
theorem fitR_star1 (p : List UInt8) (x : UInt8) (s : List UInt8) : fitR (42 :: p) (x :: s) = (fitR p (x :: s) || fitR (42 :: p) s) := rfl
theorem fitR_one0 {c : UInt8} (p : List UInt8) (h : c ≠ 42) : fitR (c :: p) [] = false := by simp only [fitR, if_neg h]
theorem fitR_one1 {c : UInt8} (p : List UInt8) (x : UInt8) (s : List UInt8) (h : c ≠ 42) : fitR (c :: p) (x :: s) = (fitR p s && (c == 63 || c == x)) := by simp only [fitR, if_neg h]

theorem fitR_iff : ∀ (p s : List UInt8), fitR p s = true ↔ Fit p s := by
  intro p
  induction p with
  | nil =>
    intro s
    cases s with
    | nil => exact ⟨fun _ => .nil, fun _ => rfl⟩
    | cons x s => exact ⟨fun h => by simp [fitR] at h, fun h => by cases h⟩
  | cons c p ih =>
    by_cases hc : c = 42
    · subst hc
      intro s
      induction s with
      | nil =>
        rw [fitR_star0, ih]
        constructor
        · exact fun h => .star0 h
        · intro h
          cases h with
          | star0 h => exact h
      | cons x s ihs =>
        rw [fitR_star1, Bool.or_eq_true, ih, ihs]
        constructor
        · rintro (h | h)
          · exact .star0 h
          · exact .star1 h
        · intro h
          cases h with
          | star0 h => exact .inl h
          | star1 h => exact .inr h
          | one h1 _ _ => exact absurd rfl h1
    · intro s
      cases s with
      | nil =>
        rw [fitR_one0 p hc]
        constructor
        · intro h; cases h
        · intro h
          cases h with
          | star0 h => exact absurd rfl hc
      | cons x s =>
        rw [fitR_one1 p x s hc, Bool.and_eq_true, ih, Bool.or_eq_true, beq_iff_eq, beq_iff_eq]
        constructor
        · rintro ⟨h, h2⟩
          exact .one hc h2 h
        · intro h
          cases h with
          | star0 _ => exact absurd rfl hc
          | star1 _ => exact absurd rfl hc
          | one _ h2 h => exact ⟨h, h2⟩

theorem Fit.star_all : ∀ s : List UInt8, Fit [42] s
  | [] => .star0 .nil
  | _ :: s => .star1 (Fit.star_all s)
theorem Fit.star_more {p : List UInt8} : ∀ (t : List UInt8) {s : List UInt8}, Fit (42 :: p) s → Fit (42 :: p) (t ++ s)
  | [], _, h => h
  | _ :: t, _, h => .star1 (Fit.star_more t h)
theorem Fit.append {p s : List UInt8} (h : Fit p s) {q t : List UInt8} (k : Fit q t) : Fit (p ++ q) (s ++ t) := by
  induction h with
  | nil => exact k
  | star0 _ ih => exact .star0 ih
  | star1 _ ih => exact .star1 ih
  | one h1 h2 _ ih => exact .one h1 h2 ih
theorem Fit.parts : ∀ {p : List UInt8} {q s : List UInt8}, Fit (p ++ q) s → ∃ a b, s = a ++ b ∧ Fit p a ∧ Fit q b := by
  intro p q s h
  generalize hr : p ++ q = r at h
  induction h generalizing p with
  | nil =>
    obtain ⟨rfl, rfl⟩ := List.append_eq_nil_iff.1 hr
    exact ⟨[], [], rfl, .nil, .nil⟩
  | @star0 r s h ih =>
    cases p with
    | nil => simp at hr; subst hr; exact ⟨[], s, rfl, .nil, .star0 h⟩
    | cons c p =>
      simp only [List.cons_append, List.cons.injEq] at hr
      obtain ⟨rfl, hr⟩ := hr
      obtain ⟨a, b, e, h1, h2⟩ := ih hr
      exact ⟨a, b, e, .star0 h1, h2⟩
  | @star1 r s x h ih =>
    cases p with
    | nil => simp at hr; subst hr; exact ⟨[], x :: s, rfl, .nil, .star1 h⟩
    | cons c p =>
      obtain ⟨a, b, e, h1, h2⟩ := ih hr
      simp only [List.cons_append, List.cons.injEq] at hr
      obtain ⟨rfl, _⟩ := hr
      exact ⟨x :: a, b, by rw [e]; rfl, .star1 h1, h2⟩
  | @one c r x s hc hx h ih =>
    cases p with
    | nil => simp at hr; subst hr; exact ⟨[], x :: s, rfl, .nil, .one hc hx h⟩
    | cons d p =>
      simp only [List.cons_append, List.cons.injEq] at hr
      obtain ⟨rfl, hr⟩ := hr
      obtain ⟨a, b, e, h1, h2⟩ := ih hr
      exact ⟨x :: a, b, by rw [e]; rfl, .one hc hx h1, h2⟩
theorem Fit.back {p s : List UInt8} (h : Fit p s) : Fit p.reverse s.reverse := by
  induction h with
  | nil => exact .nil
  | @star0 p s _ ih =>
    rw [List.reverse_cons, ← List.append_nil s.reverse]
    exact ih.append (.star0 .nil)
  | @star1 p s x _ ih =>
    rw [List.reverse_cons] at ih ⊢
    rw [List.reverse_cons]
    obtain ⟨a, b, e, h1, h2⟩ := ih.parts
    rw [e, List.append_assoc]
    exact h1.append (Fit.star_all _)
  | @one c p x s hc hx _ ih =>
    rw [List.reverse_cons, List.reverse_cons]
    exact ih.append (.one hc hx .nil)
theorem fitR_back (p s : List UInt8) : fitR p.reverse s.reverse = fitR p s := by
  rw [Bool.eq_iff_iff, fitR_iff, fitR_iff]
  exact ⟨fun h => by simpa using h.back, fun h => h.back⟩

/-- Does the beginning of i bytes of the pattern fit the name's of k? -/
def cellB (p s : List UInt8) (i k : Nat) : Bool := fitR (p.take i).reverse (s.take k).reverse
theorem cellB_all (p s : List UInt8) (i k : Nat) (hi : p.length ≤ i) (hk : s.length ≤ k) : cellB p s i k = fitR p s := by
  unfold cellB
  rw [List.take_of_length_le hi, List.take_of_length_le hk, fitR_back]
theorem cellB_00 (p s : List UInt8) : cellB p s 0 0 = true := rfl
theorem take_rev {s : List UInt8} {k : Nat} {x : UInt8} (h : s[k]? = some x) : (s.take (k + 1)).reverse = x :: (s.take k).reverse := by
  rw [List.take_add_one, h]
  simp
theorem cellB_0k (p s : List UInt8) (k : Nat) (hk : k < s.length) : cellB p s 0 (k + 1) = false := by
  unfold cellB
  rw [take_rev (List.getElem?_eq_getElem hk)]
  rfl
theorem cellB_i0 {p : List UInt8} {i : Nat} {c : UInt8} (s : List UInt8) (h : p[i]? = some c) : cellB p s (i + 1) 0 = (cellB p s i 0 && (c == 42)) := by
  unfold cellB
  rw [take_rev h]
  by_cases hc : c = 42
  · subst hc
    rw [List.take_zero, List.reverse_nil, fitR_star0]
    simp
  · rw [List.take_zero, List.reverse_nil, fitR_one0 _ hc]
    simp [hc]
theorem cellB_star {p s : List UInt8} {i k : Nat} {x : UInt8} (h : p[i]? = some 42) (hx : s[k]? = some x) : cellB p s (i + 1) (k + 1) = (cellB p s i (k + 1) || cellB p s (i + 1) k) := by
  unfold cellB
  rw [take_rev h, take_rev hx, fitR_star1]
theorem cellB_one {p s : List UInt8} {i k : Nat} {c x : UInt8} (h : p[i]? = some c) (hc : c ≠ 42) (hx : s[k]? = some x) : cellB p s (i + 1) (k + 1) = (cellB p s i k && (c == 63 || c == x)) := by
  unfold cellB
  rw [take_rev h, take_rev hx, fitR_one1 _ _ _ hc]

/-! ## What the second law says -/
theorem fit_plain {p s : List UInt8} (hp : ∀ c ∈ p, c ≠ 42 ∧ c ≠ 63) : fitR p s = decide (p = s) := by
  have : Fit p s ↔ p = s := by
    constructor
    · intro h
      induction h with
      | nil => rfl
      | star0 _ _ => exact absurd rfl (hp 42 (by simp)).1
      | star1 _ _ => exact absurd rfl (hp 42 (by simp)).1
      | @one c p x s _ h2 _ ih =>
        have h63 := (hp c (by simp)).2
        rw [ih fun d hd => hp d (by simp [hd]), h2.resolve_left h63]
    · rintro rfl
      induction p with
      | nil => exact .nil
      | cons c p ih => exact .one (hp c (by simp)).1 (.inr rfl) (ih fun d hd => hp d (by simp [hd]))
  rw [Bool.eq_iff_iff, fitR_iff, this, decide_eq_true_iff]
theorem fit_star (s : List UInt8) : fitR [42] s = true := (fitR_iff _ _).2 (Fit.star_all s)
theorem fit_ask (s : List UInt8) : fitR [63] s = decide (s.length = 1) := by
  rw [Bool.eq_iff_iff, decide_eq_true_iff, fitR_iff]
  constructor
  · intro h
    cases h with
    | one _ _ h => cases h; rfl
  · intro h
    match s, h with
    | [x], _ => exact .one (by decide) (.inl rfl) .nil
theorem fit_nil (s : List UInt8) : fitR [] s = decide (s = []) := by
  cases s <;> simp [fitR]
theorem fit_ahead {p s : List UInt8} (t : List UInt8) (h : fitR p s = true) : fitR (42 :: p) (t ++ s) = true := (fitR_iff _ _).2 (Fit.append (Fit.star_all t) ((fitR_iff _ _).1 h))
theorem fit_behind {p s : List UInt8} (t : List UInt8) (h : fitR p s = true) : fitR (p ++ [42]) (s ++ t) = true := (fitR_iff _ _).2 (Fit.append ((fitR_iff _ _).1 h) (Fit.star_all t))
theorem fit_both {p s q t : List UInt8} (h : fitR p s = true) (k : fitR q t = true) : fitR (p ++ q) (s ++ t) = true := (fitR_iff _ _).2 (Fit.append ((fitR_iff _ _).1 h) ((fitR_iff _ _).1 k))

end Go.Proofs.YtnhhmfgneipneaaDoor
