/-
  Patterns, told by going back to the last * alone: what holds at each step of that way. Nothing here speaks of the program.
-/
import Derived.Test.YtnhhmfgneipneaaDoorGlobWords
namespace Go.Proofs.YtnhhmfgneipneaaDoor
open Go.RowKit

/-- Signs without a *, each of which fits the byte that stands against it. -/
inductive Each : List UInt8 → List UInt8 → Prop
  | nil : Each [] []
  | cons {c p x s} : c ≠ 42 → (c = 63 ∨ c = x) → Each p s → Each (c :: p) (x :: s)
theorem Each.snoc {p s : List UInt8} {c x : UInt8} (h : Each p s) (h1 : c ≠ 42) (h2 : c = 63 ∨ c = x) : Each (p ++ [c]) (s ++ [x]) := by
  induction h with
  | nil => exact .cons h1 h2 .nil
  | cons a b _ ih => exact .cons a b ih
theorem Each.length {p s : List UInt8} (h : Each p s) : p.length = s.length := by
  induction h with
  | nil => rfl
  | cons _ _ _ ih => simp [ih]
theorem Each.fit {p s : List UInt8} (h : Each p s) (q t : List UInt8) : Fit (p ++ q) (s ++ t) ↔ Fit q t := by
  induction h with
  | nil => exact Iff.rfl
  | cons a b _ ih =>
    constructor
    · intro k
      cases k with
      | star0 _ => exact absurd rfl a
      | star1 _ => exact absurd rfl a
      | one _ _ k => exact ih.1 k
    · exact fun k => .one a b (ih.2 k)
theorem Each.fit_len {p s : List UInt8} (h : Each p s) : ∀ {t : List UInt8}, Fit p t → t.length = p.length := by
  induction h with
  | nil =>
    intro t k
    cases k
    rfl
  | cons a b _ ih =>
    intro t k
    cases k with
    | star0 _ => exact absurd rfl a
    | star1 _ => exact absurd rfl a
    | one _ _ k => simp [ih k]
theorem Fit.star_parts {p s : List UInt8} (h : Fit (42 :: p) s) : ∃ a b, s = a ++ b ∧ Fit p b := by
  obtain ⟨a, b, e, _, h2⟩ := Fit.parts (p := [42]) (q := p) h
  exact ⟨a, b, e, h2⟩
theorem Fit.star_of {p s : List UInt8} (a : List UInt8) (h : Fit p s) : Fit (42 :: p) (a ++ s) := Fit.star_more a (.star0 h)

/-- A later * takes over: what the one before could take more, it can. -/
theorem star_new {x a : List UInt8} (h : Each x a) (q t : List UInt8) : Fit (42 :: (x ++ 42 :: q)) (a ++ t) ↔ Fit (42 :: q) t := by
  constructor
  · intro k
    obtain ⟨b, c, e, k1⟩ := k.star_parts
    obtain ⟨c1, c2, rfl, k2, k3⟩ := Fit.parts k1
    have hl := h.fit_len k2
    have hl2 := h.length
    have e2 : a ++ t = (b ++ c1) ++ c2 := by rw [e, List.append_assoc]
    rcases List.append_eq_append_iff.1 e2 with ⟨d, _, e4⟩ | ⟨d, e3, e4⟩
    · rw [e4]
      exact Fit.star_more d k3
    · have h5 : a.length = (b ++ c1).length + d.length := by rw [e3, List.length_append]
      rw [List.length_append] at h5
      have h6 : d = [] := List.eq_nil_of_length_eq_zero (by omega)
      subst h6
      simp only [List.nil_append] at e4
      rw [← e4]
      exact k3
  · exact fun k => .star0 ((h.fit _ _).2 k)
/-- What doesn't fit where it stands: the * takes one byte more. -/
theorem star_back {x a q t : List UInt8} (h : Each x a) (hn : ¬ Fit q t) {y : UInt8} {r : List UInt8} (e : a ++ t = y :: r) : Fit (42 :: (x ++ q)) (a ++ t) ↔ Fit (42 :: (x ++ q)) r := by
  have h1 : ¬ Fit (x ++ q) (a ++ t) := fun k => hn ((h.fit _ _).1 k)
  rw [e] at h1 ⊢
  constructor
  · intro k
    cases k with
    | star0 k => exact absurd k h1
    | star1 k => exact k
    | one k _ _ => exact absurd rfl k
  · exact fun k => .star1 k
/-- The name is at its end. -/
theorem star_end {x a : List UInt8} (h : Each x a) (q : List UInt8) : Fit (42 :: (x ++ q)) a ↔ Fit q [] := by
  constructor
  · intro k
    obtain ⟨b, c, e, k1⟩ := k.star_parts
    obtain ⟨c1, c2, rfl, k2, k3⟩ := Fit.parts k1
    have hl := h.fit_len k2
    have hl2 := h.length
    have h3 : a.length = b.length + (c1.length + c2.length) := by rw [e, List.length_append, List.length_append]
    have h4 : c2 = [] := List.eq_nil_of_length_eq_zero (by omega)
    rwa [h4] at k3
  · intro k
    have := (h.fit q []).2 k
    rw [List.append_nil] at this
    exact .star0 this
theorem fit_nil_iff : ∀ p : List UInt8, Fit p [] ↔ ∀ c ∈ p, c = 42
  | [] => ⟨fun _ c h => by simp at h, fun _ => .nil⟩
  | c :: p => by
    constructor
    · intro h
      cases h with
      | star0 h =>
        intro d hd
        rcases List.mem_cons.1 hd with rfl | hd
        · rfl
        · exact (fit_nil_iff p).1 h d hd
    · intro h
      obtain rfl := h c (by simp)
      exact .star0 ((fit_nil_iff p).2 fun d hd => h d (by simp [hd]))

/-- What holds between two steps: p signs and n bytes are done; star: a * was met; behind: the sign behind the last one; tried: the byte from which on the rest was tried last. -/
def GInv (P S : List UInt8) (p n : Nat) (star : Bool) (behind tried : Nat) : Prop :=
  p ≤ P.length ∧ n ≤ S.length ∧ ((star = false ∧ behind = 0 ∧ tried = 0 ∧ (Fit P S ↔ Fit (P.drop p) (S.drop n))) ∨
    (star = true ∧ 0 < behind ∧ behind ≤ p ∧ tried ≤ n ∧ ∃ x a, Each x a ∧ P.drop behind = x ++ P.drop p ∧ S.drop tried = a ++ S.drop n ∧ (Fit P S ↔ Fit (42 :: P.drop behind) (S.drop tried))))
theorem drop_at {l : List UInt8} {i : Nat} {c : UInt8} (h : l[i]? = some c) : l.drop i = c :: l.drop (i + 1) := by
  have hi := (List.getElem?_eq_some_iff.1 h).1
  rw [List.drop_eq_getElem_cons hi, (List.getElem?_eq_some_iff.1 h).2]
theorem ginv_start (P S : List UInt8) : GInv P S 0 0 false 0 0 := ⟨Nat.zero_le _, Nat.zero_le _, .inl ⟨rfl, rfl, rfl, Iff.rfl⟩⟩
theorem ginv_star {P S : List UInt8} {p n behind tried : Nat} {star : Bool} (h : GInv P S p n star behind tried) (hp : P[p]? = some 42) : GInv P S (p + 1) n true (p + 1) n := by
  have hl := (List.getElem?_eq_some_iff.1 hp).1
  refine ⟨hl, h.2.1, .inr ⟨rfl, by omega, Nat.le_refl _, Nat.le_refl _, [], [], .nil, rfl, rfl, ?_⟩⟩
  rcases h.2.2 with ⟨_, _, _, k⟩ | ⟨_, _, _, _, x, a, e1, e2, e3, k⟩
  · rw [k, drop_at hp]
  · rw [k, e2, e3, drop_at hp, star_new e1]
theorem ginv_one {P S : List UInt8} {p n behind tried : Nat} {star : Bool} (h : GInv P S p n star behind tried) {c y : UInt8} (hp : P[p]? = some c) (hs : S[n]? = some y) (h1 : c ≠ 42) (h2 : c = 63 ∨ c = y) : GInv P S (p + 1) (n + 1) star behind tried := by
  have hl := (List.getElem?_eq_some_iff.1 hp).1
  have hl2 := (List.getElem?_eq_some_iff.1 hs).1
  refine ⟨hl, hl2, ?_⟩
  rcases h.2.2 with ⟨e1, e2, e3, k⟩ | ⟨f1, f2, f3, f4, x, a, e1, e2, e3, k⟩
  · refine .inl ⟨e1, e2, e3, ?_⟩
    rw [k, drop_at hp, drop_at hs]
    exact (Each.cons h1 h2 .nil).fit _ _
  · refine .inr ⟨f1, f2, by omega, by omega, x ++ [c], a ++ [y], e1.snoc h1 h2, ?_, ?_, k⟩
    · rw [e2, drop_at hp, List.append_assoc]; rfl
    · rw [e3, drop_at hs, List.append_assoc]; rfl
/-- The sign and the byte at which the way stands don't go together. -/
theorem no_fit {P S : List UInt8} {p n : Nat} {y : UInt8} (hs : S[n]? = some y) (hn : ∀ c, P[p]? = some c → c ≠ 42 ∧ ¬ (c = 63 ∨ c = y)) : ¬ Fit (P.drop p) (S.drop n) := by
  intro k
  rw [drop_at hs] at k
  cases hp : P[p]? with
  | none =>
    rw [List.drop_eq_nil_of_le (List.getElem?_eq_none_iff.1 hp)] at k
    cases k
  | some c =>
    obtain ⟨h1, h2⟩ := hn c hp
    rw [drop_at hp] at k
    cases k with
    | star0 _ => exact h1 rfl
    | star1 _ => exact h1 rfl
    | one _ h _ => exact h2 h
theorem ginv_back {P S : List UInt8} {p n behind tried : Nat} (h : GInv P S p n true behind tried) {y : UInt8} (hs : S[n]? = some y) (hn : ∀ c, P[p]? = some c → c ≠ 42 ∧ ¬ (c = 63 ∨ c = y)) : GInv P S behind (tried + 1) true behind (tried + 1) := by
  have hl2 := (List.getElem?_eq_some_iff.1 hs).1
  rcases h.2.2 with ⟨e1, _⟩ | ⟨_, f2, f3, f4, x, a, e1, e2, e3, k⟩
  · cases e1
  · refine ⟨by have := h.1; omega, by omega, .inr ⟨rfl, f2, Nat.le_refl _, Nat.le_refl _, [], [], .nil, rfl, rfl, ?_⟩⟩
    have ht : tried < S.length := by omega
    have e4 : S.drop tried = S[tried] :: S.drop (tried + 1) := List.drop_eq_getElem_cons ht
    rw [k, e2, e3]
    exact star_back e1 (no_fit hs hn) (by rw [← e3]; exact e4)
theorem ginv_fail {P S : List UInt8} {p n behind tried : Nat} (h : GInv P S p n false behind tried) {y : UInt8} (hs : S[n]? = some y) (hn : ∀ c, P[p]? = some c → c ≠ 42 ∧ ¬ (c = 63 ∨ c = y)) : fitR P S = false := by
  rcases h.2.2 with ⟨_, _, _, k⟩ | ⟨e1, _⟩
  · have h1 := no_fit hs hn
    rw [← k, ← fitR_iff] at h1
    simpa using h1
  · cases e1
theorem ginv_end {P S : List UInt8} {p n behind tried : Nat} {star : Bool} (h : GInv P S p n star behind tried) (hn : n = S.length) : fitR P S = (P.drop p).all (fun c => c == 42) := by
  have h1 : Fit P S ↔ Fit (P.drop p) [] := by
    subst hn
    rcases h.2.2 with ⟨_, _, _, k⟩ | ⟨_, _, _, _, x, a, e1, e2, e3, k⟩
    · rw [k, List.drop_length]
    · rw [k, e2, e3, List.drop_length, List.append_nil, star_end e1]
  rw [fit_nil_iff, ← fitR_iff] at h1
  cases hb : fitR P S with
  | true => exact (List.all_eq_true.2 fun c hc => by simp [h1.1 hb c hc]).symm
  | false =>
    cases ha : (P.drop p).all (fun c => c == 42) with
    | false => rfl
    | true =>
      have := h1.2 fun c hc => by simpa using List.all_eq_true.1 ha c hc
      rw [hb] at this
      cases this

/-- How much is left: the signs behind the last *, then the bytes from which on it wasn't tried, then the bytes. -/
def gleft (P S behind tried n : Nat) : Nat := (P + 1 - behind) * ((S + 1) * (S + 1)) + (S - tried) * (S + 1) + (S - n)
theorem gleft_star {P S behind behind' t t' n n' : Nat} (h : behind < behind') (hb : behind' ≤ P) : gleft P S behind' t' n' < gleft P S behind t n := by
  unfold gleft
  have h1 : (P + 1 - behind') + 1 ≤ P + 1 - behind := by omega
  obtain ⟨x, hx⟩ : ∃ x, x = (S + 1) * (S + 1) := ⟨_, rfl⟩
  have h4 := Nat.add_mul S 1 (S + 1)
  rw [← hx, Nat.one_mul] at h4
  have h2 : (P + 1 - behind' + 1) * x ≤ (P + 1 - behind) * x := Nat.mul_le_mul_right _ h1
  rw [Nat.add_mul (P + 1 - behind') 1 x, Nat.one_mul] at h2
  have h3 : (S - t') * (S + 1) ≤ S * (S + 1) := Nat.mul_le_mul_right _ (by omega)
  have h5 : S - n' ≤ S := by omega
  rw [← hx]
  omega
theorem gleft_back {P S behind t n n' : Nat} (h : t < S) : gleft P S behind (t + 1) n' < gleft P S behind t n := by
  unfold gleft
  have h1 : (S - t) = (S - (t + 1)) + 1 := by omega
  rw [h1, Nat.add_mul (S - (t + 1)) 1 (S + 1), Nat.one_mul]
  omega
theorem gleft_one {P S behind t n : Nat} (h : n < S) : gleft P S behind t (n + 1) < gleft P S behind t n := by
  unfold gleft
  omega

end Go.Proofs.YtnhhmfgneipneaaDoor
