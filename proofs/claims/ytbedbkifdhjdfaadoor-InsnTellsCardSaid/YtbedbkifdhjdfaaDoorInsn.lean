/-
  Instructions: the twenty shapes, what is decoded of bytes by them, and an instruction's bytes. It names nothing of the program.
-/
import Derived.Test.YtbedbkifdhjdfaaDoorRefLe
namespace Go.Proofs.YtbedbkifdhjdfaaDoor
open Go.RowKit

/-- How an instruction's bytes look. -/
structure Shp where
  (first : List UInt8)
  (base : Nat)
  (r m mem : Bool)
  (width : Nat)
/-- An instruction. -/
structure Ins where
  (op r m len field width imm : Int)
deriving DecidableEq
/-- The head of an instruction: all but its field. -/
structure Hd where
  (op r m at_ width : Nat)
deriving DecidableEq

def shapesL : List Shp := [
  ⟨[72, 199], 192, false, true, false, 4⟩,
  ⟨[72], 184, false, true, false, 8⟩,
  ⟨[72, 141], 5, true, false, false, 4⟩,
  ⟨[72, 139], 128, true, true, true, 4⟩,
  ⟨[72, 137], 128, true, true, true, 4⟩,
  ⟨[72, 15, 182], 128, true, true, true, 4⟩,
  ⟨[72, 136], 128, true, true, true, 4⟩,
  ⟨[72, 137], 192, true, true, false, 0⟩,
  ⟨[72, 1], 192, true, true, false, 0⟩,
  ⟨[72, 41], 192, true, true, false, 0⟩,
  ⟨[72, 129], 192, false, true, false, 4⟩,
  ⟨[72, 57], 192, true, true, false, 0⟩,
  ⟨[233], 0, false, false, false, 4⟩,
  ⟨[15, 132], 0, false, false, false, 4⟩,
  ⟨[15, 133], 0, false, false, false, 4⟩,
  ⟨[15, 130], 0, false, false, false, 4⟩,
  ⟨[232], 0, false, false, false, 4⟩,
  ⟨[255], 208, false, true, false, 0⟩,
  ⟨[195], 0, false, false, false, 0⟩,
  ⟨[15, 5], 0, false, false, false, 0⟩]

def Shp.names (s : Shp) : Bool := s.r || s.m
/-- The byte at a place, as a number; 256: there is none. -/
def kk (l : List UInt8) (i : Nat) : Nat := match l[i]? with | some b => b.toNat | none => 256
/-- R and M of a byte of registers. -/
def regs (s : Shp) (c : Nat) : Option (Nat × Nat) :=
  if c < 256 ∧ s.base ≤ c ∧ c - s.base < 64 ∧ (s.r = true ∨ (c - s.base) / 8 = 0) ∧ (s.m = true ∨ (c - s.base) % 8 = 0) ∧ ¬ (s.mem = true ∧ (c - s.base) % 8 = 4) then some ((c - s.base) / 8, (c - s.base) % 8) else none
/-- R, M, and where the field begins, of bytes that begin as a shape tells. -/
def hm (s : Shp) (l : List UInt8) : Option (Nat × Nat × Nat) :=
  if s.first <+: l then
    if s.names = true then (regs s (kk l s.first.length)).map fun q => (q.1, q.2, s.first.length + 1)
    else some (0, 0, s.first.length)
  else none
/-- A number with a sign. -/
def sgn (width v : Nat) : Int := if width = 4 then (if v < 2147483648 then (v : Int) else (v : Int) - 4294967296) else (if v < 9223372036854775808 then (v : Int) else (v : Int) - 18446744073709551616)
def fld (h : Hd) (l : List UInt8) : Option Ins :=
  if h.at_ + h.width ≤ l.length then some (if h.width = 0 then ⟨h.op, h.r, h.m, h.at_, 0, 0, 0⟩ else ⟨h.op, h.r, h.m, (h.at_ + h.width : Nat), h.at_, h.width, sgn h.width (num (win l h.at_ h.width))⟩) else none
/-- By the first four bytes: which instruction. -/
def cls (k0 k1 k2 k3 : Nat) : Option Hd :=
  if k0 = 72 then
    if 184 ≤ k1 ∧ k1 ≤ 191 then some ⟨2, 0, k1 - 184, 2, 8⟩
    else if k1 = 15 then (if k2 = 182 ∧ k3 / 64 = 2 ∧ k3 % 8 ≠ 4 then some ⟨6, k3 / 8 % 8, k3 % 8, 4, 4⟩ else none)
    else if k1 = 141 ∧ k2 / 64 = 0 ∧ k2 % 8 = 5 then some ⟨3, k2 / 8 % 8, 0, 3, 4⟩
    else if k2 / 64 = 2 ∧ k2 % 8 ≠ 4 ∧ k1 = 139 then some ⟨4, k2 / 8 % 8, k2 % 8, 3, 4⟩
    else if k2 / 64 = 2 ∧ k2 % 8 ≠ 4 ∧ k1 = 137 then some ⟨5, k2 / 8 % 8, k2 % 8, 3, 4⟩
    else if k2 / 64 = 2 ∧ k2 % 8 ≠ 4 ∧ k1 = 136 then some ⟨7, k2 / 8 % 8, k2 % 8, 3, 4⟩
    else if k2 / 64 = 3 then
      if k1 = 199 ∧ k2 / 8 % 8 = 0 then some ⟨1, 0, k2 % 8, 3, 4⟩
      else if k1 = 129 ∧ k2 / 8 % 8 = 0 then some ⟨11, 0, k2 % 8, 3, 4⟩
      else if k1 = 137 then some ⟨8, k2 / 8 % 8, k2 % 8, 3, 0⟩
      else if k1 = 1 then some ⟨9, k2 / 8 % 8, k2 % 8, 3, 0⟩
      else if k1 = 41 then some ⟨10, k2 / 8 % 8, k2 % 8, 3, 0⟩
      else if k1 = 57 then some ⟨12, k2 / 8 % 8, k2 % 8, 3, 0⟩
      else none
    else none
  else if k0 = 233 then some ⟨13, 0, 0, 1, 4⟩
  else if k0 = 232 then some ⟨17, 0, 0, 1, 4⟩
  else if k0 = 195 then some ⟨19, 0, 0, 1, 0⟩
  else if k0 = 255 then (if 208 ≤ k1 ∧ k1 ≤ 215 then some ⟨18, 0, k1 - 208, 2, 0⟩ else none)
  else if k0 = 15 then
    if k1 = 5 then some ⟨20, 0, 0, 2, 0⟩
    else if k1 = 132 then some ⟨14, 0, 0, 2, 4⟩
    else if k1 = 133 then some ⟨15, 0, 0, 2, 4⟩
    else if k1 = 130 then some ⟨16, 0, 0, 2, 4⟩
    else none
  else none
def hd (l : List UInt8) : Option Hd := cls (kk l 0) (kk l 1) (kk l 2) (kk l 3)
/-- The instruction with which bytes begin. -/
def dec (l : List UInt8) : Option Ins := (hd l).bind fun h => fld h l

theorem kk_le (l : List UInt8) (i : Nat) : kk l i ≤ 256 := by
  unfold kk
  split
  · next b _ => have := b.toNat_lt; omega
  · omega
theorem kk_some {l : List UInt8} {i : Nat} {b : UInt8} (h : l[i]? = some b) : kk l i = b.toNat := by unfold kk; rw [h]
theorem kk_none {l : List UInt8} {i : Nat} (h : l.length ≤ i) : kk l i = 256 := by unfold kk; rw [List.getElem?_eq_none h]
theorem kk_lt {l : List UInt8} {i : Nat} : kk l i < 256 ↔ i < l.length := by
  by_cases h : i < l.length
  · have := (l[i]).toNat_lt
    rw [kk_some (List.getElem?_eq_getElem h)]
    omega
  · rw [kk_none (by omega)]
    omega
theorem pre1 (a : UInt8) (l : List UInt8) : [a] <+: l ↔ kk l 0 = a.toNat := by
  cases l with
  | nil => simp [kk]; have := a.toNat_lt; omega
  | cons x r => simp [kk, ← UInt8.toNat_inj, eq_comm]
theorem pre2 (a b : UInt8) (l : List UInt8) : [a, b] <+: l ↔ kk l 0 = a.toNat ∧ kk l 1 = b.toNat := by
  match l with
  | [] => simp [kk]; have := a.toNat_lt; omega
  | [x] => simp [kk]; have := b.toNat_lt; omega
  | x :: y :: r => simp [kk, ← UInt8.toNat_inj, eq_comm]
theorem pre3 (a b c : UInt8) (l : List UInt8) : [a, b, c] <+: l ↔ kk l 0 = a.toNat ∧ kk l 1 = b.toNat ∧ kk l 2 = c.toNat := by
  match l with
  | [] => simp [kk]; have := a.toNat_lt; omega
  | [x] => simp [kk]; have := b.toNat_lt; omega
  | [x, y] => simp [kk]; have := c.toNat_lt; omega
  | x :: y :: z :: r => simp [kk, ← UInt8.toNat_inj, eq_comm]

theorem regs_iff (s : Shp) (c r m : Nat) : regs s c = some (r, m) ↔ c = s.base + 8 * r + m ∧ r < 8 ∧ m < 8 ∧ c < 256 ∧ (s.r = true ∨ r = 0) ∧ (s.m = true ∨ m = 0) ∧ ¬ (s.mem = true ∧ m = 4) := by
  unfold regs
  constructor
  · intro h
    split at h
    · next hc =>
      simp only [Option.some.injEq, Prod.mk.injEq] at h
      obtain ⟨rfl, rfl⟩ := h
      exact ⟨by omega, by omega, by omega, hc.1, hc.2.2.2.1, hc.2.2.2.2.1, hc.2.2.2.2.2⟩
    · cases h
  · rintro ⟨rfl, h1, h2, h3, h4, h5, h6⟩
    have e1 : s.base + 8 * r + m - s.base = 8 * r + m := by omega
    have e2 : (8 * r + m) / 8 = r := by omega
    have e3 : (8 * r + m) % 8 = m := by omega
    rw [e1, e2, e3, if_pos ⟨h3, by omega, by omega, h4, h5, h6⟩]
theorem hm_iff (s : Shp) (l : List UInt8) (r m a : Nat) : hm s l = some (r, m, a) ↔ s.first <+: l ∧
    ((s.names = true ∧ regs s (kk l s.first.length) = some (r, m) ∧ a = s.first.length + 1) ∨ (s.names = false ∧ r = 0 ∧ m = 0 ∧ a = s.first.length)) := by
  unfold hm
  by_cases hp : s.first <+: l
  · rw [if_pos hp]
    cases hn : s.names with
    | true =>
      simp only [if_true, true_and, hp, Bool.true_eq_false, false_and, or_false]
      cases regs s (kk l s.first.length) with
      | none => simp
      | some q => obtain ⟨x, y⟩ := q; simp [and_assoc, eq_comm]
    | false => simp [hp, eq_comm]
  · rw [if_neg hp]; simp [hp]

set_option maxHeartbeats 4000000 in
/-- What a shape tells is what the first four bytes tell. -/
theorem hm_yes (l : List UInt8) (i : Nat) (s : Shp) (hs : shapesL[i]? = some s) (r m a : Nat) (h : hm s l = some (r, m, a)) : hd l = some ⟨i + 1, r, m, a, s.width⟩ := by
  have q0 := kk_le l 0
  have q1 := kk_le l 1
  have q2 := kk_le l 2
  have q3 := kk_le l 3
  have hi : i < 20 := (List.getElem?_eq_some_iff.1 hs).1
  rw [hm_iff] at h
  unfold hd cls
  match i, hi with
  | 0, _ | 1, _ | 2, _ | 3, _ | 4, _ | 5, _ | 6, _ | 7, _ | 8, _ | 9, _ | 10, _ | 11, _ | 12, _ | 13, _ | 14, _ | 15, _ | 16, _ | 17, _ | 18, _ | 19, _ =>
    cases hs
    simp only [Shp.names, regs_iff, pre1, pre2, pre3, Bool.or_false, Bool.or_true, Bool.false_eq_true, Bool.true_eq_false, List.length_cons, List.length_nil] at h
    simp only [UInt8.reduceToNat, Nat.zero_add, Nat.reduceAdd, true_or, false_or, true_and, false_and, or_false, not_false_eq_true, and_true] at h
    generalize kk l 0 = k0 at *
    generalize kk l 1 = k1 at *
    generalize kk l 2 = k2 at *
    generalize kk l 3 = k3 at *
    (repeat (first | refine (if_pos (by omega)).trans ?_ | refine (if_neg (by omega)).trans ?_))
    first | rfl | (simp only [Option.some.injEq, Hd.mk.injEq, Nat.zero_add, Nat.reduceAdd, true_and, and_true]; omega)

theorem hd_cases (l : List UInt8) (h : Hd) (hh : hd l = some h) :
    ((kk l 0 = 72) ∧ (184 ≤ kk l 1 ∧ kk l 1 ≤ 191) ∧ h = ⟨2, 0, kk l 1 - 184, 2, 8⟩) ∨
    ((kk l 0 = 72) ∧ (kk l 1 = 15) ∧ (kk l 2 = 182 ∧ kk l 3 / 64 = 2 ∧ kk l 3 % 8 ≠ 4) ∧ h = ⟨6, kk l 3 / 8 % 8, kk l 3 % 8, 4, 4⟩) ∨
    ((kk l 0 = 72) ∧ (kk l 1 = 141 ∧ kk l 2 / 64 = 0 ∧ kk l 2 % 8 = 5) ∧ h = ⟨3, kk l 2 / 8 % 8, 0, 3, 4⟩) ∨
    ((kk l 0 = 72) ∧ (kk l 2 / 64 = 2 ∧ kk l 2 % 8 ≠ 4 ∧ kk l 1 = 139) ∧ h = ⟨4, kk l 2 / 8 % 8, kk l 2 % 8, 3, 4⟩) ∨
    ((kk l 0 = 72) ∧ (kk l 2 / 64 = 2 ∧ kk l 2 % 8 ≠ 4 ∧ kk l 1 = 137) ∧ h = ⟨5, kk l 2 / 8 % 8, kk l 2 % 8, 3, 4⟩) ∨
    ((kk l 0 = 72) ∧ (kk l 2 / 64 = 2 ∧ kk l 2 % 8 ≠ 4 ∧ kk l 1 = 136) ∧ h = ⟨7, kk l 2 / 8 % 8, kk l 2 % 8, 3, 4⟩) ∨
    ((kk l 0 = 72) ∧ (kk l 2 / 64 = 3) ∧ (kk l 1 = 199 ∧ kk l 2 / 8 % 8 = 0) ∧ h = ⟨1, 0, kk l 2 % 8, 3, 4⟩) ∨
    ((kk l 0 = 72) ∧ (kk l 2 / 64 = 3) ∧ (kk l 1 = 129 ∧ kk l 2 / 8 % 8 = 0) ∧ h = ⟨11, 0, kk l 2 % 8, 3, 4⟩) ∨
    ((kk l 0 = 72) ∧ (kk l 2 / 64 = 3) ∧ (kk l 1 = 137) ∧ h = ⟨8, kk l 2 / 8 % 8, kk l 2 % 8, 3, 0⟩) ∨
    ((kk l 0 = 72) ∧ (kk l 2 / 64 = 3) ∧ (kk l 1 = 1) ∧ h = ⟨9, kk l 2 / 8 % 8, kk l 2 % 8, 3, 0⟩) ∨
    ((kk l 0 = 72) ∧ (kk l 2 / 64 = 3) ∧ (kk l 1 = 41) ∧ h = ⟨10, kk l 2 / 8 % 8, kk l 2 % 8, 3, 0⟩) ∨
    ((kk l 0 = 72) ∧ (kk l 2 / 64 = 3) ∧ (kk l 1 = 57) ∧ h = ⟨12, kk l 2 / 8 % 8, kk l 2 % 8, 3, 0⟩) ∨
    ((kk l 0 = 233) ∧ h = ⟨13, 0, 0, 1, 4⟩) ∨
    ((kk l 0 = 232) ∧ h = ⟨17, 0, 0, 1, 4⟩) ∨
    ((kk l 0 = 195) ∧ h = ⟨19, 0, 0, 1, 0⟩) ∨
    ((kk l 0 = 255) ∧ (208 ≤ kk l 1 ∧ kk l 1 ≤ 215) ∧ h = ⟨18, 0, kk l 1 - 208, 2, 0⟩) ∨
    ((kk l 0 = 15) ∧ (kk l 1 = 5) ∧ h = ⟨20, 0, 0, 2, 0⟩) ∨
    ((kk l 0 = 15) ∧ (kk l 1 = 132) ∧ h = ⟨14, 0, 0, 2, 4⟩) ∨
    ((kk l 0 = 15) ∧ (kk l 1 = 133) ∧ h = ⟨15, 0, 0, 2, 4⟩) ∨
    ((kk l 0 = 15) ∧ (kk l 1 = 130) ∧ h = ⟨16, 0, 0, 2, 4⟩) := by
  unfold hd cls at hh
  by_cases c1 : kk l 0 = 72
  · rw [if_pos c1] at hh
    by_cases c2 : 184 ≤ kk l 1 ∧ kk l 1 ≤ 191
    · rw [if_pos c2] at hh
      exact .inl ⟨c1, c2, (Option.some.inj hh).symm⟩
    rw [if_neg c2] at hh
    by_cases c3 : kk l 1 = 15
    · rw [if_pos c3] at hh
      by_cases c4 : kk l 2 = 182 ∧ kk l 3 / 64 = 2 ∧ kk l 3 % 8 ≠ 4
      · rw [if_pos c4] at hh
        exact .inr (.inl ⟨c1, c3, c4, (Option.some.inj hh).symm⟩)
      rw [if_neg c4] at hh
      cases hh
    rw [if_neg c3] at hh
    by_cases c5 : kk l 1 = 141 ∧ kk l 2 / 64 = 0 ∧ kk l 2 % 8 = 5
    · rw [if_pos c5] at hh
      exact .inr (.inr (.inl ⟨c1, c5, (Option.some.inj hh).symm⟩))
    rw [if_neg c5] at hh
    by_cases c6 : kk l 2 / 64 = 2 ∧ kk l 2 % 8 ≠ 4 ∧ kk l 1 = 139
    · rw [if_pos c6] at hh
      exact .inr (.inr (.inr (.inl ⟨c1, c6, (Option.some.inj hh).symm⟩)))
    rw [if_neg c6] at hh
    by_cases c7 : kk l 2 / 64 = 2 ∧ kk l 2 % 8 ≠ 4 ∧ kk l 1 = 137
    · rw [if_pos c7] at hh
      exact .inr (.inr (.inr (.inr (.inl ⟨c1, c7, (Option.some.inj hh).symm⟩))))
    rw [if_neg c7] at hh
    by_cases c8 : kk l 2 / 64 = 2 ∧ kk l 2 % 8 ≠ 4 ∧ kk l 1 = 136
    · rw [if_pos c8] at hh
      exact .inr (.inr (.inr (.inr (.inr (.inl ⟨c1, c8, (Option.some.inj hh).symm⟩)))))
    rw [if_neg c8] at hh
    by_cases c9 : kk l 2 / 64 = 3
    · rw [if_pos c9] at hh
      by_cases c10 : kk l 1 = 199 ∧ kk l 2 / 8 % 8 = 0
      · rw [if_pos c10] at hh
        exact .inr (.inr (.inr (.inr (.inr (.inr (.inl ⟨c1, c9, c10, (Option.some.inj hh).symm⟩))))))
      rw [if_neg c10] at hh
      by_cases c11 : kk l 1 = 129 ∧ kk l 2 / 8 % 8 = 0
      · rw [if_pos c11] at hh
        exact .inr (.inr (.inr (.inr (.inr (.inr (.inr (.inl ⟨c1, c9, c11, (Option.some.inj hh).symm⟩)))))))
      rw [if_neg c11] at hh
      by_cases c12 : kk l 1 = 137
      · rw [if_pos c12] at hh
        exact .inr (.inr (.inr (.inr (.inr (.inr (.inr (.inr (.inl ⟨c1, c9, c12, (Option.some.inj hh).symm⟩))))))))
      rw [if_neg c12] at hh
      by_cases c13 : kk l 1 = 1
      · rw [if_pos c13] at hh
        exact .inr (.inr (.inr (.inr (.inr (.inr (.inr (.inr (.inr (.inl ⟨c1, c9, c13, (Option.some.inj hh).symm⟩)))))))))
      rw [if_neg c13] at hh
      by_cases c14 : kk l 1 = 41
      · rw [if_pos c14] at hh
        exact .inr (.inr (.inr (.inr (.inr (.inr (.inr (.inr (.inr (.inr (.inl ⟨c1, c9, c14, (Option.some.inj hh).symm⟩))))))))))
      rw [if_neg c14] at hh
      by_cases c15 : kk l 1 = 57
      · rw [if_pos c15] at hh
        exact .inr (.inr (.inr (.inr (.inr (.inr (.inr (.inr (.inr (.inr (.inr (.inl ⟨c1, c9, c15, (Option.some.inj hh).symm⟩)))))))))))
      rw [if_neg c15] at hh
      cases hh
    rw [if_neg c9] at hh
    cases hh
  rw [if_neg c1] at hh
  by_cases c16 : kk l 0 = 233
  · rw [if_pos c16] at hh
    exact .inr (.inr (.inr (.inr (.inr (.inr (.inr (.inr (.inr (.inr (.inr (.inr (.inl ⟨c16, (Option.some.inj hh).symm⟩))))))))))))
  rw [if_neg c16] at hh
  by_cases c17 : kk l 0 = 232
  · rw [if_pos c17] at hh
    exact .inr (.inr (.inr (.inr (.inr (.inr (.inr (.inr (.inr (.inr (.inr (.inr (.inr (.inl ⟨c17, (Option.some.inj hh).symm⟩)))))))))))))
  rw [if_neg c17] at hh
  by_cases c18 : kk l 0 = 195
  · rw [if_pos c18] at hh
    exact .inr (.inr (.inr (.inr (.inr (.inr (.inr (.inr (.inr (.inr (.inr (.inr (.inr (.inr (.inl ⟨c18, (Option.some.inj hh).symm⟩))))))))))))))
  rw [if_neg c18] at hh
  by_cases c19 : kk l 0 = 255
  · rw [if_pos c19] at hh
    by_cases c20 : 208 ≤ kk l 1 ∧ kk l 1 ≤ 215
    · rw [if_pos c20] at hh
      exact .inr (.inr (.inr (.inr (.inr (.inr (.inr (.inr (.inr (.inr (.inr (.inr (.inr (.inr (.inr (.inl ⟨c19, c20, (Option.some.inj hh).symm⟩)))))))))))))))
    rw [if_neg c20] at hh
    cases hh
  rw [if_neg c19] at hh
  by_cases c21 : kk l 0 = 15
  · rw [if_pos c21] at hh
    by_cases c22 : kk l 1 = 5
    · rw [if_pos c22] at hh
      exact .inr (.inr (.inr (.inr (.inr (.inr (.inr (.inr (.inr (.inr (.inr (.inr (.inr (.inr (.inr (.inr (.inl ⟨c21, c22, (Option.some.inj hh).symm⟩))))))))))))))))
    rw [if_neg c22] at hh
    by_cases c23 : kk l 1 = 132
    · rw [if_pos c23] at hh
      exact .inr (.inr (.inr (.inr (.inr (.inr (.inr (.inr (.inr (.inr (.inr (.inr (.inr (.inr (.inr (.inr (.inr (.inl ⟨c21, c23, (Option.some.inj hh).symm⟩)))))))))))))))))
    rw [if_neg c23] at hh
    by_cases c24 : kk l 1 = 133
    · rw [if_pos c24] at hh
      exact .inr (.inr (.inr (.inr (.inr (.inr (.inr (.inr (.inr (.inr (.inr (.inr (.inr (.inr (.inr (.inr (.inr (.inr (.inl ⟨c21, c24, (Option.some.inj hh).symm⟩))))))))))))))))))
    rw [if_neg c24] at hh
    by_cases c25 : kk l 1 = 130
    · rw [if_pos c25] at hh
      exact .inr (.inr (.inr (.inr (.inr (.inr (.inr (.inr (.inr (.inr (.inr (.inr (.inr (.inr (.inr (.inr (.inr (.inr (.inr (⟨c21, c25, (Option.some.inj hh).symm⟩)))))))))))))))))))
    rw [if_neg c25] at hh
    cases hh
  rw [if_neg c21] at hh
  cases hh

set_option maxHeartbeats 4000000 in
theorem hd_some (l : List UInt8) (h : Hd) (hh : hd l = some h) : 1 ≤ h.op ∧ h.op ≤ 20 ∧ ∃ s, shapesL[h.op - 1]? = some s ∧ hm s l = some (h.r, h.m, h.at_) ∧ s.width = h.width := by
  have q0 := kk_le l 0
  have q1 := kk_le l 1
  have q2 := kk_le l 2
  have q3 := kk_le l 3
  have hc := hd_cases l h hh
  clear hh
  rcases hc with ⟨_, _, rfl⟩ | ⟨_, _, _, rfl⟩ | ⟨_, _, rfl⟩ | ⟨_, _, rfl⟩ | ⟨_, _, rfl⟩ | ⟨_, _, rfl⟩ | ⟨_, _, _, rfl⟩ | ⟨_, _, _, rfl⟩ | ⟨_, _, _, rfl⟩ | ⟨_, _, _, rfl⟩ | ⟨_, _, _, rfl⟩ | ⟨_, _, _, rfl⟩ | ⟨_, rfl⟩ | ⟨_, rfl⟩ | ⟨_, rfl⟩ | ⟨_, _, rfl⟩ | ⟨_, _, rfl⟩ | ⟨_, _, rfl⟩ | ⟨_, _, rfl⟩ | ⟨_, _, rfl⟩
  all_goals
    refine ⟨Nat.le_of_ble_eq_true rfl, Nat.le_of_ble_eq_true rfl, _, rfl, ?_, rfl⟩
    rw [hm_iff]
    simp only [Shp.names, regs_iff, pre1, pre2, pre3, Bool.or_false, Bool.or_true, Bool.false_eq_true, Bool.true_eq_false, List.length_cons, List.length_nil]
    simp only [UInt8.reduceToNat, Nat.zero_add, Nat.reduceAdd, true_or, false_or, true_and, false_and, or_false, not_false_eq_true, and_true]
    omega
end Go.Proofs.YtbedbkifdhjdfaaDoor
