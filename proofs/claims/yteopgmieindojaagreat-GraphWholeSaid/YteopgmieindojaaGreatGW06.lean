/-
  Parts of a proof.
-/
import Derived.Test.YteopgmieindojaaGreatShapeC
import Derived.Test.YteopgmieindojaaGreatGW05
import Derived.Test.YteopgmieindojaaGreatGW03
import Derived.Test.YteopgmieindojaaGreatMem
import Derived.Maps.AppendAt
import Derived.Deep.QuietTactic
import Derived.BigQuiet
import Derived.Deep.DeepCutAuto
import Derived.Test.YteopgmieindojaaGreatGW02
namespace Go.Proofs.YteopgmieindojaaGreat
open Go.RowKit
def kindS (s : SecD) : Bool := kindB s.type s.flags s.align s.ent s.size s.data.length s.rels.length (s.data.getLast? == some 0)
def secOK (ql yl : Nat) (gs : List GroupD) (k : Nat) (s : SecD) : Bool :=
 bif !mayB s.name.data.toList || !kindS s || !relsB yl s.data.length s.rels then false else
 bif (hasF s.flags 128 && (decide (s.link < 1) || decide ((ql : Int) < s.link) || (s.link == (k : Int) + 1))) || (!hasF s.flags 128 && (s.link != 0)) then false else
 (((memberN gs ((k : Int) + 1) : Int) == 0) && !hasF s.flags 512) || (((memberN gs ((k : Int) + 1) : Int) == 1) && hasF s.flags 512)
end Go.Proofs.YteopgmieindojaaGreat

namespace Go.Proofs.YteopgmieindojaaGreat
open Go.RowKit
structure PcD where
 (at_ size : Int)
def EPc (w : World) (b o : Nat) (p : PcD) : Prop := EInt w b o p.at_ ∧ EInt w b (o + 1) p.size
theorem EPc.keeps : Keeps EPc := fun _ _ _ _ _ hb ⟨h0, h1⟩ => ⟨EInt.keeps _ _ _ _ _ hb h0, EInt.keeps _ _ _ _ _ hb h1⟩
def pcV : List PcD → List Value
 | [] => []
 | p :: l => .int .i64 p.at_ :: .int .i64 p.size :: pcV l
theorem pcV_length : ∀ l : List PcD, (pcV l).length = l.length * 2
 | [] => rfl
 | _ :: l => by simp [pcV, pcV_length l]; omega
theorem pcV_append : ∀ a b : List PcD, pcV (a ++ b) = pcV a ++ pcV b
 | [], _ => rfl
 | _ :: l, b => by simp [pcV, pcV_append l b]
theorem pcV_get : ∀ (l : List PcD) (i : Nat) (p : PcD), l[i]? = some p → (pcV l)[i * 2]? = some (.int .i64 p.at_) ∧ (pcV l)[i * 2 + 1]? = some (.int .i64 p.size)
 | [], i, p, h => by simp at h
 | q :: l, 0, p, h => by simp at h; subst h; simp [pcV]
 | q :: l, i + 1, p, h => by
  have := pcV_get l i p (by simpa using h)
  rw [show (i + 1) * 2 = i * 2 + 2 by omega]
  simpa [pcV] using this
def PcD.bd (p : PcD) : Prop := (-9223372036854775808 ≤ p.at_ ∧ p.at_ ≤ 9223372036854775807) ∧ -9223372036854775808 ≤ p.size ∧ p.size ≤ 9223372036854775807
theorem isL_pc {w : World} {base : Nat} {T : TypeId} {v : Value} {l : List PcD} (h : w.ownsRow base T 2 v l.length (pcV l)) (hbd : ∀ p ∈ l, p.bd) : IsL 2 EPc w v l := by
 obtain ⟨_, h⟩ := h
 rcases h with ⟨rfl, h0⟩ | ⟨g, cap, cur, rfl, _, hg, h1, h2, h3, h4⟩
 ·have : l = [] := List.length_eq_zero_iff.1 h0
  subst this
  exact ⟨none, 0, rfl, Nat.le_refl _, Nat.zero_le _, fun _ => rfl, fun i x hx => by simp at hx⟩
 ·refine ⟨some ⟨g, 0, none⟩, cap, rfl, h1, h2, (fun h => by cases h), fun i p hp => ⟨g, 0, rfl, ?_⟩⟩
  have hi : i < l.length := (List.getElem?_eq_some_iff.1 hp).1
  obtain ⟨q0, q1⟩ := pcV_get l i p hp
  obtain ⟨d0, d1⟩ := hbd p (List.mem_of_getElem? hp)
  have hc : ∀ j x, j < l.length * 2 → (pcV l)[j]? = some x → w.cell? ⟨g, j, none⟩ = some x := fun j x hj hx => by
   refine (cell_of_row w g j cur T (0, 0) hg).trans ?_
   rw [← h4, List.getElem?_take, if_pos hj] at hx
   simpa using hx
  refine ⟨⟨hc _ _ (by omega) (by rw [Nat.zero_add]; exact q0), d0⟩, ⟨hc _ _ (by omega) (by rw [Nat.zero_add]; exact q1), d1⟩⟩
def endB (strs : Bool) (ent : Int) (a k : Nat) (x : UInt8) : Bool := bif strs then x == 0 else ((k : Int) + 1 - (a : Int)) == ent
def pcStep (strs : Bool) (ent : Int) (d : List UInt8) : Nat → List PcD × Nat
 | 0 => ([], 0)
 | k + 1 => match d[k]? with
  | none => pcStep strs ent d k
  | some x => bif endB strs ent (pcStep strs ent d k).2 k x then ((pcStep strs ent d k).1 ++ [⟨(pcStep strs ent d k).2, (k : Int) + 1 - ((pcStep strs ent d k).2 : Int)⟩], k + 1) else pcStep strs ent d k
def piecesOf (s : SecD) : List PcD := bif hasF s.flags 16 then (pcStep (hasF s.flags 32) s.ent s.data s.data.length).1 else [⟨0, s.size⟩]
theorem pcStep_yes {strs : Bool} {ent : Int} {d : List UInt8} {k a : Nat} {l : List PcD} {x : UInt8} (h : pcStep strs ent d k = (l, a)) (hx : d[k]? = some x) (he : endB strs ent a k x = true) : pcStep strs ent d (k + 1) = (l ++ [⟨a, (k : Int) + 1 - (a : Int)⟩], k + 1) := by
 show (match d[k]? with | none => _ | some x => _) = _
 rw [hx, h]
 simp only
 rw [he]
 rfl
theorem pcStep_no {strs : Bool} {ent : Int} {d : List UInt8} {k a : Nat} {l : List PcD} {x : UInt8} (h : pcStep strs ent d k = (l, a)) (hx : d[k]? = some x) (he : endB strs ent a k x = false) : pcStep strs ent d (k + 1) = (l, a) := by
 show (match d[k]? with | none => _ | some x => _) = _
 rw [hx, h]
 simp only
 rw [he]
 rfl
def endOf (l : List PcD) : Int := (l.map PcD.size).sum
theorem endOf_snoc (l : List PcD) (p : PcD) : endOf (l ++ [p]) = endOf l + p.size := by simp [endOf]
def Chain (l : List PcD) (a : Int) : Prop := endOf l = a ∧ ∀ i p, l[i]? = some p → p.at_ = endOf (l.take i) ∧ 0 ≤ p.size
theorem Chain.snoc {l : List PcD} {a n : Int} (h : Chain l a) (hn : 0 ≤ n) : Chain (l ++ [⟨a, n⟩]) (a + n) := by
 refine ⟨by rw [endOf_snoc, h.1], fun i p hp => ?_⟩
 rw [List.getElem?_append] at hp
 split at hp
 ·rename_i hi
  have := h.2 i p hp
  rw [List.take_append_of_le_length (by omega)]
  exact this
 ·rename_i hi
  have hi0 : i - l.length = 0 := by have := (List.getElem?_eq_some_iff.1 hp).1; simp at this; omega
  rw [hi0] at hp
  simp at hp
  subst hp
  have : i = l.length := by omega
  subst this
  rw [List.take_append_of_le_length (Nat.le_refl _), List.take_length, h.1]
  exact ⟨rfl, hn⟩
theorem pcStep_inv (strs : Bool) (ent : Int) (d : List UInt8) : ∀ k, k ≤ d.length → Chain (pcStep strs ent d k).1 ((pcStep strs ent d k).2 : Int) ∧ (pcStep strs ent d k).2 ≤ k ∧ (pcStep strs ent d k).1.length ≤ k ∧ (∀ p ∈ (pcStep strs ent d k).1, 0 ≤ p.at_ ∧ 1 ≤ p.size ∧ p.at_ + p.size ≤ (k : Int)) ∧
  (strs = true → (∀ j x, (pcStep strs ent d k).2 ≤ j → j < k → d[j]? = some x → x ≠ 0) ∧ ∀ p ∈ (pcStep strs ent d k).1, ∀ (j : Nat) x, p.at_ ≤ (j : Int) → (j : Int) < p.at_ + p.size → d[j]? = some x → (x == 0) = ((j : Int) == p.at_ + p.size - 1)) ∧
  (strs = false → 1 ≤ ent → ((k : Int) - ((pcStep strs ent d k).2 : Int) < ent) ∧ ent ∣ ((pcStep strs ent d k).2 : Int))
 | 0, _ => by
  refine ⟨⟨rfl, fun i p hp => by simp [pcStep] at hp⟩, Nat.le_refl _, Nat.le_refl _, fun p hp => by simp [pcStep] at hp, fun _ => ⟨fun j x _ h => absurd h (by omega), fun p hp => by simp [pcStep] at hp⟩, fun _ h1 => ⟨by simp [pcStep]; omega, by simp [pcStep]⟩⟩
 | k + 1, hk => by
  obtain ⟨hc, ha, hl, hp, hs, he⟩ := pcStep_inv strs ent d k (by omega)
  obtain ⟨x, hx⟩ : ∃ x, d[k]? = some x := ⟨_, List.getElem?_eq_getElem (by omega)⟩
  generalize hst : pcStep strs ent d k = st at *
  obtain ⟨l, a⟩ := st
  simp only at hc ha hl hp hs he
  cases hb : endB strs ent a k x with
  | true =>
   rw [pcStep_yes hst hx hb]
   simp only
   refine ⟨?_, Nat.le_refl _, by simp; omega, fun p hpm => ?_, fun h => ⟨fun j y h1 h2 => absurd h1 (by omega), fun p hpm j y h1 h2 hy => ?_⟩, fun h h1 => ?_⟩
   ·have := hc.snoc (n := (k : Int) + 1 - (a : Int)) (by omega)
    rw [show (a : Int) + ((k : Int) + 1 - (a : Int)) = ((k + 1 : Nat) : Int) by omega] at this
    exact this
   ·rcases List.mem_append.1 hpm with h | h
    ·have := hp p h; omega
    ·simp at h; subst h; simp only; omega
   ·subst h
    rcases List.mem_append.1 hpm with h | h
    ·exact (hs rfl).2 p h j y h1 h2 hy
    ·simp at h
     subst h
     simp only at h1 h2 ⊢
     by_cases hjk : j = k
     ·subst hjk
      rw [hx] at hy
      cases hy
      have hx0 : (x == 0) = true := hb
      rw [hx0]
      simp; omega
     ·have := (hs rfl).1 j y (by omega) (by omega) hy
      have e1 : (y == 0) = false := by simpa using this
      rw [e1]
      symm
      simp; omega
   ·subst h
    have h2 := he rfl h1
    have h3 : ((k : Int) + 1 - (a : Int)) = ent := by
     have : (((k : Int) + 1 - (a : Int)) == ent) = true := hb
     simpa using this
    refine ⟨by omega, ?_⟩
    obtain ⟨q, hq⟩ := h2.2
    exact ⟨q + 1, by rw [Int.mul_add, ← hq]; omega⟩
  | false =>
   rw [pcStep_no hst hx hb]
   simp only
   refine ⟨hc, by omega, by omega, fun p hpm => ?_, fun h => ⟨fun j y h1 h2 hy => ?_, ?_⟩, fun h h1 => ?_⟩
   ·have := hp p hpm; omega
   ·subst h
    by_cases hjk : j = k
    ·subst hjk
     rw [hx] at hy
     cases hy
     have hx0 : (x == 0) = false := hb
     simpa using hx0
    ·exact (hs rfl).1 j y h1 (by omega) hy
   ·exact (hs h).2
   ·subst h
    have h2 := he rfl h1
    have h3 : ¬ ((k : Int) + 1 - (a : Int)) = ent := by
     have : (((k : Int) + 1 - (a : Int)) == ent) = false := hb
     simpa using this
    exact ⟨by omega, h2.2⟩
end Go.Proofs.YteopgmieindojaaGreat

namespace Go.Proofs.YteopgmieindojaaGreat
open Go.RowKit
abbrev secVS (s : SecD) (vd vr : Value) : Value := secV s.name s.type s.flags s.align s.ent s.link s.size vd vr
def SecFacts (s : SecD) : Prop := (0 ≤ s.size ∧ s.size ≤ 2147483647) ∧
 (hasF s.flags 16 = true → s.size = (s.data.length : Int) ∧ s.data.length ≤ 16384 ∧ (hasF s.flags 32 = true → s.data = [] ∨ s.data.getLast? = some 0) ∧ (hasF s.flags 32 = false → 1 ≤ s.ent ∧ s.ent ∣ s.size)) ∧
 (hasF s.flags 16 = false → hasF s.flags 32 = false) ∧ 0 ≤ s.flags
theorem flags_neg {n : Int} (h : n < 0) : ∀ L : List Int, L.foldl flagStep n = n
 | [] => rfl
 | l :: L => by
  have e : flagStep n l = n := by unfold flagStep hasF; rw [decide_eq_false (show ¬ 0 ≤ n by omega)]; simp
  rw [List.foldl_cons, e]
  exact flags_neg h L
theorem flags_pos {n : Int} (h : flagsB n = true) : 0 ≤ n := by
 by_cases h0 : 0 ≤ n
 ·exact h0
 ·unfold flagsB at h
  rw [flags_neg (by omega)] at h
  simp at h
  omega
theorem cond_false_of {c d : Bool} (h : (bif c then false else d) = true) : c = false ∧ d = true := by cases c <;> simp_all
theorem kind_facts {s : SecD} (h : kindS s = true) : SecFacts s := by
 unfold kindS kindB at h
 obtain ⟨h1, h⟩ := cond_false_of h
 have hfl : 0 ≤ s.flags := flags_pos (by
  rw [Bool.or_eq_false_iff, Bool.or_eq_false_iff] at h1
  simpa using h1.1.1)
 obtain ⟨h2, h⟩ := cond_false_of h
 obtain ⟨h3, h⟩ := cond_false_of h
 obtain ⟨h4, h⟩ := cond_false_of h
 have hty : s.type = 1 ∨ s.type = 8 := by simp at h4; omega
 have hl1 : s.type = 1 → s.size = (s.data.length : Int) ∧ s.size ≤ 16384 := fun e => by
  simp [e] at h2
  omega
 have hl8 : s.type = 8 → s.data.length = 0 ∧ 0 ≤ s.size ∧ s.size ≤ 2147483647 ∧ hasF s.flags 16 = false := fun e => by
  simp [e] at h3
  obtain ⟨⟨⟨⟨x1, x2⟩, x3⟩, _⟩, x5⟩ := h3
  exact ⟨by rw [x1]; rfl, by omega, by omega, x5⟩
 have hsz : 0 ≤ s.size ∧ s.size ≤ 2147483647 := by
  rcases hty with e | e
  ·have := hl1 e; omega
  ·have := hl8 e; omega
 refine ⟨hsz, fun hm => ?_, fun hm => ?_, hfl⟩
 ·have e1 : s.type = 1 := by
   rcases hty with e | e
   ·exact e
   ·have := (hl8 e).2.2.2; rw [hm] at this; cases this
  obtain ⟨e2, e3⟩ := hl1 e1
  rw [hm] at h
  have h' : (bif hasF s.flags 1 || hasF s.flags 4 || decide (0 < (s.rels.length : Int)) then false else
   bif hasF s.flags 32 then (s.ent == 1) && (s.align == 1) && (((s.data.length : Int) == 0) || (s.data.getLast? == some 0)) else
   (s.ent == 4 || s.ent == 8 || s.ent == 16) && decide (s.align ≤ s.ent) && (s.size.tmod s.ent == 0)) = true := h
  obtain ⟨_, h5⟩ := cond_false_of h'
  refine ⟨e2, by omega, fun hs => ?_, fun hs => ?_⟩
  ·rw [hs] at h5
   simp at h5
   rcases h5.2 with h6 | h6
   ·exact .inl h6
   ·exact .inr h6
  ·rw [hs] at h5
   simp at h5
   obtain ⟨⟨h6, _⟩, h7⟩ := h5
   exact ⟨by omega, Int.dvd_of_tmod_eq_zero h7⟩
 ·rw [hm] at h
  simp at h
  exact h.2
theorem pieces_facts {s : SecD} (h : SecFacts s) : Chain (piecesOf s) s.size ∧ (piecesOf s).length ≤ 16384 ∧ (∀ p ∈ piecesOf s, 0 ≤ p.at_ ∧ 0 ≤ p.size ∧ p.at_ + p.size ≤ s.size) ∧
  (hasF s.flags 32 = true → ∀ p ∈ piecesOf s, p.at_ + p.size ≤ (s.data.length : Int) ∧ ∀ (j : Nat) x, p.at_ ≤ (j : Int) → (j : Int) < p.at_ + p.size → s.data[j]? = some x → (x == 0) = ((j : Int) == p.at_ + p.size - 1)) := by
 obtain ⟨hsz, hm, hn, _⟩ := h
 cases hq : hasF s.flags 16 with
 | false =>
  have e : piecesOf s = [⟨0, s.size⟩] := by unfold piecesOf; rw [hq]; rfl
  rw [e]
  refine ⟨⟨by simp [endOf], fun i p hp => ?_⟩, by simp, fun p hp => ?_, fun h32 => ?_⟩
  ·match i, hp with
   | 0, hp => simp at hp; subst hp; exact ⟨by simp [endOf], hsz.1⟩
   | i + 1, hp => simp at hp
  ·simp at hp; subst hp; simp only; omega
  ·rw [hn hq] at h32; cases h32
 | true =>
  obtain ⟨e1, e2, hs, he⟩ := hm hq
  have e : piecesOf s = (pcStep (hasF s.flags 32) s.ent s.data s.data.length).1 := by unfold piecesOf; rw [hq]; rfl
  rw [e]
  obtain ⟨i1, i2, i3, i4, i5, i6⟩ := pcStep_inv (hasF s.flags 32) s.ent s.data s.data.length (Nat.le_refl _)
  have ha : (pcStep (hasF s.flags 32) s.ent s.data s.data.length).2 = s.data.length := by
   cases h32 : hasF s.flags 32 with
   | true =>
    rw [h32] at i2 i5
    rcases hs h32 with h0 | h0
    ·rw [h0]; rfl
    ·by_cases hlt : (pcStep true s.ent s.data s.data.length).2 < s.data.length
     ·have hg : s.data[s.data.length - 1]? = some 0 := by rw [← List.getLast?_eq_getElem?]; exact h0
      exact absurd rfl ((i5 rfl).1 (s.data.length - 1) 0 (by omega) (by omega) hg)
     ·omega
   | false =>
    rw [h32] at i2 i6
    obtain ⟨h1, h2⟩ := he h32
    obtain ⟨h3, h4⟩ := i6 rfl h1
    rw [e1] at h2
    have h5 : s.ent ∣ ((s.data.length : Int) - ((pcStep false s.ent s.data s.data.length).2 : Int)) := Int.dvd_sub h2 h4
    have h6 := Int.emod_eq_of_lt (show 0 ≤ (s.data.length : Int) - ((pcStep false s.ent s.data s.data.length).2 : Int) by omega) h3
    rw [Int.emod_eq_zero_of_dvd h5] at h6
    omega
  rw [ha, ← e1] at i1
  refine ⟨i1, by omega, fun p hp => ?_, fun h32 p hp => ?_⟩
  ·have := i4 p hp; omega
  ·exact ⟨(i4 p hp).2.2, (i5 h32).2 p hp⟩
def inB2 (n : Nat) (at_ : Int) (i : Nat) (p : PcD) : Bool := decide (p.at_ ≤ at_) && (decide (at_ < p.at_ + p.size) || (((i : Int) == (n : Int) - 1) && (at_ == p.at_ + p.size)))
def inStep (l : List PcD) (at_ : Int) : Nat → Int
 | 0 => -1
 | i + 1 => match l[i]? with
  | none => inStep l at_ i
  | some p => bif inB2 l.length at_ i p then (i : Int) else inStep l at_ i
def inP (l : List PcD) (at_ : Int) : Int := inStep l at_ l.length
theorem inStep_some {l : List PcD} {at_ : Int} {i : Nat} {p : PcD} (h : l[i]? = some p) : inStep l at_ (i + 1) = bif inB2 l.length at_ i p then (i : Int) else inStep l at_ i := by
 show (match l[i]? with | none => _ | some p => _) = _
 rw [h]
theorem inStep_no {l : List PcD} {at_ : Int} : ∀ k, k ≤ l.length → (∀ i p, i < k → l[i]? = some p → inB2 l.length at_ i p = false) → inStep l at_ k = -1
 | 0, _, _ => rfl
 | k + 1, hk, h => by
  have hx : l[k]? = some l[k] := List.getElem?_eq_getElem (by omega)
  rw [inStep_some hx, h k _ (by omega) hx]
  exact inStep_no k (by omega) fun i p hi hp => h i p (by omega) hp
theorem inStep_yes {l : List PcD} {at_ : Int} : ∀ k, k ≤ l.length → (∃ i p, i < k ∧ l[i]? = some p ∧ inB2 l.length at_ i p = true) → ∃ (i : Nat) (p : PcD), inStep l at_ k = (i : Int) ∧ i < k ∧ l[i]? = some p ∧ inB2 l.length at_ i p = true
 | 0, _, ⟨i, p, hi, _⟩ => absurd hi (by omega)
 | k + 1, hk, ⟨i, p, hi, hp, hb⟩ => by
  have hx : l[k]? = some l[k] := List.getElem?_eq_getElem (by omega)
  rw [inStep_some hx]
  cases hq : inB2 l.length at_ k l[k] with
  | true => exact ⟨k, l[k], rfl, by omega, hx, hq⟩
  | false =>
   have hne : i ≠ k := fun e => by
    subst e
    rw [hx] at hp
    cases hp
    rw [hq] at hb
    cases hb
   obtain ⟨j, q, h1, h2, h3⟩ := inStep_yes k (by omega) ⟨i, p, by omega, hp, hb⟩
   exact ⟨j, q, h1, by omega, h3⟩
theorem endOf_take {l : List PcD} {i : Nat} {p : PcD} (h : l[i]? = some p) : endOf (l.take (i + 1)) = endOf (l.take i) + p.size := by
 rw [List.take_add_one, h]
 exact endOf_snoc _ _
theorem endOf_find {l : List PcD} {at_ : Int} (h0 : 0 ≤ at_) : ∀ k, at_ < endOf (l.take k) → ∃ j p, l[j]? = some p ∧ endOf (l.take j) ≤ at_ ∧ at_ < endOf (l.take j) + p.size
 | 0, h => by simp [endOf] at h; omega
 | k + 1, h => by
  by_cases hk : at_ < endOf (l.take k)
  ·exact endOf_find h0 k hk
  ·cases hx : l[k]? with
   | none =>
    rw [List.take_add_one, hx] at h
    simp at h
    omega
   | some p => exact ⟨k, p, hx, by omega, by rw [← endOf_take hx]; exact h⟩
theorem inP_out {l : List PcD} {n at_ : Int} (hb : ∀ p ∈ l, 0 ≤ p.at_ ∧ 0 ≤ p.size ∧ p.at_ + p.size ≤ n) (h : at_ < 0 ∨ n < at_ ∨ l.length = 0) : inP l at_ = -1 := by
 refine inStep_no _ (Nat.le_refl _) fun i p hi hp => ?_
 have := hb p (List.mem_of_getElem? hp)
 unfold inB2
 rcases h with h | h | h
 ·rw [decide_eq_false (by omega)]; rfl
 ·rw [decide_eq_false (p := at_ < p.at_ + p.size) (by omega), show (at_ == p.at_ + p.size) = false by simp; omega]; simp
 ·omega
theorem inP_in {l : List PcD} {n at_ : Int} (hc : Chain l n) (h0 : 0 ≤ at_) (h1 : at_ ≤ n) (hl : 0 < l.length) :
  ∃ (i : Nat) (p : PcD), inP l at_ = (i : Int) ∧ i < l.length ∧ l[i]? = some p ∧ p.at_ ≤ at_ ∧ (at_ < p.at_ + p.size ∨ at_ = n ∧ (i : Int) = (l.length : Int) - 1) := by
 have hex : ∃ i p, i < l.length ∧ l[i]? = some p ∧ inB2 l.length at_ i p = true := by
  by_cases hn : at_ < n
  ·have hn' : at_ < endOf (l.take l.length) := by rw [List.take_length, hc.1]; exact hn
   obtain ⟨j, p, hp, g1, g2⟩ := endOf_find h0 _ hn'
   have hp2 := (hc.2 j p hp).1
   refine ⟨j, p, (List.getElem?_eq_some_iff.1 hp).1, hp, ?_⟩
   unfold inB2
   rw [decide_eq_true (show p.at_ ≤ at_ by omega), decide_eq_true (show at_ < p.at_ + p.size by omega)]
   rfl
  ·have hx : l[l.length - 1]? = some l[l.length - 1] := List.getElem?_eq_getElem (by omega)
   have he := endOf_take hx
   rw [show l.length - 1 + 1 = l.length by omega, List.take_length, hc.1] at he
   have hp2 := hc.2 _ _ hx
   refine ⟨l.length - 1, _, by omega, hx, ?_⟩
   unfold inB2
   rw [decide_eq_true (by omega), show (((l.length - 1 : Nat) : Int) == (l.length : Int) - 1) = true by simp; omega, show (at_ == (l[l.length - 1]).at_ + (l[l.length - 1]).size) = true by simp; omega]
   simp
 obtain ⟨i, p, g1, g2, g3, g4⟩ := inStep_yes l.length (Nat.le_refl _) hex
 refine ⟨i, p, g1, g2, g3, ?_⟩
 unfold inB2 at g4
 rw [Bool.and_eq_true, Bool.or_eq_true, Bool.and_eq_true] at g4
 obtain ⟨x1, x2⟩ := g4
 refine ⟨of_decide_eq_true x1, ?_⟩
 rcases x2 with x2 | ⟨x2, x3⟩
 ·exact .inl (of_decide_eq_true x2)
 ·right
  have y2 : (i : Int) = (l.length : Int) - 1 := by simpa using x2
  have y3 : at_ = p.at_ + p.size := by simpa using x3
  have he := endOf_take g3
  rw [show i + 1 = l.length by omega, List.take_length, hc.1] at he
  have hp2 := (hc.2 i p g3).1
  exact ⟨by omega, y2⟩
theorem pieces_some {s : SecD} : (piecesOf s).length = 1 ∨ ∀ p ∈ piecesOf s, 1 ≤ p.size := by
 cases hq : hasF s.flags 16 with
 | false => left; unfold piecesOf; rw [hq]; rfl
 | true =>
  right
  have e : piecesOf s = (pcStep (hasF s.flags 32) s.ent s.data s.data.length).1 := by unfold piecesOf; rw [hq]; rfl
  rw [e]
  intro p hp
  exact ((pcStep_inv (hasF s.flags 32) s.ent s.data s.data.length (Nat.le_refl _)).2.2.2.1 p hp).2.1
end Go.Proofs.YteopgmieindojaaGreat

namespace Go.Proofs.YteopgmieindojaaGreat
open Go.RowKit
structure EdgeD where
 (off type add to_ at_ : Int)
structure NodeD where
 (obj sec pos : Int)
 (name : ByteArray)
 (type flags align ent size : Int)
 (data : List UInt8)
 (edges : List EdgeD)
 (unique : Bool)
 (group link : Int)
structure NmD where
 (name : ByteArray)
 (to_ at_ : Int)
structure GraphD where
 (nodes : List NodeD)
 (to_ at_ : Int)
 (names : List NmD)
abbrev Sx := Nat × Nat × SecD
abbrev eZ : EdgeD := ⟨0, 0, 0, 0, 0⟩
def secsTo (l : List ObjD) : List Sx := allTo ObjD.secs l l.length
def hasN (D : List (List Bool)) (x : Sx) : Bool := hasF x.2.2.flags 2 && !((drAt D x.1)[x.2.1]?.getD false)
def pcsAt (D : List (List Bool)) (x : Sx) : List PcD := bif hasN D x then piecesOf x.2.2 else []
def groupTo (l : List ObjD) (i : Nat) (o : ObjD) (n : Int) : Nat → Int
 | 0 => 0
 | k + 1 => match o.groups[k]? with
  | none => groupTo l i o n k
  | some g => bif g.members.contains n then ((allTo ObjD.groups l i).length : Int) + (k : Int) + 1 else groupTo l i o n k
def obAt (l : List ObjD) (i : Nat) : ObjD := l[i]?.getD ⟨[], [], [], false, []⟩
def groupB (l : List ObjD) (i : Nat) (n : Int) : Int := groupTo l i (obAt l i) n (obAt l i).groups.length
def hitSig (l : List ObjD) (D : List (List Bool)) (i n : Int) (x : Nat × Nat × Int) : Bool := (whereB l D x.1 x.2.2).2 == 0 && ((whereB l D x.1 x.2.2).1.sec == n && (whereB l D x.1 x.2.2).1.obj == i)
def namedB (l : List ObjD) (D : List (List Bool)) (i n : Int) : Bool := (allTo ObjD.sig l l.length).any (hitSig l D i n)
def uniqB (l : List ObjD) (D : List (List Bool)) (x : Sx) : Bool := bif hasF x.2.2.flags 16 then false else bif !(obAt l x.1).hasSig then true else namedB l D x.1 ((x.2.1 : Int) + 1)
def firstB (l : List ObjD) (D : List (List Bool)) (i k : Nat) : Nat := ((atTo ObjD.secs l i k).flatMap (pcsAt D)).length
def findPc (pcs : List PcD) (first : Nat) (at_ : Int) : Option (Int × Int) := if inP pcs at_ < 0 then none else (pcs[(inP pcs at_).toNat]?).map fun q => ((first : Int) + inP pcs at_, at_ - q.at_)
def findB (l : List ObjD) (D : List (List Bool)) (p : PlaceD) : Option (Int × Int) := if p.sec < 1 then none else match (obAt l p.obj.toNat).secs[(p.sec - 1).toNat]? with
 | none => none
 | some s => findPc (pcsAt D (p.obj.toNat, (p.sec - 1).toNat, s)) (firstB l D p.obj.toNat (p.sec - 1).toNat) p.at_
def edgeB (l : List ObjD) (D : List (List Bool)) (i : Nat) (r : RelD) : EdgeD × Int := if (whereB l D i r.sym).2 ≠ 0 then (eZ, (whereB l D i r.sym).2) else if (whereB l D i r.sym).1.sec < 1 then (⟨r.off, r.type, r.add, -1, (whereB l D i r.sym).1.at_⟩, 0) else match findB l D (whereB l D i r.sym).1 with
 | none => (eZ, 6)
 | some t => (⟨r.off, r.type, r.add, t.1, t.2⟩, 0)
def firstErr : List Int → Int
 | [] => 0
 | c :: cs => if c = 0 then firstErr cs else c
def relsN (s : SecD) : List RelD := bif hasF s.flags 16 then [] else s.rels
def edgesN (l : List ObjD) (D : List (List Bool)) (x : Sx) : List EdgeD := (relsN x.2.2).map fun r => (edgeB l D x.1 r).1
def codesN (l : List ObjD) (D : List (List Bool)) (x : Sx) : List Int := (relsN x.2.2).map fun r => (edgeB l D x.1 r).2
def errsN (l : List ObjD) (D : List (List Bool)) (x : Sx) : List Int := (pcsAt D x).flatMap fun _ => codesN l D x
def dataN (s : SecD) (p : PcD) : List UInt8 := bif s.type == 1 then win s.data p.at_.toNat p.size.toNat else []
def mkN (l : List ObjD) (D : List (List Bool)) (x : Sx) (p : PcD) : NodeD :=
 ⟨x.1, (x.2.1 : Int) + 1, p.at_, x.2.2.name, x.2.2.type, x.2.2.flags, x.2.2.align, x.2.2.ent, p.size, dataN x.2.2 p, edgesN l D x, uniqB l D x, groupB l x.1 ((x.2.1 : Int) + 1), x.2.2.link⟩
def nodesOf (l : List ObjD) (D : List (List Bool)) (xs : List Sx) : List NodeD := xs.flatMap fun x => (pcsAt D x).map (mkN l D x)
def errB (l : List ObjD) (D : List (List Bool)) : Int := firstErr ((secsTo l).flatMap (errsN l D))
def gnameB (l : List ObjD) (D : List (List Bool)) (d : DefD) : Option NmD := if (whereB l D d.obj d.sym).2 ≠ 0 then none else (findB l D (whereB l D d.obj d.sym).1).map fun t => ⟨d.name, t.1, t.2⟩
def namesB (l : List ObjD) (D : List (List Bool)) (defs : List DefD) : List NmD := defs.filterMap (gnameB l D)
def graphB (l : List ObjD) (D : List (List Bool)) (defs : List DefD) (entry : ByteArray) : Option GraphD × Int := if errB l D ≠ 0 then (none, errB l D) else match (namesB l D defs).find? fun n => sEq n.name entry with
 | none => (none, 5)
 | some n => (some ⟨nodesOf l D (secsTo l), n.to_, n.at_, namesB l D defs⟩, 0)
theorem firstErr_append : ∀ a b : List Int, firstErr (a ++ b) = if firstErr a = 0 then firstErr b else firstErr a
 | [], b => by simp [firstErr]
 | c :: a, b => by
  by_cases h : c = 0
  ·simp only [List.cons_append, firstErr, if_pos h]
   exact firstErr_append a b
  ·simp only [List.cons_append, firstErr, if_neg h]
theorem firstErr_zero : ∀ {a : List Int}, firstErr a = 0 → ∀ c ∈ a, c = 0
 | [], _, c, h => by cases h
 | x :: a, h0, c, h => by
  unfold firstErr at h0
  split at h0
  ·rename_i hx
   rcases List.mem_cons.1 h with rfl | h
   ·exact hx
   ·exact firstErr_zero h0 c h
  ·contradiction
theorem atTo_le {α : Type} {f : ObjD → List α} {l : List ObjD} {i k : Nat} : ∀ y ∈ atTo f l i k, y.1 < i ∨ y.1 = i ∧ y.2.1 < k := fun y hy => (atTo_mem.1 (show (y.1, y.2.1, y.2.2) ∈ _ from hy)).1
theorem allTo_split {α : Type} {f : ObjD → List α} {l : List ObjD} {i k : Nat} {o : ObjD} {x : α} (ho : l[i]? = some o) (hx : (f o)[k]? = some x) : ∀ {n : Nat}, i < n → ∃ rest, allTo f l n = atTo f l i k ++ (i, k, x) :: rest ∧ ∀ y ∈ rest, i < y.1 ∨ y.1 = i ∧ k < y.2.1 := fun {n} hn => by
 induction n with
 | zero => omega
 | succ n ih =>
  by_cases h : i < n
  ·obtain ⟨rest, e, hr⟩ := ih h
   refine ⟨rest ++ (match l[n]? with | some o => tagged f n o | none => []), ?_, fun y hy => ?_⟩
   ·conv => lhs; unfold allTo
    rw [e]
    cases l[n]? <;> simp
   ·rcases List.mem_append.1 hy with hy | hy
    ·exact hr y hy
    ·left
     cases hq : l[n]? with
     | none => rw [hq] at hy; cases hy
     | some o' =>
      rw [hq] at hy
      simp only [tagged, List.mem_mapIdx] at hy
      obtain ⟨j, hj, rfl⟩ := hy
      exact h
  ·obtain rfl : i = n := by omega
   have hk : k < (tagged f i o).length := by rw [tagged_length]; exact (List.getElem?_eq_some_iff.1 hx).1
   have hg := (List.getElem?_eq_some_iff.1 (tagged_get (i := i) hx)).2
   refine ⟨(tagged f i o).drop (k + 1), ?_, fun y hy => ?_⟩
   ·show allTo f l i ++ (match l[i]? with | some o => tagged f i o | none => []) = (allTo f l i ++ (match l[i]? with | some o => (tagged f i o).take k | none => [])) ++ _
    rw [ho]
    simp only
    rw [List.append_assoc]
    congr 1
    rw [← hg, ← List.drop_eq_getElem_cons hk, List.take_append_drop]
   ·right
    obtain ⟨j, hj⟩ := List.mem_iff_getElem?.1 hy
    rw [List.getElem?_drop] at hj
    simp only [tagged, List.getElem?_mapIdx] at hj
    cases hq : (f o)[k + 1 + j]? with
    | none => rw [hq] at hj; cases hj
    | some z =>
     rw [hq] at hj
     cases hj
     exact ⟨rfl, by simp only; omega⟩
theorem nodesOf_append (l : List ObjD) (D : List (List Bool)) (a b : List Sx) : nodesOf l D (a ++ b) = nodesOf l D a ++ nodesOf l D b := by simp [nodesOf]
theorem nodesOf_length (l : List ObjD) (D : List (List Bool)) (a : List Sx) : (nodesOf l D a).length = (a.flatMap (pcsAt D)).length := by
 induction a with
 | nil => rfl
 | cons x a ih => simp only [nodesOf, List.flatMap_cons, List.length_append, List.length_map] at ih ⊢; omega
theorem nodesOf_mem {l : List ObjD} {D : List (List Bool)} {a : List Sx} {y : NodeD} (h : y ∈ nodesOf l D a) : ∃ x ∈ a, ∃ p ∈ pcsAt D x, y = mkN l D x p := by
 unfold nodesOf at h
 obtain ⟨x, hx, hy⟩ := List.mem_flatMap.1 h
 obtain ⟨p, hp, rfl⟩ := List.mem_map.1 hy
 exact ⟨x, hx, p, hp, rfl⟩
theorem inStep_le {l : List PcD} {at_ : Int} : ∀ k, inStep l at_ k < (k : Int) ∧ -1 ≤ inStep l at_ k
 | 0 => by simp [inStep]
 | k + 1 => by
  have := inStep_le (l := l) (at_ := at_) k
  unfold inStep
  cases l[k]? with
  | none => simp only; omega
  | some p =>
   simp only
   cases inB2 l.length at_ k p <;> simp only [cond_true, cond_false] <;> omega
end Go.Proofs.YteopgmieindojaaGreat

namespace Go.Proofs.YteopgmieindojaaGreat
open Go.RowKit
theorem below_grow (w : World) (o : Obj) : Below w.heap.size w (w.drew.alloc o) := (Below.refl _ w).drew.alloc (by simp) o
theorem wpList_append_bytes {P : Program} (w : World) {ops : Array Oper} {rest : List Oper} {o : Oper} {a : Act} {Q : Exit → Act → World → Prop} (hgd : o.guard = none) (s x : Operand) (t : TypeId)
  (ho : o.op = .call { callee := .builtin .append, args := #[s, x], argTypes := #[t, t] })
  (base : Nat) (e : TypeId) (i : TypeInfo) (ht : P.underlying t = some (.slice e)) (hi : P.info? e = some i) (hz : i.zero = some (.int .u8 0)) (hs : i.size = 1) (hb : i.bytes = 1)
  (v : Value) (n : Nat) (l : List UInt8) (hes : a.eval s = v) (hown : w.ownsRow base e 1 v n (l.map u8v)) (q : Option Addr) (m c : Nat) (r : List UInt8) (hex : a.eval x = .slice q m c) (hq : Has w q r) (hr : r.length = m) (hcq : q = none → c = 0)
  (hbig : n + m ≤ 1000000000) (hbase : base ≤ w.heap.size)
  (h : ∀ v' w', w'.ownsRow base e 1 v' (n + m) ((l ++ r).map u8v) → w.grownBy w' v.ownBlock → (v'.ownBlock = v.ownBlock ∨ v'.ownBlock = some w.heap.size) → wpList P ops Q rest (a.put o.dst v') w') : wpList P ops Q (o :: rest) a w := by
 rcases q with _ | ad
 ·have hr0 : r = [] := by
   cases r with
   | nil => rfl
   | cons y r => obtain ⟨a, e, _⟩ := hq 0 y rfl; cases e
  subst hr0
  have hm : m = 0 := hr.symm
  subst hm
  rw [hcq rfl] at hex
  exact wpList_append_own_none hgd s x t ho base e i 1 ht hi v n _ hes hown hex (h v w (by simpa using hown) (World.grownBy.refl w _) (.inl rfl))
 ·exact wpList_append_own_at w hgd s x t ho base e i (.int .u8 0) 1 1 ht hi hz hs hb rfl (by decide) v n _ hes hown ad m c (r.map u8v) hex (by simp [hr]) hq.cells (map_oneCell _) (by unfold maxLen; omega) (by omega) hbase
   fun v' w' h1 h2 _ h4 => h v' w' (by rw [List.map_append]; exact h1) h2 h4
end Go.Proofs.YteopgmieindojaaGreat

namespace Go.Proofs.YteopgmieindojaaGreat
open Go.RowKit
def GivesP (T : TypeId) (l : List PcD) (w : World) (e : Ending) (w' : World) : Prop := ∃ v, e = .returned v ∧ w'.ownsRow w.heap.size T 2 v l.length (pcV l) ∧ Below w.heap.size w w'
theorem two_cell_at (w : World) (x y : Int) (t : TypeId) : ∀ j z, [Value.int .i64 x, .int .i64 y][j]? = some z → (w.alloc (.cells #[.int .i64 x, .int .i64 y] t)).cell? ((⟨w.heap.size, 0, none⟩ : Addr).add j) = some z := fun j z hj => by
 match j, hj with
 | 0, hj => simp at hj; subst hj; simp [Addr.add]
 | 1, hj => simp at hj; subst hj; simp [Addr.add]
theorem two_cells (x y : Int) : ∀ u ∈ [Value.int .i64 x, .int .i64 y], u.oneCell' = true := fun u hu => by
 simp at hu
 rcases hu with rfl | rfl <;> rfl
def SecBd (s : SecD) : Prop := (-9223372036854775808 ≤ s.flags ∧ s.flags ≤ 9223372036854775807) ∧ (-9223372036854775808 ≤ s.ent ∧ s.ent ≤ 9223372036854775807) ∧ (-9223372036854775808 ≤ s.size ∧ s.size ≤ 9223372036854775807)
end Go.Proofs.YteopgmieindojaaGreat

namespace Go.Proofs.YteopgmieindojaaGreat
open Go.RowKit
def edgeC (x : EdgeD) : List Value := [.int .i64 x.off, .int .i64 x.type, .int .i64 x.add, .int .i64 x.to_, .int .i64 x.at_]
def EdgeD.bd (x : EdgeD) : Prop := i64bd x.off ∧ i64bd x.type ∧ i64bd x.add ∧ i64bd x.to_ ∧ i64bd x.at_
def EEdge (w : World) (b o : Nat) (x : EdgeD) : Prop := EInt w b o x.off ∧ EInt w b (o + 1) x.type ∧ EInt w b (o + 2) x.add ∧ EInt w b (o + 3) x.to_ ∧ EInt w b (o + 4) x.at_
theorem EEdge.keeps : Keeps EEdge := fun _ _ _ _ _ hb ⟨h0, h1, h2, h3, h4⟩ => ⟨EInt.keeps _ _ _ _ _ hb h0, EInt.keeps _ _ _ _ _ hb h1, EInt.keeps _ _ _ _ _ hb h2, EInt.keeps _ _ _ _ _ hb h3, EInt.keeps _ _ _ _ _ hb h4⟩
theorem isL_edges {w : World} {B : Nat} {T : TypeId} {v : Value} {l : List EdgeD} (h : w.ownsRow B T 5 v l.length (l.flatMap edgeC)) (hb : ∀ r ∈ l, r.bd) : IsL 5 EEdge w v l := by
 have := isL_rows (k := 5) (f := edgeC) (g := id) (E := EEdge) (fun _ => rfl) h (fun x hx b o hc => by
  obtain ⟨b0, b1, b2, b3, b4⟩ := hb x hx
  exact ⟨⟨hc 0 _ rfl, b0⟩, ⟨hc 1 _ rfl, b1⟩, ⟨hc 2 _ rfl, b2⟩, ⟨hc 3 _ rfl, b3⟩, ⟨hc 4 _ rfl, b4⟩⟩)
 simpa using this
def nmC (x : NmD) : List Value := [.string x.name, .int .i64 x.to_, .int .i64 x.at_]
def NmD.bd (x : NmD) : Prop := x.name.size ≤ maxLen ∧ i64bd x.to_ ∧ i64bd x.at_
def ENm (w : World) (b o : Nat) (x : NmD) : Prop := EStr w b o x.name ∧ EInt w b (o + 1) x.to_ ∧ EInt w b (o + 2) x.at_
theorem ENm.keeps : Keeps ENm := fun _ _ _ _ _ hb ⟨h0, h1, h2⟩ => ⟨EStr.keeps _ _ _ _ _ hb h0, EInt.keeps _ _ _ _ _ hb h1, EInt.keeps _ _ _ _ _ hb h2⟩
theorem isL_nms {w : World} {B : Nat} {T : TypeId} {v : Value} {l : List NmD} (h : w.ownsRow B T 3 v l.length (l.flatMap nmC)) (hb : ∀ r ∈ l, r.bd) : IsL 3 ENm w v l := by
 have := isL_rows (k := 3) (f := nmC) (g := id) (E := ENm) (fun _ => rfl) h (fun x hx b o hc => by
  obtain ⟨b0, b1, b2⟩ := hb x hx
  exact ⟨⟨hc 0 _ rfl, b0⟩, ⟨hc 1 _ rfl, b1⟩, ⟨hc 2 _ rfl, b2⟩⟩)
 simpa using this
def ENode (w : World) (b o : Nat) (x : NodeD) : Prop :=
 EInt w b o x.obj ∧ EInt w b (o + 1) x.sec ∧ EInt w b (o + 2) x.pos ∧ EStr w b (o + 3) x.name ∧ EInt w b (o + 4) x.type ∧ EInt w b (o + 5) x.flags ∧ EInt w b (o + 6) x.align ∧ EInt w b (o + 7) x.ent ∧ EInt w b (o + 8) x.size ∧
 (∃ v, w.cell? ⟨b, o + 9, none⟩ = some v ∧ IsL 1 EByte w v x.data) ∧ (∃ v, w.cell? ⟨b, o + 10, none⟩ = some v ∧ IsL 5 EEdge w v x.edges) ∧ EBool w b (o + 11) x.unique ∧ EInt w b (o + 12) x.group ∧ EInt w b (o + 13) x.link
theorem ENode.keeps : Keeps ENode := fun _ _ _ _ _ hb ⟨h0, h1, h2, h3, h4, h5, h6, h7, h8, ⟨v9, c9, h9⟩, ⟨v10, c10, h10⟩, h11, h12, h13⟩ =>
 ⟨EInt.keeps _ _ _ _ _ hb h0, EInt.keeps _ _ _ _ _ hb h1, EInt.keeps _ _ _ _ _ hb h2, EStr.keeps _ _ _ _ _ hb h3, EInt.keeps _ _ _ _ _ hb h4, EInt.keeps _ _ _ _ _ hb h5, EInt.keeps _ _ _ _ _ hb h6, EInt.keeps _ _ _ _ _ hb h7, EInt.keeps _ _ _ _ _ hb h8,
  ⟨v9, keep_cell hb c9, h9.below EByte.keeps hb⟩, ⟨v10, keep_cell hb c10, h10.below EEdge.keeps hb⟩, EBool.keeps _ _ _ _ _ hb h11, EInt.keeps _ _ _ _ _ hb h12, EInt.keeps _ _ _ _ _ hb h13⟩
structure NodeV where
 (x : NodeD)
 (d e : Value)
def NodeV.cells (n : NodeV) : List Value := [.int .i64 n.x.obj, .int .i64 n.x.sec, .int .i64 n.x.pos, .string n.x.name, .int .i64 n.x.type, .int .i64 n.x.flags, .int .i64 n.x.align, .int .i64 n.x.ent, .int .i64 n.x.size, n.d, n.e, .bool n.x.unique, .int .i64 n.x.group, .int .i64 n.x.link]
def NodeD.bd (x : NodeD) : Prop := i64bd x.obj ∧ i64bd x.sec ∧ i64bd x.pos ∧ x.name.size ≤ maxLen ∧ i64bd x.type ∧ i64bd x.flags ∧ i64bd x.align ∧ i64bd x.ent ∧ i64bd x.size ∧ i64bd x.group ∧ i64bd x.link
def NodeV.ok (n : NodeV) (N : Nat) (w : World) : Prop := w.ownsRow N 5 1 n.d n.x.data.length (n.x.data.map u8v) ∧ w.ownsRow N 92 5 n.e n.x.edges.length (n.x.edges.flatMap edgeC) ∧ (∀ r ∈ n.x.edges, r.bd) ∧ n.x.bd
theorem NodeV.ok.fr {n : NodeV} {N M : Nat} {Ts : List TypeId} {w w' : World} (h : n.ok N w) (hf : FrT M Ts w w') (h1 : 5 ∉ Ts) (h2 : 92 ∉ Ts) : n.ok N w' := ⟨hf.owns h.1 h1, hf.owns h.2.1 h2, h.2.2⟩
theorem NodeV.ok.below {n : NodeV} {N : Nat} {w w' : World} (h : n.ok N w) (hb : Below w.heap.size w w') : n.ok N w' := ⟨owns_belowN h.1 hb, owns_belowN h.2.1 hb, h.2.2⟩
theorem NodeV.ok.lower {n : NodeV} {N M : Nat} {w : World} (h : n.ok N w) (hM : M ≤ N) : n.ok M w := ⟨owns_lower h.1 hM, owns_lower h.2.1 hM, h.2.2⟩
theorem isL_nodes {w : World} {B N : Nat} {T : TypeId} {v : Value} {l : List NodeV} (h : w.ownsRow B T 14 v l.length (l.flatMap NodeV.cells)) (ho : ∀ n ∈ l, n.ok N w) : IsL 14 ENode w v (l.map NodeV.x) :=
 isL_rows (k := 14) (f := NodeV.cells) (fun _ => rfl) h (fun x hx b o hc => by
  obtain ⟨h1, h2, h3, b0, b1, b2, b3, b4, b5, b6, b7, b8, b12, b13⟩ := ho x hx
  exact ⟨⟨hc 0 _ rfl, b0⟩, ⟨hc 1 _ rfl, b1⟩, ⟨hc 2 _ rfl, b2⟩, ⟨hc 3 _ rfl, b3⟩, ⟨hc 4 _ rfl, b4⟩, ⟨hc 5 _ rfl, b5⟩, ⟨hc 6 _ rfl, b6⟩, ⟨hc 7 _ rfl, b7⟩, ⟨hc 8 _ rfl, b8⟩, ⟨x.d, hc 9 _ rfl, isL_bytes h1⟩, ⟨x.e, hc 10 _ rfl, isL_edges h2 h3⟩, hc 11 _ rfl, ⟨hc 12 _ rfl, b12⟩, ⟨hc 13 _ rfl, b13⟩⟩)
def IsGraph (w : World) (cs : Array Value) : Option GraphD → Prop
 | none => cs = #[.slice none 0 0, .int .i64 0, .int .i64 0, .slice none 0 0]
 | some g => ∃ v0 v3, cs = #[v0, .int .i64 g.to_, .int .i64 g.at_, v3] ∧ IsL 14 ENode w v0 g.nodes ∧ IsL 3 ENm w v3 g.names
theorem IsGraph.below {w w' : World} {cs : Array Value} {g : Option GraphD} (h : IsGraph w cs g) (hb : Below w.heap.size w w') : IsGraph w' cs g := by
 cases g with
 | none => exact h
 | some g =>
  obtain ⟨v0, v3, e, h0, h3⟩ := h
  exact ⟨v0, v3, e, h0.below ENode.keeps hb, h3.below ENm.keeps hb⟩
structure SecG (s : SecD) : Prop where
 facts : SecFacts s
 bd : SecBd s
 kind : s.type = 1 ∧ s.size = (s.data.length : Int) ∨ s.type = 8 ∧ s.data.length = 0
 few : s.data.length ≤ 16384
 rels : hasF s.flags 16 = true → s.rels = []
 link : s.rels.length ≤ 100
def SecsG (l : List ObjD) : Prop := ∀ o ∈ l, ∀ s ∈ o.secs, SecG s
theorem relsN_eq {s : SecD} (h : SecG s) : relsN s = s.rels := by
 unfold relsN
 cases hq : hasF s.flags 16 with
 | false => rfl
 | true => rw [h.rels hq]; rfl
end Go.Proofs.YteopgmieindojaaGreat

namespace Go.Proofs.YteopgmieindojaaGreat
open Go.RowKit
def PFindOK : Prop := ∀ (pp : Option Addr) (c : Nat) (l : List PcD) (n at_ : Int) (w : World), HasL 2 EPc w pp l → l.length ≤ c → c ≤ maxLen → (pp = none → c = 0) → l.length ≤ 16384 → Chain l n → n ≤ 2147483647 → (∀ p ∈ l, 0 ≤ p.at_ ∧ 0 ≤ p.size ∧ p.at_ + p.size ≤ n) → (l.length = 1 ∨ ∀ p ∈ l, 1 ≤ p.size) →
  -9223372036854775808 ≤ at_ → at_ ≤ 9223372036854775807 →
  Calls Tryz.prog 166 #[.slice pp l.length c, .int .i64 at_] w fun e w' => e = .returned (.int .i64 (inP l at_)) ∧ Below w.heap.size w w'
theorem pieces_bd {s : SecD} (h : SecFacts s) : ∀ p ∈ piecesOf s, p.bd := fun p hp => by
 have h1 := (pieces_facts h).2.2.1 p hp
 have h2 := h.1
 unfold PcD.bd
 omega
theorem isL_get {α : Type} {k : Nat} {E : World → Nat → Nat → α → Prop} {w : World} {v : Value} {l : List α} (h : IsL k E w v l) : ∃ pp c, v = .slice pp l.length c ∧ l.length ≤ c ∧ c ≤ maxLen ∧ (pp = none → c = 0) ∧ HasL k E w pp l := h
end Go.Proofs.YteopgmieindojaaGreat
