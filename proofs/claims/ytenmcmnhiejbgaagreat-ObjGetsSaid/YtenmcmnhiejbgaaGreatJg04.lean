/-
  An object's bytes, by definition: its parts, in order, and how they are laid. (Nothing here speaks of the program.)
  Rows of strings in a call's own memory; structs of six numbers in a block.
  Laws on rows of parts and of bytes that grow side by side. (Nothing here speaks of the program's functions.)
  A flag of a number of flags, by a bit of it and by division. Nothing here walks the program.
  Contracts of the project's own within, isPlace, has.
  Contracts of the project's own mayLink, mayType.
-/
import Derived.Test.YtenmcmnhiejbgaaGreatJg02
import Derived.Test.YtenmcmnhiejbgaaGreatObjMem
import Derived.Test.YtenmcmnhiejbgaaGreatJg03
import Derived.Test.YtenmcmnhiejbgaaGreatMem0
import Derived.Test.YtenmcmnhiejbgaaGreatShapeA
import Derived.Laws.BitsLemmas
import Derived.Deep.DeepCutAuto
namespace Go.Proofs.YtenmcmnhiejbgaaGreat
open Go.RowKit

def nRela : ByteArray := ⟨#[46, 114, 101, 108, 97]⟩
def nGroup : ByteArray := ⟨#[46, 103, 114, 111, 117, 112]⟩
def nSig : ByteArray := ⟨#[46, 108, 108, 118, 109, 95, 97, 100, 100, 114, 115, 105, 103]⟩
def nSymtab : ByteArray := ⟨#[46, 115, 121, 109, 116, 97, 98]⟩
def nStrtab : ByteArray := ⟨#[46, 115, 116, 114, 116, 97, 98]⟩
def nShstr : ByteArray := ⟨#[46, 115, 104, 115, 116, 114, 116, 97, 98]⟩
def nNone : ByteArray := ⟨#[]⟩

/-! ## Parts -/
def fouOf (r : RelD) : Fou := ⟨r.off, r.type, r.sym, r.add⟩
def relsBy (l : List RelD) : List UInt8 := l.flatMap fun r => relB (fouOf r)
def relHead (a n : Int) : Ten := ⟨0, 4, 0, 0, 0, 0, a, n, 8, 24⟩
def relPart (a n : Int) (s : SecD) : List PartD := if s.rels.length = 0 then [] else [⟨relHead a n, nRela, relsBy s.rels⟩]
def relPartAt (a : Int) (secs : List SecD) (i : Nat) : List PartD := match secs[i]? with | some s => relPart a ((i : Int) + 1) s | none => []
def relPs (a : Int) (secs : List SecD) (k : Nat) : List PartD := (List.range k).flatMap (relPartAt a secs)
theorem relPs_succ {a : Int} {secs : List SecD} {k : Nat} {s : SecD} (h : secs[k]? = some s) : relPs a secs (k + 1) = relPs a secs k ++ relPart a ((k : Int) + 1) s := by
  unfold relPs
  rw [List.range_succ, List.flatMap_append]
  simp [relPartAt, h]
theorem relPart_len (a n : Int) (s : SecD) : (relPart a n s).length ≤ 1 := by unfold relPart; split <;> simp
theorem relPs_len (a : Int) (secs : List SecD) : ∀ k, (relPs a secs k).length ≤ k
  | 0 => by simp [relPs]
  | k + 1 => by
    have ih := relPs_len a secs k
    unfold relPs at ih ⊢
    rw [List.range_succ, List.flatMap_append, List.length_append]
    have : (relPartAt a secs k).length ≤ 1 := by
      unfold relPartAt
      split
      · exact relPart_len _ _ _
      · simp
    simp
    simp at ih
    omega
theorem flatMap_len {α β : Type} (f g : α → List β) (h : ∀ x, (f x).length = (g x).length) : ∀ l : List α, (l.flatMap f).length = (l.flatMap g).length
  | [] => rfl
  | x :: r => by rw [List.flatMap_cons, List.flatMap_cons, List.length_append, List.length_append, h x, flatMap_len f g h r]
theorem relPs_len_any (a b : Int) (secs : List SecD) (k : Nat) : (relPs a secs k).length = (relPs b secs k).length :=
  flatMap_len _ _ (fun i => by unfold relPartAt relPart; split <;> (try split) <;> rfl) _
theorem relsBy_snoc (l : List RelD) (r : RelD) : relsBy (l ++ [r]) = relsBy l ++ relB (fouOf r) := by simp [relsBy]
theorem relsBy_length : ∀ l : List RelD, (relsBy l).length = 24 * l.length
  | [] => rfl
  | r :: l => by
    have ih := relsBy_length l
    unfold relsBy at ih ⊢
    rw [List.flatMap_cons, List.length_append, relB_length, ih, List.length_cons]
    omega

def memB (m : Int) : List UInt8 := leB 4 (u64n m)
def groupBy (ms : List Int) : List UInt8 := [1, 0, 0, 0] ++ ms.flatMap memB
theorem groupBy_snoc (l : List Int) (r : Int) : groupBy (l ++ [r]) = groupBy l ++ memB r := by simp [groupBy]
theorem groupBy_length : ∀ l : List Int, (groupBy l).length = 4 + 4 * l.length
  | [] => rfl
  | r :: l => by
    have ih := groupBy_length l
    unfold groupBy at ih ⊢
    simp only [List.length_append, List.flatMap_cons, List.length_cons, List.length_nil] at ih ⊢
    have : (memB r).length = 4 := leB_length _ _
    omega
def groupHead (a y : Int) : Ten := ⟨0, 17, 0, 0, 0, 0, a, y, 4, 4⟩
def groupPart (a : Int) (g : GroupD) : PartD := ⟨groupHead a g.sym, nGroup, groupBy g.members⟩
def sigBy (l : List Int) : List UInt8 := l.flatMap fun n => ulebB 5 n.toNat
theorem sigBy_snoc (l : List Int) (r : Int) : sigBy (l ++ [r]) = sigBy l ++ ulebB 5 r.toNat := by simp [sigBy]
theorem sigBy_length : ∀ l : List Int, (sigBy l).length ≤ 5 * l.length
  | [] => Nat.le_refl _
  | r :: l => by
    have ih := sigBy_length l
    unfold sigBy at ih ⊢
    have := ulebB_length 5 r.toNat
    rw [List.flatMap_cons, List.length_append, List.length_cons]
    omega
def sigHead (a : Int) : Ten := ⟨0, 1879002115, 0, 0, 0, 0, a, 0, 1, 0⟩
def sigPart (a : Int) (l : List Int) : PartD := ⟨sigHead a, nSig, sigBy l⟩
def groupPs (a : Int) (gs : List GroupD) (has : Bool) (sig : List Int) : List PartD := gs.map (groupPart a) ++ bif has then [sigPart a sig] else []
theorem groupPs_len_any (a b : Int) (gs : List GroupD) (has : Bool) (sig : List Int) : (groupPs a gs has sig).length = (groupPs b gs has sig).length := by cases has <;> simp [groupPs]
theorem groupPs_len (a : Int) (gs : List GroupD) (has : Bool) (sig : List Int) : (groupPs a gs has sig).length ≤ gs.length + 1 := by cases has <;> simp [groupPs]

def symIdx (x : Int) : Int := if x = -1 then 65521 else x
def sixOf (pl : Nat) (s : SymD) : Six := ⟨pl, s.bind, s.type, symIdx s.sec, s.value, s.size⟩
def symNames (l : List SymD) : List Nm := l.map fun s => lst s.name
def symsBy (ns : List Nm) (l : List SymD) : List UInt8 := l.flatMap fun s => entB (sixOf (placeOf ns (lst s.name)) s)
theorem symsBy_snoc (ns : List Nm) (l : List SymD) (s : SymD) : symsBy ns (l ++ [s]) = symsBy ns l ++ entB (sixOf (placeOf ns (lst s.name)) s) := by simp [symsBy]
theorem symsBy_length (ns : List Nm) : ∀ l : List SymD, (symsBy ns l).length = 24 * l.length
  | [] => rfl
  | r :: l => by
    have ih := symsBy_length ns l
    unfold symsBy at ih ⊢
    rw [List.flatMap_cons, List.length_append, entB_length, ih, List.length_cons]
    omega
def localsOf (l : List SymD) : Nat := (l.filter fun s => s.bind == 0).length
theorem localsOf_snoc (l : List SymD) (s : SymD) : localsOf (l ++ [s]) = localsOf l + (bif s.bind == 0 then 1 else 0) := by
  unfold localsOf
  rw [List.filter_append, List.length_append]
  cases h : s.bind == 0 <;> simp [h]
theorem localsOf_le (l : List SymD) : localsOf l ≤ l.length := List.length_filter_le _ _
def symHead (a : Int) (n : Nat) : Ten := ⟨0, 2, 0, 0, 0, 0, a + 1, n, 8, 24⟩
def tabHead : Ten := ⟨0, 3, 0, 0, 0, 0, 0, 0, 1, 0⟩
def symPs (a : Int) (l : List SymD) : List PartD := [⟨symHead a (localsOf l), nSymtab, symsBy (symNames l) l⟩, ⟨tabHead, nStrtab, (tabOf (symNames l)).tb⟩]

def secHead (s : SecD) : Ten := ⟨0, s.type, s.flags, 0, 0, s.size, s.link, 0, s.align, s.ent⟩
def secPart (s : SecD) : PartD := ⟨secHead s, s.name, s.data⟩
def nul10 : Ten := ⟨0, 0, 0, 0, 0, 0, 0, 0, 0, 0⟩
def zeroPart : PartD := ⟨nul10, nNone, []⟩
/-- The number of the symbols' header. -/
def symNo (o : ObjD) : Nat := 1 + o.secs.length + (relPs 0 o.secs o.secs.length).length + (groupPs 0 o.groups o.hasSig o.sig).length
/-- All parts but that of the headers' names. -/
def partsOf (o : ObjD) : List PartD := zeroPart :: o.secs.map secPart ++ relPs (symNo o) o.secs o.secs.length ++ groupPs (symNo o) o.groups o.hasSig o.sig ++ symPs (symNo o) o.syms
theorem partsOf_length (o : ObjD) : (partsOf o).length = symNo o + 2 := by
  unfold partsOf
  simp only [List.length_append, List.length_cons, List.length_map]
  rw [relPs_len_any (symNo o) 0, groupPs_len_any (symNo o) 0]
  unfold symNo symPs
  simp only [List.length_cons, List.length_nil]
  omega

/-! ## How they are laid -/
def headNames (l : List PartD) : List Nm := l.map (fun p => lst p.name) ++ [lst nShstr]
def lastPart (ns : List Nm) : PartD := ⟨tabHead, nNone, (tabOf ns).tb⟩
def bodyOf (l : List PartD) : List UInt8 := l.flatMap PartD.b
theorem bodyOf_snoc (l : List PartD) (p : PartD) : bodyOf (l ++ [p]) = bodyOf l ++ p.b := by simp [bodyOf]
/-- The header of part i, whose bytes begin at off in the body. -/
def headAt (pl : List Nat) (i : Nat) (off : Nat) (p : PartD) : Ten :=
  ⟨((pl.getD i 0 : Nat) : Int), p.h.b, p.h.c, p.h.d, if i = 0 then p.h.e else 64 + (off : Int), if i = 0 ∨ p.h.b = 8 then p.h.f else (p.b.length : Int), p.h.g, p.h.h, p.h.i, p.h.j⟩
def headBy (pl : List Nat) (l : List PartD) (i : Nat) : List UInt8 := match l[i]? with
  | some p => sectB (headAt pl i (bodyOf (l.take i)).length p)
  | none => []
def headsBy (pl : List Nat) (l : List PartD) (k : Nat) : List UInt8 := (List.range k).flatMap (headBy pl l)
theorem headsBy_succ {pl : List Nat} {l : List PartD} {k : Nat} {p : PartD} (h : l[k]? = some p) : headsBy pl l (k + 1) = headsBy pl l k ++ sectB (headAt pl k (bodyOf (l.take k)).length p) := by
  unfold headsBy
  rw [List.range_succ, List.flatMap_append]
  simp [headBy, h]
theorem headsBy_length (pl : List Nat) (l : List PartD) : ∀ k, k ≤ l.length → (headsBy pl l k).length = 64 * k
  | 0, _ => rfl
  | k + 1, h => by
    have ih := headsBy_length pl l k (by omega)
    rw [headsBy_succ (List.getElem?_eq_getElem h), List.length_append, ih, sectB_length]
    omega
def layOf (l : List PartD) : List UInt8 :=
  let ns := headNames l
  let a := l ++ [lastPart ns]
  hdrB (64 + (bodyOf a).length) a.length (a.length - 1) ++ bodyOf a ++ headsBy (placesOf ns) a a.length
def bytesOf (o : ObjD) : List UInt8 := layOf (partsOf o)

/-- What the laying asks of an object. -/
structure Lays (o : ObjD) : Prop where
  nsec : o.secs.length ≤ 40
  nsym : o.syms.length ≤ 140
  ngrp : o.groups.length ≤ 40
  nsig : o.sig.length ≤ 16384
  secs : ∀ s ∈ o.secs, fitsB s.type = true ∧ fitsB s.flags = true ∧ fitsB s.size = true ∧ fitsB s.link = true ∧ fitsB s.align = true ∧ fitsB s.ent = true ∧ mayB (lst s.name) = true ∧ s.data.length ≤ 20000 ∧ s.rels.length ≤ 80 ∧
    (s.type ≠ 8 → s.size = s.data.length) ∧ ∀ r ∈ s.rels, (fouOf r).may ∧ -9223372036854775808 ≤ r.add ∧ r.add ≤ 9223372036854775807
  grps : ∀ g ∈ o.groups, fitsB g.sym = true ∧ g.members.length ≤ 50 ∧ ∀ m ∈ g.members, fitsB m = true
  syms : ∀ s ∈ o.syms, mayB (lst s.name) = true ∧ fitsB s.value = true ∧ fitsB s.size = true ∧ 0 ≤ s.bind ∧ s.bind ≤ 2 ∧ 0 ≤ s.type ∧ s.type ≤ 3 ∧ -1 ≤ s.sec ∧ s.sec ≤ 40
  sigs : ∀ n ∈ o.sig, fitsB n = true

theorem placesOf_length' (ns : List Nm) : (placesOf ns).length = ns.length := by simp [placesOf]
theorem placeOf_le (ns : List Nm) (m : Nm) (h : m = [] ∨ m ∈ ns) : placeOf ns m ≤ (tabOf ns).tb.length := by
  obtain ⟨r, hr⟩ := stands ns m h
  have : ((tabOf ns).tb.drop (placeOf ns m)).length = m.length + (r.length + 1) := by rw [hr]; simp
  rw [List.length_drop] at this
  omega
theorem tab_small (ns : List Nm) (hl : ns.length ≤ 10000) (h : ∀ n ∈ ns, mayB n = true) : (tabOf ns).tb.length ≤ 330001 := by
  rcases tab_length ns with h1 | ⟨n, hn, h2⟩
  · omega
  · rw [h n hn] at h2
    cases h2
theorem places_small (l : List SymD) (hl : l.length ≤ 10000) (h : ∀ s ∈ l, mayB (lst s.name) = true) : ∀ s ∈ l, placeOf (symNames l) (lst s.name) ≤ 2147483647 := fun s hs => by
  have h1 := placeOf_le (symNames l) (lst s.name) (.inr (List.mem_map.2 ⟨s, hs, rfl⟩))
  have h2 := tab_small (symNames l) (by unfold symNames; simpa using hl) fun n hn => by
    obtain ⟨y, hy, rfl⟩ := List.mem_map.1 hn
    exact h y hy
  omega

/-! ## What fits -/
def PartOK (p : PartD) : Prop := p.b.length ≤ 400000 ∧ fitsB p.h.b = true ∧ fitsB p.h.c = true ∧ fitsB p.h.d = true ∧ fitsB p.h.e = true ∧ fitsB p.h.f = true ∧ fitsB p.h.g = true ∧ fitsB p.h.h = true ∧ fitsB p.h.i = true ∧ fitsB p.h.j = true
theorem fitsN (n : Nat) (h : n ≤ 2147483647) : fitsB (n : Int) = true := (fitsB_iff _).2 ⟨by omega, by omega⟩
theorem symNo_le {o : ObjD} (hl : Lays o) : symNo o ≤ 122 := by
  have h1 := relPs_len 0 o.secs o.secs.length
  have h2 := groupPs_len 0 o.groups o.hasSig o.sig
  have h3 := hl.nsec
  have h4 := hl.ngrp
  unfold symNo
  omega
theorem partsOf_ok {o : ObjD} (hl : Lays o) : ∀ p ∈ partsOf o, PartOK p := fun p hp => by
  have ha := symNo_le hl
  unfold partsOf at hp
  simp only [List.mem_append, List.mem_cons, List.mem_map] at hp
  rcases hp with (((rfl | ⟨s, hs, rfl⟩) | hp) | hp) | hp
  · exact ⟨by simp [zeroPart], rfl, rfl, rfl, rfl, rfl, rfl, rfl, rfl, rfl⟩
  · obtain ⟨h1, h2, h3, h4, h5, h6, _, h8, _⟩ := hl.secs s hs
    exact ⟨by show s.data.length ≤ _; omega, h1, h2, rfl, rfl, h3, h4, rfl, h5, h6⟩
  · unfold relPs at hp
    obtain ⟨i, hi, hp⟩ := List.mem_flatMap.1 hp
    have hi2 := List.mem_range.1 hi
    have h3 := hl.nsec
    unfold relPartAt at hp
    split at hp
    · rename_i s hs
      unfold relPart at hp
      split at hp
      · simp at hp
      · simp only [List.mem_singleton] at hp
        subst hp
        have hr := (hl.secs s (List.mem_of_getElem? hs)).2.2.2.2.2.2.2.2.1
        refine ⟨by show (relsBy s.rels).length ≤ _; rw [relsBy_length]; omega, rfl, rfl, rfl, rfl, rfl, fitsN _ (by omega), ?_, rfl, rfl⟩
        show fitsB ((i : Int) + 1) = true
        exact (fitsB_iff _).2 ⟨by omega, by omega⟩
    · simp at hp
  · unfold groupPs at hp
    rcases List.mem_append.1 hp with hp | hp
    · obtain ⟨g, hg, rfl⟩ := List.mem_map.1 hp
      obtain ⟨h1, h2, _⟩ := hl.grps g hg
      exact ⟨by show (groupBy g.members).length ≤ _; rw [groupBy_length]; omega, rfl, rfl, rfl, rfl, rfl, fitsN _ (by omega), h1, rfl, rfl⟩
    · cases hs : o.hasSig with
      | false => rw [hs] at hp; simp at hp
      | true =>
        rw [hs] at hp
        simp only [cond_true, List.mem_singleton] at hp
        subst hp
        have h5 := sigBy_length o.sig
        have h6 := hl.nsig
        exact ⟨by show (sigBy o.sig).length ≤ _; omega, rfl, rfl, rfl, rfl, rfl, fitsN _ (by omega), rfl, rfl, rfl⟩
  · unfold symPs at hp
    simp only [List.mem_cons, List.not_mem_nil, or_false] at hp
    have h5 := hl.nsym
    rcases hp with rfl | rfl
    · have h6 := localsOf_le o.syms
      refine ⟨by show (symsBy _ o.syms).length ≤ _; rw [symsBy_length]; omega, rfl, rfl, rfl, rfl, rfl, ?_, fitsN _ (by omega), rfl, rfl⟩
      show fitsB ((symNo o : Int) + 1) = true
      exact (fitsB_iff _).2 ⟨by omega, by omega⟩
    · have h6 := tab_small (symNames o.syms) (by unfold symNames; simp; omega) fun n hn => by
        obtain ⟨y, hy, rfl⟩ := List.mem_map.1 hn
        exact (hl.syms y hy).1
      exact ⟨by show (tabOf (symNames o.syms)).tb.length ≤ _; omega, rfl, rfl, rfl, rfl, rfl, rfl, rfl, rfl, rfl⟩
theorem partsOf_names {o : ObjD} (hl : Lays o) : ∀ p ∈ partsOf o, mayB (lst p.name) = true := fun p hp => by
  unfold partsOf at hp
  simp only [List.mem_append, List.mem_cons, List.mem_map] at hp
  rcases hp with (((rfl | ⟨s, hs, rfl⟩) | hp) | hp) | hp
  · rfl
  · exact (hl.secs s hs).2.2.2.2.2.2.1
  · unfold relPs at hp
    obtain ⟨i, hi, hp⟩ := List.mem_flatMap.1 hp
    unfold relPartAt at hp
    split at hp
    · unfold relPart at hp
      split at hp
      · simp at hp
      · simp only [List.mem_singleton] at hp
        subst hp
        show mayB (lst nRela) = true
        decide
    · simp at hp
  · unfold groupPs at hp
    rcases List.mem_append.1 hp with hp | hp
    · obtain ⟨g, hg, rfl⟩ := List.mem_map.1 hp
      show mayB (lst nGroup) = true
      decide
    · cases hs : o.hasSig with
      | false => rw [hs] at hp; simp at hp
      | true =>
        rw [hs] at hp
        simp only [cond_true, List.mem_singleton] at hp
        subst hp
        show mayB (lst nSig) = true
        decide
  · unfold symPs at hp
    simp only [List.mem_cons, List.not_mem_nil, or_false] at hp
    rcases hp with rfl | rfl
    · show mayB (lst nSymtab) = true
      decide
    · show mayB (lst nStrtab) = true
      decide
theorem body_len : ∀ (l : List PartD), (∀ p ∈ l, PartOK p) → (bodyOf l).length ≤ 400000 * l.length
  | [], _ => Nat.le_refl _
  | p :: r, h => by
    have ih := body_len r fun q hq => h q (List.mem_cons_of_mem _ hq)
    have h1 := (h p (List.mem_cons_self ..)).1
    unfold bodyOf at ih ⊢
    rw [List.flatMap_cons, List.length_append, List.length_cons]
    omega
/-- All parts that are laid. -/
def allOf (o : ObjD) : List PartD := partsOf o ++ [lastPart (headNames (partsOf o))]
theorem headNames_ok {o : ObjD} (hl : Lays o) : ∀ n ∈ headNames (partsOf o), mayB n = true := fun n hn => by
  unfold headNames at hn
  rcases List.mem_append.1 hn with hn | hn
  · obtain ⟨p, hp, rfl⟩ := List.mem_map.1 hn
    exact partsOf_names hl p hp
  · simp only [List.mem_singleton] at hn
    subst hn
    decide
theorem headNames_length (l : List PartD) : (headNames l).length = l.length + 1 := by unfold headNames; simp
theorem allOf_length (o : ObjD) : (allOf o).length = symNo o + 3 := by unfold allOf; rw [List.length_append, partsOf_length]; rfl
theorem allOf_ok {o : ObjD} (hl : Lays o) : ∀ p ∈ allOf o, PartOK p := fun p hp => by
  unfold allOf at hp
  rcases List.mem_append.1 hp with hp | hp
  · exact partsOf_ok hl p hp
  · simp only [List.mem_singleton] at hp
    subst hp
    have ha := symNo_le hl
    have h6 := tab_small (headNames (partsOf o)) (by rw [headNames_length, partsOf_length]; omega) (headNames_ok hl)
    exact ⟨by show (tabOf _).tb.length ≤ _; omega, rfl, rfl, rfl, rfl, rfl, rfl, rfl, rfl, rfl⟩
theorem body_take {o : ObjD} (hl : Lays o) (i : Nat) : (bodyOf ((allOf o).take i)).length ≤ 50000000 := by
  have ha := symNo_le hl
  have h := body_len ((allOf o).take i) fun p hp => allOf_ok hl p (List.mem_of_mem_take hp)
  have h2 : ((allOf o).take i).length ≤ symNo o + 3 := by rw [← allOf_length]; simp; omega
  omega
theorem bytesOf_eq (o : ObjD) : bytesOf o = hdrB (64 + (bodyOf (allOf o)).length) (allOf o).length ((allOf o).length - 1) ++ bodyOf (allOf o) ++ headsBy (placesOf (headNames (partsOf o))) (allOf o) (allOf o).length := rfl

end Go.Proofs.YtenmcmnhiejbgaaGreat

namespace Go.Proofs.YtenmcmnhiejbgaaGreat
open Go.RowKit

theorem Tryz.infoStr : (Tryz.prog.info? 9).map (fun i => (i.zero, i.size, i.bytes)) = some (some (.string ⟨#[]⟩), 1, 16) := by kernel_rfl
theorem HasS.of_owns {w : World} {base : Nat} {e : TypeId} {v : Value} {n : Nat} {xs : List ByteArray} (h : w.ownsRow base e 1 v n (xs.map Value.string)) :
    ∃ p c, v = .slice p n c ∧ n ≤ c ∧ c ≤ maxLen ∧ xs.length = n ∧ HasS w p xs := by
  have hl : xs.length = n := by have := h.1; simpa using this
  rcases h.2 with ⟨rfl, hn⟩ | ⟨g, cap, cur, rfl, _, hg, hnc, hcm, _, _⟩
  · subst hn
    have h0 : xs = [] := List.eq_nil_of_length_eq_zero hl
    subst h0
    exact ⟨none, 0, rfl, Nat.le_refl _, Nat.zero_le _, rfl, fun i x hx => by simp at hx⟩
  · refine ⟨some ⟨g, 0, none⟩, cap, rfl, hnc, hcm, hl, fun i x hx => ⟨_, rfl, ?_⟩⟩
    have hi : i < n := by have := (List.getElem?_eq_some_iff.1 hx).1; omega
    have hc := h.cellAt i (by omega)
    rw [List.getElem?_map, hx] at hc
    have ha : (⟨g, 0, none⟩ : Addr).add i = ⟨g, i, none⟩ := by unfold Addr.add; split <;> simp_all
    rw [ha]
    simpa using hc
theorem one_str (x : ByteArray) : ∀ u ∈ [Value.string x], u.oneCell' = true := fun u hu => by simp at hu; subst hu; rfl
theorem str_snoc (l : List ByteArray) (x : ByteArray) : l.map Value.string ++ [.string x] = (l ++ [x]).map Value.string := by simp
theorem cells6 (w : World) (g : Nat) (v0 v1 v2 v3 v4 v5 : Value) (T : TypeId) (h : w.heap[g]? = some (.cells #[v0, v1, v2, v3, v4, v5] T (0, 0))) :
    w.cell? ⟨g, 0, none⟩ = some v0 ∧ w.cell? ⟨g, 1, none⟩ = some v1 ∧ w.cell? ⟨g, 2, none⟩ = some v2 ∧ w.cell? ⟨g, 3, none⟩ = some v3 ∧ w.cell? ⟨g, 4, none⟩ = some v4 ∧ w.cell? ⟨g, 5, none⟩ = some v5 := by
  refine ⟨?_, ?_, ?_, ?_, ?_, ?_⟩ <;> exact (cell_of_row w g _ _ _ (0, 0) h).trans rfl
theorem heap_new (w : World) (o : Obj) : (w.alloc o).heap[w.heap.size]? = some o := heap_alloc_new w o
end Go.Proofs.YtenmcmnhiejbgaaGreat

namespace Go.Proofs.YtenmcmnhiejbgaaGreat
open Go.RowKit

theorem owns_belowN {w w' : World} {base s : Nat} {e : TypeId} {v : Value} {n : Nat} {xs : List Value} (h : w.ownsRow base e s v n xs) (hb : Below w.heap.size w w') : w'.ownsRow base e s v n xs :=
  h.kept (row := none) ⟨hb.os, hb.tape, hb.output, hb.size, fun k hk _ => hb.block k hk⟩ (by cases hv : v.ownBlock <;> simp)
theorem none_cap {w : World} {base n : Nat} {T : TypeId} {p : Option Addr} {c : Nat} {xs : List Value} (h : w.ownsRow base T 1 (.slice p n c) n xs) : p = none → c = 0 := fun hp => by
  subst hp
  rcases h.2 with ⟨h1, _⟩ | ⟨g, cap, cur, h1, _⟩ <;> simp at h1
  exact h1.2
def strsOf (l : List SymD) : List ByteArray := l.map SymD.name
theorem slice_form {w : World} {base n s : Nat} {T : TypeId} {v : Value} {xs : List Value} (h : w.ownsRow base T s v n xs) : ∃ p c, v = .slice p n c ∧ n ≤ c ∧ c ≤ maxLen ∧ (p = none → c = 0) := by
  rcases h.2 with ⟨rfl, rfl⟩ | ⟨g, cap, cur, rfl, _, _, hnc, hcm, _, _⟩
  · exact ⟨none, 0, rfl, Nat.le_refl _, Nat.zero_le _, fun _ => rfl⟩
  · exact ⟨_, _, rfl, hnc, hcm, fun h => by cases h⟩
theorem SlB.of_isL {w : World} {v : Value} {l : List UInt8} (h : IsL 1 EByte w v l) : SlB w (fun b => b < w.heap.size) v l := by
  obtain ⟨p, c, rfl, h1, h2, h3, h4⟩ := h
  refine ⟨p, c, rfl, h1, h2, h3, fun i x hx => ?_⟩
  obtain ⟨a, e, hc⟩ := h4.has i x hx
  have := World.block_lt_of_cell? w _ hc
  rw [block_of_add] at this
  exact ⟨a, e, hc, this⟩
theorem SlB.of_cells {w : World} {dp : Option Addr} {n c : Nat} {l : List UInt8} (h : HasL 1 EByte w dp l) (hn : l.length = n) (h1 : n ≤ c) (h2 : c ≤ maxLen) (h3 : dp = none → c = 0) : SlB w (fun b => b < w.heap.size) (.slice dp n c) l :=
  SlB.of_isL ⟨dp, c, by rw [hn], by omega, h2, h3, h⟩
theorem cells9 (w : World) (g : Nat) (v0 v1 v2 v3 v4 v5 v6 v7 v8 : Value) (T : TypeId) (h : w.heap[g]? = some (.cells #[v0, v1, v2, v3, v4, v5, v6, v7, v8] T (0, 0))) :
    w.cell? ⟨g, 0, none⟩ = some v0 ∧ w.cell? ⟨g, 1, none⟩ = some v1 ∧ w.cell? ⟨g, 2, none⟩ = some v2 ∧ w.cell? ⟨g, 3, none⟩ = some v3 ∧ w.cell? ⟨g, 4, none⟩ = some v4 ∧ w.cell? ⟨g, 5, none⟩ = some v5 ∧ w.cell? ⟨g, 6, none⟩ = some v6 ∧ w.cell? ⟨g, 7, none⟩ = some v7 ∧ w.cell? ⟨g, 8, none⟩ = some v8 := by
  refine ⟨?_, ?_, ?_, ?_, ?_, ?_, ?_, ?_, ?_⟩ <;> exact (cell_of_row w g _ _ _ (0, 0) h).trans rfl
theorem ne_step1 {A B A' : Option Nat} {N : Nat} (h : ∀ b, A = some b → B ≠ some b) (hB : ∀ b, B = some b → b < N) (hat : A' = A ∨ A' = some N) : ∀ b, A' = some b → B ≠ some b := fun b hb he => by
  rcases hat with rfl | rfl
  · exact h b hb he
  · have h1 := hB b he
    have h2 := Option.some.inj hb
    omega
theorem ne_step2 {A B B' : Option Nat} {N : Nat} (h : ∀ b, A = some b → B ≠ some b) (hA : ∀ b, A = some b → b < N) (hat : B' = B ∨ B' = some N) : ∀ b, A = some b → B' ≠ some b := fun b hb he => by
  rcases hat with rfl | rfl
  · exact h b hb he
  · have h1 := hA b hb
    have h2 := Option.some.inj he
    omega
theorem ne_or {A B : Option Nat} (h : ∀ b, A = some b → B ≠ some b) : B = none ∨ B ≠ A := by
  cases hB : B with
  | none => exact .inl rfl
  | some b => exact .inr fun e => h b e.symm hB
theorem own_ne {w : World} {base s n : Nat} {T : TypeId} {v v2 : Value} {xs : List Value} (h : w.ownsRow base T s v n xs) (hlt : ∀ b, v2.ownBlock = some b → b < base) : v.ownBlock = none ∨ v.ownBlock ≠ v2.ownBlock := by
  cases hv : v.ownBlock with
  | none => exact .inl rfl
  | some b =>
    refine .inr fun e => ?_
    have h1 := (h.lt b hv).1
    have h2 := hlt b e.symm
    omega
theorem cells_ten (w : World) (g : Nat) (v0 v1 v2 v3 v4 v5 v6 v7 v8 v9 : Value) (T : TypeId) (h : w.heap[g]? = some (.cells #[v0, v1, v2, v3, v4, v5, v6, v7, v8, v9] T (0, 0))) :
    w.cell? ⟨g, 0, none⟩ = some v0 ∧ w.cell? ⟨g, 1, none⟩ = some v1 ∧ w.cell? ⟨g, 2, none⟩ = some v2 ∧ w.cell? ⟨g, 3, none⟩ = some v3 ∧ w.cell? ⟨g, 4, none⟩ = some v4 ∧ w.cell? ⟨g, 5, none⟩ = some v5 ∧ w.cell? ⟨g, 6, none⟩ = some v6 ∧ w.cell? ⟨g, 7, none⟩ = some v7 ∧ w.cell? ⟨g, 8, none⟩ = some v8 ∧ w.cell? ⟨g, 9, none⟩ = some v9 := by
  refine ⟨?_, ?_, ?_, ?_, ?_, ?_, ?_, ?_, ?_, ?_⟩ <;> exact (cell_of_row w g _ _ _ (0, 0) h).trans rfl
/-- A part of a row of parts, with all its cells. -/
theorem part_at {w : World} {base n : Nat} {T : TypeId} {p0 : Option Addr} {c0 : Nat} {q : Bool} {pv : List PV} {pd : List PartD} {K : Nat → Prop} (h : w.ownsRow base T 12 (.slice p0 n c0) n (pvs q pv)) (hpa : PartsAt w K pv pd) (hn : pd.length = n) {k : Nat} (hk : k < n) :
    ∃ (g : Nat) (p : PV) (y : PartD), p0 = some ⟨g, 0, none⟩ ∧ pd[k]? = some y ∧ p.h = y.h ∧ p.name = y.name ∧ SlB w K p.v y.b ∧ ∀ j, j < 12 → w.cell? ⟨g, k * 12 + j, none⟩ = (p.cells q)[j]? := by
  rcases h.2 with ⟨_, h0⟩ | ⟨g, cap, cur, he, _, _, _, _, _, _⟩
  · omega
  · simp only [Value.slice.injEq] at he
    obtain ⟨rfl, _, rfl⟩ := he
    have hkd : k < pd.length := by omega
    have hkv : k < pv.length := by rw [hpa.1]; exact hkd
    obtain ⟨h1, h2, h3⟩ := hpa.2 k _ _ (List.getElem?_eq_getElem hkv) (List.getElem?_eq_getElem hkd)
    refine ⟨g, pv[k], pd[k], rfl, List.getElem?_eq_getElem hkd, h1, h2, h3, fun j hj => ?_⟩
    rw [h.cellAt (k * 12 + j) (by omega)]
    exact pvs_get q pv k _ j (List.getElem?_eq_getElem hkv) hj
/-- append(l, x...) of two rows of the call's own. -/
theorem wpList_append_rows {P : Program} (w : World) {ops : Array Oper} {rest : List Oper} {o : Oper} {a : Act} {Q : Exit → Act → World → Prop} (hgd : o.guard = none) (s x : Operand) (t : TypeId)
    (ho : o.op = .call { callee := .builtin .append, args := #[s, x], argTypes := #[t, t] })
    (base : Nat) (e : TypeId) (i : TypeInfo) (z : Value) (size bytes : Nat) (ht : P.underlying t = some (.slice e)) (hi : P.info? e = some i) (hz : i.zero = some z)
    (hsize : i.size = size) (hby : i.bytes = bytes) (hzs : z.cells.size = size) (hsz : 0 < size)
    (v : Value) (n : Nat) (xs : List Value) (hes : a.eval s = v) (hown : w.ownsRow base e size v n xs) (v2 : Value) (m : Nat) (ys : List Value) (hex : a.eval x = v2) (b2 : Nat) (hown2 : w.ownsRow b2 e size v2 m ys) (h1 : ∀ u ∈ ys, u.oneCell' = true)
    (h63 : n + m ≤ maxLen) (hbytes : (n + m) * bytes ≤ 140737488355328) (hbase : base ≤ w.heap.size)
    (h : ∀ v' w', w'.ownsRow base e size v' (n + m) (xs ++ ys) → w.grownBy w' v.ownBlock → (v'.ownBlock = v.ownBlock ∨ v'.ownBlock = some w.heap.size) → wpList P ops Q rest (a.put o.dst v') w') : wpList P ops Q (o :: rest) a w := by
  rcases hown2.2 with ⟨rfl, hm⟩ | ⟨g, cap, cur, rfl, _, _, _, _, _, _⟩
  · subst hm
    obtain rfl : ys = [] := List.eq_nil_of_length_eq_zero (by simpa using hown2.1)
    exact wpList_append_own_none hgd s x t ho base e i size ht hi v n _ hes hown hex (h v w (by simpa using hown) (World.grownBy.refl w _) (.inl rfl))
  · exact wpList_append_own_at w hgd s x t ho base e i z size bytes ht hi hz hsize hby hzs hsz v n _ hes hown ⟨g, 0, none⟩ m cap ys hex hown2.1 (hown2.cells (g := g) rfl) h1 h63 hbytes hbase
      fun v' w' k1 k2 _ k4 => h v' w' k1 k2 k4
end Go.Proofs.YtenmcmnhiejbgaaGreat

namespace Go.Proofs.YtenmcmnhiejbgaaGreat
open Go.RowKit

/-- Has a number of flags a flag: the project's way. -/
def hasO (fl k : Int) : Bool := bits .and .i64 fl k != 0
theorem wraps_i64 (n : Int) (h₀ : 0 ≤ n) (h₁ : n < 2 ^ 63) : IntKind.i64.wrap n = n := by
  rw [IntKind.wrap_i64]
  have : (2 : Int) ^ 63 = 9223372036854775808 := by decide
  omega
theorem hasO_eq {fl : Int} (j : Nat) (hj : j < 63) (h0 : 0 ≤ fl) (h1 : fl ≤ 9223372036854775807) : hasO fl (2 ^ j) = hasF fl (2 ^ j) := by
  obtain ⟨a, rfl⟩ := Int.eq_ofNat_of_zero_le h0
  have ha : a < 2 ^ 63 := by
    have : (2 : Nat) ^ 63 = 9223372036854775808 := by decide
    omega
  have hk : (2 : Nat) ^ j < 2 ^ 63 := Nat.pow_lt_pow_right (by omega) hj
  have hb := (bits_nat .i64 63 (by decide) wraps_i64 a (2 ^ j) ha hk).1
  have e2 : ((2 ^ j : Nat) : Int) = (2 : Int) ^ j := by push_cast; rfl
  rw [e2] at hb
  unfold hasO hasF
  rw [hb, decide_eq_true h0, Bool.true_and]
  have hd : ((a : Int) / 2 ^ j).tmod 2 = ((a / 2 ^ j % 2 : Nat) : Int) := by
    rw [← e2, ← Int.natCast_ediv, Int.tmod_eq_emod_of_nonneg (Int.natCast_nonneg (a / 2 ^ j))]
    rfl
  rw [hd]
  have htb := Nat.testBit_eq_decide_div_mod_eq (x := a) (i := j)
  cases hb2 : a.testBit j with
  | true =>
    rw [hb2] at htb
    have h1 : a / 2 ^ j % 2 = 1 := of_decide_eq_true htb.symm
    have h2 : (a &&& 2 ^ j).testBit j = true := by rw [Nat.testBit_and, hb2, Nat.testBit_two_pow]; simp
    have h3 : a &&& 2 ^ j ≠ 0 := fun e => by rw [e] at h2; simp at h2
    have h4 : ((a &&& 2 ^ j : Nat) : Int) ≠ 0 := by omega
    rw [h1]
    simpa using h4
  | false =>
    rw [hb2] at htb
    have h1 : ¬ a / 2 ^ j % 2 = 1 := of_decide_eq_false htb.symm
    have h2 : a / 2 ^ j % 2 = 0 := by omega
    have h3 : a &&& 2 ^ j = 0 := Nat.eq_of_testBit_eq fun i => by
      rw [Nat.testBit_and, Nat.testBit_two_pow, Nat.zero_testBit]
      by_cases h : j = i
      · subst h; rw [hb2]; rfl
      · simp [h]
    rw [h2, h3]
    rfl
end Go.Proofs.YtenmcmnhiejbgaaGreat

namespace Go.Proofs.YtenmcmnhiejbgaaGreat
open Go.RowKit

def inR (n a b : Int) : Bool := decide (a ≤ n) && decide (n ≤ b)
theorem ownWithin_any (n a b : Int) (w : World) : Calls Tryz.prog 97 #[.int .i64 n, .int .i64 a, .int .i64 b] w fun e w' => e = .returned (.bool (inR n a b)) ∧ w = w' := by
  by_cases h1 : a ≤ n
  · have d1 : decide (a ≤ n) = true := decide_eq_true h1
    have HR : Hid (inR n a b = decide (n ≤ b)) := Lib.hid (by unfold inR; rw [d1]; rfl)
    by_cases h2 : n ≤ b
    · have d2 : decide (n ≤ b) = true := decide_eq_true h2
      have HR2 : Hid (inR n a b = true) := Lib.hid (by rw [HR.out, d2])
      clear h1 h2
      go_enter Tryz.func97, Tryz.ntmps97
      go_wp2_with fail
      go_ret
      rw [HR2.out]
      exact ⟨rfl, rfl⟩
    · have d2 : decide (n ≤ b) = false := decide_eq_false h2
      have HR2 : Hid (inR n a b = false) := Lib.hid (by rw [HR.out, d2])
      clear h1 h2
      go_enter Tryz.func97, Tryz.ntmps97
      go_wp2_with fail
      go_ret
      rw [HR2.out]
      exact ⟨rfl, rfl⟩
  · have d1 : decide (a ≤ n) = false := decide_eq_false h1
    have HR : Hid (inR n a b = false) := Lib.hid (by unfold inR; rw [d1]; rfl)
    clear h1
    go_enter Tryz.func97, Tryz.ntmps97
    go_wp2_with fail
    go_ret
    rw [HR.out]
    exact ⟨rfl, rfl⟩
theorem ownIsPlace_any (n : Int) (w : World) : Calls Tryz.prog 125 #[.int .i64 n] w fun e w' => e = .returned (.bool (inR n 0 2147483647)) ∧ w = w' := by
  have HW := Lib.hid fun W => ownWithin_any n 0 2147483647 W
  go_enter Tryz.func125, Tryz.ntmps125
  go_wp2_with fail
  refine (HW.out _).mono ?_
  rintro e w' ⟨rfl, rfl⟩
  go_wp2_with fail
  go_ret
  exact ⟨rfl, rfl⟩
theorem ownHas_any (nm : ByteArray) (ty fl al en li sz : Int) (vd vr : Value) (k : Int) (w : World) :
    Calls Tryz.prog 98 #[secV nm ty fl al en li sz vd vr, .int .i64 k] w fun e w' => e = .returned (.bool (hasO fl k)) ∧ Below w.heap.size w w' := by
  go_enter Tryz.func98, Tryz.ntmps98
  go_wp2_with fail
  go_ret
  exact ⟨rfl, (Below.refl _ w).alloc (Nat.le_refl _) _⟩
end Go.Proofs.YtenmcmnhiejbgaaGreat

namespace Go.Proofs.YtenmcmnhiejbgaaGreat
open Go.RowKit

def linkO (fl link num many : Int) : Bool := bif hasO fl 128 then inR link 1 many && (link != num) else link == 0
set_option maxRecDepth 100000 in
set_option maxHeartbeats 2000000 in
theorem ownMayLink_any (nm : ByteArray) (ty fl al en li sz : Int) (vd : Value) (rp : Option Addr) (rl rc : Nat) (dp : Option Addr) (dl dc : Nat) (num many : Int) (w : World) (_hd : vd = .slice dp dl dc) :
    Calls Tryz.prog 100 #[secV nm ty fl al en li sz vd (.slice rp rl rc), .int .i64 num, .int .i64 many] w fun e w' => e = .returned (.bool (linkO fl li num many)) ∧ Below w.heap.size w w' := by
  have hb1 : Below w.heap.size w (w.alloc (.cells #[.string nm, .int .i64 ty, .int .i64 fl, .int .i64 al, .int .i64 en, .int .i64 li, .int .i64 sz, vd, .slice rp rl rc] 48)) := (Below.refl _ w).alloc (Nat.le_refl _) _
  have hha := heap_new w (.cells #[.string nm, .int .i64 ty, .int .i64 fl, .int .i64 al, .int .i64 en, .int .i64 li, .int .i64 sz, vd, .slice rp rl rc] 48)
  have HH := Lib.hid fun W => ownHas_any nm ty fl al en li sz vd (.slice rp rl rc) 128 W
  have HW := Lib.hid fun W => ownWithin_any li 1 many W
  have hr : linkO fl li num many = bif hasO fl 128 then inR li 1 many && (li != num) else li == 0 := rfl
  have HB1 := Lib.hid hb1
  generalize linkO fl li num many = res at *
  generalize hasO fl 128 = h at *
  generalize inR li 1 many = q at *
  have HR := Lib.hid hr
  subst _hd
  clear hr hb1
  go_enter Tryz.func100, Tryz.ntmps100
  go_upto_region 1 with fail
  generalize w.alloc (.cells #[.string nm, .int .i64 ty, .int .i64 fl, .int .i64 al, .int .i64 en, .int .i64 li, .int .i64 sz, .slice dp dl dc, .slice rp rl rc] 48) = W1 at *
  obtain ⟨s0, s1, s2, s3, s4, s5, s6, s7, s8⟩ := cells9 _ _ _ _ _ _ _ _ _ _ _ _ hha
  clear hha
  have hbs := HB1.out.size
  go_wp2_with fail
  refine (HH.out _).mono ?_
  rintro e w2 ⟨rfl, hb2⟩
  have t5 := cell_later hb2 s5
  have hbw : Below w.heap.size w w2 := HB1.out.trans (hb2.mono hbs)
  clear s0 s1 s2 s3 s4 s5 s6 s7 s8 hb2
  cases h with
  | false =>
    have hE : Hid (res = (li == 0)) := Lib.hid (by rw [HR.out]; rfl)
    go_wp2_with fail
    go_ret
    rw [hE.out]
    exact ⟨rfl, hbw⟩
  | true =>
    have hE : Hid (res = (q && (li != num))) := Lib.hid (by rw [HR.out]; rfl)
    go_wp2_with fail
    refine (HW.out _).mono ?_
    rintro e w' ⟨rfl, rfl⟩
    cases q with
    | false =>
      have hE2 : Hid (res = false) := Lib.hid (by rw [hE.out]; rfl)
      go_wp2_with fail
      go_ret
      rw [hE2.out]
      exact ⟨rfl, hbw⟩
    | true =>
      have hE2 : Hid (res = (li != num)) := Lib.hid (by rw [hE.out]; rfl)
      go_wp2_with fail
      go_ret
      rw [hE2.out]
      exact ⟨rfl, hbw⟩

/-- A section's nine cells in block g. -/
structure SecAt (w : World) (g : Nat) (v0 v1 v2 v3 v4 v5 v6 v7 v8 : Value) : Prop where
  c0 : w.cell? ⟨g, 0, none⟩ = some v0
  c1 : w.cell? ⟨g, 1, none⟩ = some v1
  c2 : w.cell? ⟨g, 2, none⟩ = some v2
  c3 : w.cell? ⟨g, 3, none⟩ = some v3
  c4 : w.cell? ⟨g, 4, none⟩ = some v4
  c5 : w.cell? ⟨g, 5, none⟩ = some v5
  c6 : w.cell? ⟨g, 6, none⟩ = some v6
  c7 : w.cell? ⟨g, 7, none⟩ = some v7
  c8 : w.cell? ⟨g, 8, none⟩ = some v8
theorem SecAt.of {w : World} {g : Nat} {v0 v1 v2 v3 v4 v5 v6 v7 v8 : Value} {T : TypeId} (h : w.heap[g]? = some (.cells #[v0, v1, v2, v3, v4, v5, v6, v7, v8] T (0, 0))) : SecAt w g v0 v1 v2 v3 v4 v5 v6 v7 v8 := by
  obtain ⟨h0, h1, h2, h3, h4, h5, h6, h7, h8⟩ := cells9 _ _ _ _ _ _ _ _ _ _ _ _ h
  exact ⟨h0, h1, h2, h3, h4, h5, h6, h7, h8⟩
theorem SecAt.later {w w' : World} {g : Nat} {v0 v1 v2 v3 v4 v5 v6 v7 v8 : Value} (h : SecAt w g v0 v1 v2 v3 v4 v5 v6 v7 v8) (hb : Below w.heap.size w w') : SecAt w' g v0 v1 v2 v3 v4 v5 v6 v7 v8 :=
  ⟨cell_later hb h.c0, cell_later hb h.c1, cell_later hb h.c2, cell_later hb h.c3, cell_later hb h.c4, cell_later hb h.c5, cell_later hb h.c6, cell_later hb h.c7, cell_later hb h.c8⟩
def typeO (ty fl sz : Int) (dl : Nat) : Bool :=
  bif ty == 1 then (sz == (dl : Int)) && (decide (sz ≤ 16384) && !(hasO fl 1 && hasO fl 4)) else
  bif ty == 8 then ((dl : Int) == 0) && (inR sz 0 2147483647 && (hasO fl 1 && (!hasO fl 4 && !hasO fl 16))) else false
set_option maxRecDepth 100000 in
set_option maxHeartbeats 4000000 in
theorem ownMayType_any (nm : ByteArray) (ty fl al en li sz : Int) (dp rp : Option Addr) (dl dc rl rc : Nat) (w : World) :
    Calls Tryz.prog 126 #[secV nm ty fl al en li sz (.slice dp dl dc) (.slice rp rl rc)] w fun e w' => e = .returned (.bool (typeO ty fl sz dl)) ∧ Below w.heap.size w w' := by
  have hb1 : Below w.heap.size w (w.alloc (.cells #[.string nm, .int .i64 ty, .int .i64 fl, .int .i64 al, .int .i64 en, .int .i64 li, .int .i64 sz, .slice dp dl dc, .slice rp rl rc] 48)) := (Below.refl _ w).alloc (Nat.le_refl _) _
  have hha := heap_new w (.cells #[.string nm, .int .i64 ty, .int .i64 fl, .int .i64 al, .int .i64 en, .int .i64 li, .int .i64 sz, .slice dp dl dc, .slice rp rl rc] 48)
  have HS := Lib.hid (SecAt.of hha)
  have HH1 := Lib.hid fun W => ownHas_any nm ty fl al en li sz (.slice dp dl dc) (.slice rp rl rc) 1 W
  have HH4 := Lib.hid fun W => ownHas_any nm ty fl al en li sz (.slice dp dl dc) (.slice rp rl rc) 4 W
  have HH16 := Lib.hid fun W => ownHas_any nm ty fl al en li sz (.slice dp dl dc) (.slice rp rl rc) 16 W
  have HP := Lib.hid fun W => ownIsPlace_any sz W
  have hr : typeO ty fl sz dl = bif ty == 1 then (sz == (dl : Int)) && (decide (sz ≤ 16384) && !(hasO fl 1 && hasO fl 4)) else
    bif ty == 8 then ((dl : Int) == 0) && (inR sz 0 2147483647 && (hasO fl 1 && (!hasO fl 4 && !hasO fl 16))) else false := rfl
  have HB1 := Lib.hid hb1
  generalize typeO ty fl sz dl = res at *
  generalize hasO fl 1 = f1 at *
  generalize hasO fl 4 = f4 at *
  generalize hasO fl 16 = f16 at *
  generalize inR sz 0 2147483647 = q at *
  have HR := Lib.hid hr
  clear hr hb1 hha
  go_enter Tryz.func126, Tryz.ntmps126
  go_upto_region 1 with fail
  generalize w.alloc (.cells #[.string nm, .int .i64 ty, .int .i64 fl, .int .i64 al, .int .i64 en, .int .i64 li, .int .i64 sz, .slice dp dl dc, .slice rp rl rc] 48) = W1 at *
  obtain ⟨s0, s1, s2, s3, s4, s5, s6, s7, s8⟩ := HS.out
  have hbs := HB1.out.size
  cases t1 : (ty == 1) with
  | true =>
    have hE : Hid (res = ((sz == (dl : Int)) && (decide (sz ≤ 16384) && !(f1 && f4)))) := Lib.hid (by rw [HR.out, t1]; rfl)
    clear HR
    cases t2 : (sz == (dl : Int)) with
    | false =>
      have hE2 : Hid (res = false) := Lib.hid (by rw [hE.out, t2]; rfl)
      go_wp2_with fail
      go_ret
      rw [hE2.out]
      exact ⟨rfl, HB1.out⟩
    | true =>
      cases t3 : decide (sz ≤ 16384) with
      | false =>
        have hE2 : Hid (res = false) := Lib.hid (by rw [hE.out, t2, t3]; rfl)
        go_wp2_with fail
        go_ret
        rw [hE2.out]
        exact ⟨by trivial, HB1.out⟩
      | true =>
        have hE2 : Hid (res = !(f1 && f4)) := Lib.hid (by rw [hE.out, t2, t3]; rfl)
        clear hE
        go_wp2_with fail
        refine (HH1.out _).mono ?_
        rintro e w2 ⟨rfl, hb2⟩
        have HS2 := Lib.hid (HS.out.later hb2)
        have hbw : Below w.heap.size w w2 := HB1.out.trans (hb2.mono hbs)
        clear s0 s1 s2 s3 s4 s5 s6 s7 s8 hb2 HS
        obtain ⟨s0, s1, s2, s3, s4, s5, s6, s7, s8⟩ := HS2.out
        have hbws := hbw.size
        cases f1 with
        | false =>
          have hE3 : Hid (res = true) := Lib.hid (by rw [hE2.out]; rfl)
          go_wp2_with fail
          go_ret
          rw [hE3.out]
          exact ⟨rfl, hbw⟩
        | true =>
          have hE3 : Hid (res = !f4) := Lib.hid (by rw [hE2.out]; rfl)
          go_wp2_with fail
          refine (HH4.out _).mono ?_
          rintro e w3 ⟨rfl, hb3⟩
          have hbw3 : Below w.heap.size w w3 := hbw.trans (hb3.mono hbws)
          clear s0 s1 s2 s3 s4 s5 s6 s7 s8 hb3 HS2 hbw
          go_wp2_with fail
          go_ret
          rw [hE3.out]
          exact ⟨rfl, hbw3⟩
  | false =>
    cases t8 : (ty == 8) with
    | false =>
      have hE : Hid (res = false) := Lib.hid (by rw [HR.out, t1, t8]; rfl)
      go_wp2_with fail
      go_ret
      rw [hE.out]
      exact ⟨rfl, HB1.out⟩
    | true =>
      have hE : Hid (res = (((dl : Int) == 0) && (q && (f1 && (!f4 && !f16))))) := Lib.hid (by rw [HR.out, t1, t8]; rfl)
      clear HR
      rcases Nat.eq_zero_or_pos dl with h0 | h0
      · subst h0
        have hE2 : Hid (res = (q && (f1 && (!f4 && !f16)))) := Lib.hid (by rw [hE.out]; rfl)
        clear hE
        go_wp2_with fail
        refine (HP.out _).mono ?_
        rintro e w' ⟨rfl, rfl⟩
        cases q with
        | false =>
          have hE3 : Hid (res = false) := Lib.hid (by rw [hE2.out]; rfl)
          go_wp2_with fail
          go_ret
          rw [hE3.out]
          exact ⟨rfl, HB1.out⟩
        | true =>
          go_wp2_with fail
          refine (HH1.out _).mono ?_
          rintro e w2 ⟨rfl, hb2⟩
          have HS2 := Lib.hid (HS.out.later hb2)
          have hbw : Below w.heap.size w w2 := HB1.out.trans (hb2.mono hbs)
          clear s0 s1 s2 s3 s4 s5 s6 s7 s8 hb2 HS
          obtain ⟨s0, s1, s2, s3, s4, s5, s6, s7, s8⟩ := HS2.out
          have hbws := hbw.size
          cases f1 with
          | false =>
            have hE3 : Hid (res = false) := Lib.hid (by rw [hE2.out]; rfl)
            go_wp2_with fail
            go_ret
            rw [hE3.out]
            exact ⟨rfl, hbw⟩
          | true =>
            have hE3 : Hid (res = (!f4 && !f16)) := Lib.hid (by rw [hE2.out]; rfl)
            go_wp2_with fail
            refine (HH4.out _).mono ?_
            rintro e w3 ⟨rfl, hb3⟩
            have HS3 := Lib.hid (HS2.out.later hb3)
            have hbw3 : Below w.heap.size w w3 := hbw.trans (hb3.mono hbws)
            clear s0 s1 s2 s3 s4 s5 s6 s7 s8 hb3 HS2 hbw
            obtain ⟨s0, s1, s2, s3, s4, s5, s6, s7, s8⟩ := HS3.out
            have hbws3 := hbw3.size
            cases f4 with
            | true =>
              have hE4 : Hid (res = false) := Lib.hid (by rw [hE3.out]; rfl)
              go_wp2_with fail
              go_ret
              rw [hE4.out]
              exact ⟨rfl, hbw3⟩
            | false =>
              have hE4 : Hid (res = !f16) := Lib.hid (by rw [hE3.out]; rfl)
              go_wp2_with fail
              refine (HH16.out _).mono ?_
              rintro e w4 ⟨rfl, hb4⟩
              have hbw4 : Below w.heap.size w w4 := hbw3.trans (hb4.mono hbws3)
              clear s0 s1 s2 s3 s4 s5 s6 s7 s8 hb4 HS3 hbw3
              go_wp2_with fail
              go_ret
              rw [hE4.out]
              exact ⟨rfl, hbw4⟩
      · have hne : ((dl : Int) == 0) = false := by simp; omega
        have hE2 : Hid (res = false) := Lib.hid (by rw [hE.out, hne]; rfl)
        go_wp2_with fail
        go_ret
        rw [hE2.out]
        exact ⟨by trivial, HB1.out⟩
end Go.Proofs.YtenmcmnhiejbgaaGreat
