/-
  Parts of a proof.
-/
import Derived.Test.YteopgmieindojaaGreatGW01
import Derived.Test.YteopgmieindojaaGreatData
import Derived.Test.YteopgmieindojaaGreatMem0
import Derived.Test.YteopgmieindojaaGreatObjMem
import Derived.Test.YteopgmieindojaaGreatWords
import Derived.BigQuiet
import Derived.Test.YteopgmieindojaaGreatMem
import Derived.OwnWalk
import Derived.LoopTactic
import Derived.Lib.Hide
import Derived.Outline
import Derived.WalkSpells
import Derived.Deep.CutBlock
import Derived.Deep.DeepCutAuto
import Derived.Deep.QuietTactic
import Derived.Deep.RegionHeld
import Derived.Deep.RegionHeld3
import Derived.Deep.RegionWith
import Derived.Deep.RegionLaw
import Derived.StillTailTactics
import Derived.Laws.ResultCell
namespace Go.Proofs.YteopgmieindojaaGreat
open Go.RowKit
structure DefD where
 name : ByteArray
 obj : Nat
 sym : Nat
abbrev Sy := Nat × Nat × SymD
def definesB (s : SymD) (dr : List Bool) : Bool := bif s.bind == 0 || s.sec == 0 then false else s.sec == -1 || !(dr[(s.sec - 1).toNat]?.getD false)
def drAt (D : List (List Bool)) (i : Nat) : List Bool := D[i]?.getD []
def isHit (D : List (List Bool)) (name : ByteArray) (bind : Int) (x : Sy) : Bool := definesB x.2.2 (drAt D x.1) && (sEq x.2.2.name name && x.2.2.bind == bind)
def hitsIn (xs : List Sy) (D : List (List Bool)) (name : ByteArray) (bind : Int) : List Sy := xs.filter (isHit D name bind)
def headD (name : ByteArray) (hs : List Sy) : Option DefD := hs.head?.map fun x => ⟨name, x.1, x.2.1⟩
def findIn (xs : List Sy) (D : List (List Bool)) (name : ByteArray) : Option DefD := match headD name (hitsIn xs D name 1) with
 | some d => some d
 | none => headD name (hitsIn xs D name 2)
def putB (l : List DefD) (d : DefD) : List DefD := bif l.any (fun e => sEq e.name d.name) then l else l.filter (fun e => sLt e.name d.name) ++ [d] ++ l.filter (fun e => sLt d.name e.name)
def DSorted (l : List DefD) : Prop := l.Pairwise fun a b => sLt a.name b.name = true
theorem putB_sorted {l : List DefD} {d : DefD} (h : DSorted l) : DSorted (putB l d) := by
 unfold putB
 cases hc : l.any (fun e => sEq e.name d.name) with
 | true => exact h
 | false =>
  show DSorted (_ ++ _ ++ _)
  unfold DSorted
  rw [List.append_assoc, List.pairwise_append]
  refine ⟨List.Pairwise.filter _ h, ?_, ?_⟩
  ·show List.Pairwise _ (d :: _)
   rw [List.pairwise_cons]
   exact ⟨fun e he => (List.mem_filter.1 he).2, List.Pairwise.filter _ h⟩
  ·intro a ha b hb
   have h1 := (List.mem_filter.1 ha).2
   rcases List.mem_cons.1 hb with rfl | hb
   ·exact h1
   ·exact sLt_trans h1 (List.mem_filter.1 hb).2
theorem putB_mem {l : List DefD} {d e : DefD} (h : ∀ x ∈ l, x.name = d.name → x = d) : e ∈ putB l d ↔ e ∈ l ∨ e = d := by
 unfold putB
 cases hc : l.any (fun e => sEq e.name d.name) with
 | true =>
  obtain ⟨x, hx, he⟩ := List.any_eq_true.1 hc
  have := h x hx (sEq_iff.1 he)
  subst this
  exact ⟨.inl, fun h => h.elim id fun h => by rw [h]; exact hx⟩
 | false =>
  show e ∈ _ ++ _ ++ _ ↔ _
  rw [List.mem_append, List.mem_append, List.mem_filter, List.mem_filter, List.mem_singleton]
  constructor
  ·rintro ((h | h) | h)
   ·exact .inl h.1
   ·exact .inr h
   ·exact .inl h.1
  ·rintro (h | h)
   ·have hne : sEq e.name d.name = false := by
     have := List.any_eq_false.1 hc e h
     simpa using this
    cases hl : sLt e.name d.name with
    | true => exact .inl (.inl ⟨h, rfl⟩)
    | false => exact .inr ⟨h, sLt_total hne hl⟩
   ·exact .inl (.inr h)
theorem sorted_ext : ∀ {a b : List DefD}, DSorted a → DSorted b → (∀ x, x ∈ a ↔ x ∈ b) → a = b
 | [], [], _, _, _ => rfl
 | [], y :: b, _, _, h => absurd ((h y).2 (by simp)) (by simp)
 | x :: a, [], _, _, h => absurd ((h x).1 (by simp)) (by simp)
 | x :: a, y :: b, ha, hb, h => by
  obtain ⟨ha1, ha2⟩ := List.pairwise_cons.1 ha
  obtain ⟨hb1, hb2⟩ := List.pairwise_cons.1 hb
  have hirr : ∀ z : DefD, ¬ sLt z.name z.name = true := fun z hz => by rw [sLt_irrefl] at hz; cases hz
  have hxy : x = y := by
   rcases List.mem_cons.1 ((h x).1 (by simp)) with rfl | h1
   ·rfl
   ·rcases List.mem_cons.1 ((h y).2 (by simp)) with rfl | h2
    ·rfl
    ·exact absurd (sLt_trans (hb1 x h1) (ha1 y h2)) (hirr y)
  subst hxy
  congr 1
  refine sorted_ext ha2 hb2 fun z => ⟨fun hz => ?_, fun hz => ?_⟩
  ·rcases List.mem_cons.1 ((h z).1 (by simp [hz])) with rfl | h1
   ·exact absurd (ha1 z hz) (hirr z)
   ·exact h1
  ·rcases List.mem_cons.1 ((h z).2 (by simp [hz])) with rfl | h1
   ·exact absurd (hb1 z hz) (hirr z)
   ·exact h1
def refStep (xs : List Sy) (D : List (List Bool)) (x : Sy) (st : List DefD × Bool) : Option (List DefD × Bool) :=
 bif x.2.2.bind == 0 then some st else
 bif decide (1 < (hitsIn xs D x.2.2.name 1).length) then none else
 match findIn xs D x.2.2.name with
 | some d => some (putB st.1 d, st.2)
 | none => some (st.1, st.2 || x.2.2.bind == 1)
def refGo (xs : List Sy) (D : List (List Bool)) : List Sy → List DefD × Bool → Option (List DefD × Bool)
 | [], st => some st
 | x :: r, st => match refStep xs D x st with
  | none => none
  | some st' => refGo xs D r st'
theorem headD_name {name : ByteArray} {hs : List Sy} {d : DefD} (h : headD name hs = some d) : d.name = name := by
 unfold headD at h
 cases hq : hs.head? with
 | none => rw [hq] at h; cases h
 | some x => rw [hq] at h; cases h; rfl
theorem findIn_name {xs : List Sy} {D : List (List Bool)} {name : ByteArray} {d : DefD} (h : findIn xs D name = some d) : d.name = name := by
 unfold findIn at h
 cases hq : headD name (hitsIn xs D name 1) with
 | none => rw [hq] at h; exact headD_name h
 | some x => rw [hq] at h; cases h; exact headD_name hq
def RefInv (xs : List Sy) (D : List (List Bool)) (ys : List Sy) (st : List DefD × Bool) : Prop :=
 DSorted st.1 ∧ (∀ d, d ∈ st.1 ↔ ∃ x ∈ ys, x.2.2.bind ≠ 0 ∧ findIn xs D x.2.2.name = some d) ∧ st.2 = ys.any fun x => x.2.2.bind == 1 && (findIn xs D x.2.2.name).isNone
theorem refStep_none {xs : List Sy} {D : List (List Bool)} {x : Sy} {st : List DefD × Bool} (h : refStep xs D x st = none) : 1 < (hitsIn xs D x.2.2.name 1).length := by
 unfold refStep at h
 cases h0 : x.2.2.bind == 0 with
 | true => rw [h0] at h; cases h
 | false =>
  rw [h0] at h
  cases h1 : decide (1 < (hitsIn xs D x.2.2.name 1).length) with
  | true => exact of_decide_eq_true h1
  | false =>
   rw [h1] at h
   cases h2 : findIn xs D x.2.2.name <;> simp [h2] at h
theorem refStep_some {xs : List Sy} {D : List (List Bool)} {x : Sy} {ys : List Sy} {st st' : List DefD × Bool} (hi : RefInv xs D ys st) (h : refStep xs D x st = some st') :
  RefInv xs D (ys ++ [x]) st' ∧ (x.2.2.bind ≠ 0 → ¬ 1 < (hitsIn xs D x.2.2.name 1).length) := by
 obtain ⟨i1, i2, i3⟩ := hi
 unfold refStep at h
 cases h0 : x.2.2.bind == 0 with
 | true =>
  rw [h0] at h
  cases h
  have hb : x.2.2.bind = 0 := by simpa using h0
  refine ⟨⟨i1, fun d => ?_, ?_⟩, fun hn => absurd hb hn⟩
  ·rw [i2 d]
   constructor
   ·rintro ⟨y, hy, h⟩; exact ⟨y, by simp [hy], h⟩
   ·rintro ⟨y, hy, h⟩
    rcases List.mem_append.1 hy with hy | hy
    ·exact ⟨y, hy, h⟩
    ·obtain rfl := List.mem_singleton.1 hy
     exact absurd hb h.1
  ·rw [i3, List.any_append, List.any_cons, hb]
   simp
 | false =>
  rw [h0] at h
  have hb : x.2.2.bind ≠ 0 := by simpa using h0
  cases h1 : decide (1 < (hitsIn xs D x.2.2.name 1).length) with
  | true => rw [h1] at h; cases h
  | false =>
   rw [h1] at h
   refine ⟨?_, fun _ => of_decide_eq_false h1⟩
   cases h2 : findIn xs D x.2.2.name with
   | some d0 =>
    simp only [h2, cond_false, Option.some.injEq] at h
    subst h
    have hu : ∀ y ∈ st.1, y.name = d0.name → y = d0 := fun y hy hn => by
     obtain ⟨z, _, _, hz⟩ := (i2 y).1 hy
     have e1 := findIn_name hz
     have e2 := findIn_name h2
     rw [← e1, hn, e2, h2] at hz
     cases hz
     rfl
    refine ⟨putB_sorted i1, fun d => ?_, ?_⟩
    ·rw [putB_mem hu, i2 d]
     constructor
     ·rintro (⟨y, hy, h⟩ | rfl)
      ·exact ⟨y, by simp [hy], h⟩
      ·exact ⟨x, by simp, hb, h2⟩
     ·rintro ⟨y, hy, h⟩
      rcases List.mem_append.1 hy with hy | hy
      ·exact .inl ⟨y, hy, h⟩
      ·obtain rfl := List.mem_singleton.1 hy
       rw [h2] at h
       exact .inr (by have := h.2; cases this; rfl)
    ·rw [List.any_append, ← i3]
     simp [h2]
   | none =>
    simp only [h2, cond_false, Option.some.injEq] at h
    subst h
    refine ⟨i1, fun d => ?_, ?_⟩
    ·rw [i2 d]
     constructor
     ·rintro ⟨y, hy, h⟩; exact ⟨y, by simp [hy], h⟩
     ·rintro ⟨y, hy, h⟩
      rcases List.mem_append.1 hy with hy | hy
      ·exact ⟨y, hy, h⟩
      ·obtain rfl := List.mem_singleton.1 hy
       rw [h2] at h
       cases h.2
    ·rw [List.any_append, ← i3]
     simp [h2]
theorem refGo_inv {xs : List Sy} {D : List (List Bool)} : ∀ (r ys : List Sy) (st : List DefD × Bool), RefInv xs D ys st →
  (refGo xs D r st = none → ∃ x ∈ r, 1 < (hitsIn xs D x.2.2.name 1).length) ∧ ∀ st', refGo xs D r st = some st' → RefInv xs D (ys ++ r) st' ∧ ∀ x ∈ r, x.2.2.bind ≠ 0 → ¬ 1 < (hitsIn xs D x.2.2.name 1).length
 | [], ys, st, hi => ⟨(fun h => by cases h), (fun st' h => by cases h; exact ⟨by rw [List.append_nil]; exact hi, (fun x hx => by cases hx)⟩)⟩
 | x :: r, ys, st, hi => by
  unfold refGo
  cases hs : refStep xs D x st with
  | none => exact ⟨fun _ => ⟨x, by simp, refStep_none hs⟩, (fun st' h => by cases h)⟩
  | some st1 =>
   obtain ⟨h1, h2⟩ := refStep_some hi hs
   obtain ⟨h3, h4⟩ := refGo_inv r (ys ++ [x]) st1 h1
   refine ⟨fun h => ?_, fun st' h => ?_⟩
   ·obtain ⟨y, hy, h⟩ := h3 h
    exact ⟨y, by simp [hy], h⟩
   ·obtain ⟨h5, h6⟩ := h4 st' h
    refine ⟨by simpa using h5, fun y hy => ?_⟩
    rcases List.mem_cons.1 hy with rfl | hy
    ·exact h2
    ·exact h6 y hy
def ownStep (D : List (List Bool)) (bindOf : DefD → Int) (x : Sy) (m : List DefD) : Option (List DefD) :=
 bif definesB x.2.2 (drAt D x.1) then
  match m.find? (fun e => sEq e.name x.2.2.name) with
  | some d => bif bindOf d == 1 && x.2.2.bind == 1 then none else
   bif x.2.2.bind == 1 then some (m.map fun e => bif sEq e.name x.2.2.name then ⟨x.2.2.name, x.1, x.2.1⟩ else e) else some m
  | none => some (m ++ [⟨x.2.2.name, x.1, x.2.1⟩])
 else some m
def ownGo (D : List (List Bool)) (bindOf : DefD → Int) : List Sy → List DefD → Option (List DefD)
 | [], m => some m
 | x :: r, m => match ownStep D bindOf x m with
  | none => none
  | some m' => ownGo D bindOf r m'
def Apart (m : List DefD) : Prop := m.Pairwise fun a b => a.name ≠ b.name
theorem hits_snoc (ys : List Sy) (x : Sy) (D : List (List Bool)) (name : ByteArray) (b : Int) : hitsIn (ys ++ [x]) D name b = hitsIn ys D name b ++ bif isHit D name b x then [x] else [] := by
 unfold hitsIn
 rw [List.filter_append]
 congr 1
theorem headD_app {name : ByteArray} {a b : List Sy} : headD name (a ++ b) = match headD name a with | some d => some d | none => headD name b := by
 cases a <;> rfl
theorem headD_none {name : ByteArray} {a : List Sy} : headD name a = none ↔ a = [] := by
 cases a <;> simp [headD]
theorem find_name {m : List DefD} {name : ByteArray} {d : DefD} (h : m.find? (fun e => sEq e.name name) = some d) : d.name = name := by
 have h1 := List.find?_some h
 exact sEq_iff.1 h1
theorem find_mem {m : List DefD} (ha : Apart m) {d : DefD} : d ∈ m ↔ m.find? (fun e => sEq e.name d.name) = some d := by
 induction m with
 | nil => simp
 | cons x m ih =>
  obtain ⟨h1, h2⟩ := List.pairwise_cons.1 ha
  rw [List.find?_cons]
  cases hx : sEq x.name d.name with
  | true =>
   have hn := sEq_iff.1 hx
   constructor
   ·intro h
    rcases List.mem_cons.1 h with rfl | h
    ·rfl
    ·exact absurd hn (h1 d h)
   ·intro h
    cases h
    simp
  | false =>
   simp only
   rw [← ih h2, List.mem_cons]
   constructor
   ·rintro (rfl | h)
    ·rw [sEq_refl] at hx; cases hx
    ·exact h
   ·exact .inr
theorem find_map {m : List DefD} {n name : ByteArray} {d : DefD} (hd : d.name = n) : (m.map fun e => bif sEq e.name n then d else e).find? (fun e => sEq e.name name) = bif sEq n name then (match m.find? (fun e => sEq e.name n) with | some _ => some d | none => none) else m.find? (fun e => sEq e.name name) := by
 induction m with
 | nil => cases sEq n name <;> rfl
 | cons x m ih =>
  rw [List.map_cons, List.find?_cons, ih, List.find?_cons, List.find?_cons]
  cases hx : sEq x.name n with
  | true =>
   have hxn := sEq_iff.1 hx
   rw [cond_true, hd, hxn]
   cases hn : sEq n name <;> rfl
  | false =>
   rw [cond_false]
   cases hn : sEq n name with
   | true =>
    obtain rfl := sEq_iff.1 hn
    rw [hx]
   | false => rfl
def OwnInv (D : List (List Bool)) (_bindOf : DefD → Int) (ys : List Sy) (m : List DefD) : Prop :=
 Apart m ∧ (∀ name, m.find? (fun e => sEq e.name name) = findIn ys D name) ∧ ∀ name, (hitsIn ys D name 1).length ≤ 1
theorem isHit_name {D : List (List Bool)} {name : ByteArray} {b : Int} {x : Sy} (hn : sEq x.2.2.name name = false) : isHit D name b x = false := by
 unfold isHit
 rw [hn]
 simp
theorem isHit_not {D : List (List Bool)} {name : ByteArray} {b : Int} {x : Sy} (h : definesB x.2.2 (drAt D x.1) = false) : isHit D name b x = false := by
 unfold isHit
 rw [h]
 rfl
theorem isHit_bind {D : List (List Bool)} {name : ByteArray} {b : Int} {x : Sy} (h : x.2.2.bind ≠ b) : isHit D name b x = false := by
 unfold isHit
 rw [show (x.2.2.bind == b) = false by simpa using h]
 simp
theorem isHit_yes {D : List (List Bool)} {x : Sy} (h : definesB x.2.2 (drAt D x.1) = true) : isHit D x.2.2.name x.2.2.bind x = true := by
 unfold isHit
 rw [h, sEq_refl]
 simp
theorem findIn_bind {ys : List Sy} {D : List (List Bool)} {bindOf : DefD → Int} {name : ByteArray} {d : DefD} (hb : ∀ x ∈ ys, bindOf ⟨x.2.2.name, x.1, x.2.1⟩ = x.2.2.bind) (h : findIn ys D name = some d) :
  (bindOf d = 1 ∧ hitsIn ys D name 1 ≠ []) ∨ (bindOf d = 2 ∧ hitsIn ys D name 1 = []) := by
 have hh : ∀ b, headD name (hitsIn ys D name b) = some d → bindOf d = b := fun b h => by
  unfold headD at h
  cases hq : (hitsIn ys D name b).head? with
  | none => rw [hq] at h; cases h
  | some x =>
   rw [hq] at h
   have hm : x ∈ hitsIn ys D name b := List.mem_of_mem_head? hq
   obtain ⟨h1, h2⟩ := List.mem_filter.1 hm
   unfold isHit at h2
   simp only [Bool.and_eq_true, beq_iff_eq] at h2
   have e : x.2.2.name = name := sEq_iff.1 h2.2.1
   have hx := hb x h1
   cases h
   rw [← e, hx, h2.2.2]
 unfold findIn at h
 cases h1 : headD name (hitsIn ys D name 1) with
 | some d' =>
  rw [h1] at h
  cases h
  exact .inl ⟨hh 1 h1, fun e => by rw [headD_none.2 e] at h1; cases h1⟩
 | none =>
  rw [h1] at h
  exact .inr ⟨hh 2 h, headD_none.1 h1⟩
theorem ownStep_inv {D : List (List Bool)} {bindOf : DefD → Int} {x : Sy} {ys : List Sy} {m : List DefD} (hi : OwnInv D bindOf ys m) (hb : ∀ y ∈ ys, bindOf ⟨y.2.2.name, y.1, y.2.1⟩ = y.2.2.bind)
  (hx : definesB x.2.2 (drAt D x.1) = true → x.2.2.bind = 1 ∨ x.2.2.bind = 2) :
  (ownStep D bindOf x m = none → 1 < (hitsIn (ys ++ [x]) D x.2.2.name 1).length) ∧ ∀ m', ownStep D bindOf x m = some m' → OwnInv D bindOf (ys ++ [x]) m' := by
 obtain ⟨i1, i2, i3⟩ := hi
 unfold ownStep
 cases hd : definesB x.2.2 (drAt D x.1) with
 | false =>
  rw [cond_false]
  refine ⟨(fun h => by cases h), fun m' h => ?_⟩
  cases h
  have e : ∀ name b, hitsIn (ys ++ [x]) D name b = hitsIn ys D name b := fun name b => by rw [hits_snoc, isHit_not hd]; simp
  refine ⟨i1, fun name => ?_, fun name => by rw [e]; exact i3 name⟩
  rw [i2]
  unfold findIn
  rw [e, e]
 | true =>
  rw [cond_true]
  have hf := i2 x.2.2.name
  have e1 : ∀ name, sEq x.2.2.name name = false → ∀ b, hitsIn (ys ++ [x]) D name b = hitsIn ys D name b := fun name hn b => by rw [hits_snoc, isHit_name hn]; simp
  have e2 : ∀ b, b ≠ x.2.2.bind → hitsIn (ys ++ [x]) D x.2.2.name b = hitsIn ys D x.2.2.name b := fun b hn => by rw [hits_snoc, isHit_bind (fun h => hn h.symm)]; simp
  have e3 : hitsIn (ys ++ [x]) D x.2.2.name x.2.2.bind = hitsIn ys D x.2.2.name x.2.2.bind ++ [x] := by rw [hits_snoc, isHit_yes hd]; rfl
  have hoth : ∀ name, sEq x.2.2.name name = false → findIn (ys ++ [x]) D name = findIn ys D name := fun name hn => by unfold findIn; rw [e1 name hn, e1 name hn]
  cases hq : m.find? (fun e => sEq e.name x.2.2.name) with
  | none =>
   simp only
   refine ⟨(fun h => by cases h), fun m' h => ?_⟩
   cases h
   rw [hq] at hf
   have h1 : hitsIn ys D x.2.2.name 1 = [] ∧ hitsIn ys D x.2.2.name 2 = [] := by
    unfold findIn at hf
    cases hh : headD x.2.2.name (hitsIn ys D x.2.2.name 1) with
    | some d => rw [hh] at hf; cases hf
    | none => rw [hh] at hf; exact ⟨headD_none.1 hh, headD_none.1 hf.symm⟩
   have hnew : findIn (ys ++ [x]) D x.2.2.name = some ⟨x.2.2.name, x.1, x.2.1⟩ := by
    unfold findIn
    rcases hx hd with hb1 | hb2
    ·rw [hb1] at e3
     rw [e3, h1.1]
     rfl
    ·rw [hb2] at e3
     rw [e2 1 (by omega), h1.1, e3, h1.2]
     rfl
   refine ⟨?_, fun name => ?_, fun name => ?_⟩
   ·unfold Apart
    rw [List.pairwise_append]
    refine ⟨i1, List.pairwise_singleton _ _, fun a ha b hb => ?_⟩
    obtain rfl := List.mem_singleton.1 hb
    intro he
    have := List.find?_eq_none.1 hq a ha
    rw [he, sEq_refl] at this
    exact this rfl
   ·rw [List.find?_append]
    cases hn : sEq x.2.2.name name with
    | true =>
     obtain rfl := sEq_iff.1 hn
     rw [hq, hnew]
     simp [sEq_refl]
    | false =>
     rw [hoth name hn, ← i2 name]
     cases m.find? (fun e => sEq e.name name) with
     | none => simp [hn]
     | some d => rfl
   ·cases hn : sEq x.2.2.name name with
    | false => rw [e1 name hn]; exact i3 name
    | true =>
     obtain rfl := sEq_iff.1 hn
     rcases hx hd with hb1 | hb2
     ·rw [hb1] at e3
      rw [e3, h1.1]
      simp
     ·rw [e2 1 (by omega), h1.1]
      simp
  | some d =>
   simp only
   rw [hq] at hf
   rcases findIn_bind hb hf.symm with ⟨b1, hne⟩ | ⟨b2, hem⟩
   ·rw [b1]
    rcases hx hd with hb1 | hb2
    ·rw [hb1] at e3
     rw [hb1]
     refine ⟨fun _ => ?_, (fun m' h => by cases h)⟩
     rw [e3, List.length_append]
     have := List.length_pos_iff.2 hne
     simp
     omega
    ·rw [hb2] at e3
     rw [hb2]
     refine ⟨(fun h => by cases h), fun m' h => ?_⟩
     cases h
     refine ⟨i1, fun name => ?_, fun name => ?_⟩
     ·rw [i2]
      cases hn : sEq x.2.2.name name with
      | false => rw [hoth name hn]
      | true =>
       obtain rfl := sEq_iff.1 hn
       unfold findIn
       rw [e2 1 (by omega)]
       cases hh : headD x.2.2.name (hitsIn ys D x.2.2.name 1) with
       | some d => rfl
       | none => exact absurd (headD_none.1 hh) hne
     ·cases hn : sEq x.2.2.name name with
      | false => rw [e1 name hn]; exact i3 name
      | true =>
       obtain rfl := sEq_iff.1 hn
       rw [e2 1 (by omega)]
       exact i3 _
   ·rw [b2]
    rcases hx hd with hb1 | hb2
    ·rw [hb1] at e3
     rw [hb1]
     refine ⟨(fun h => by cases h), fun m' h => ?_⟩
     cases h
     refine ⟨?_, fun name => ?_, fun name => ?_⟩
     ·unfold Apart
      rw [List.pairwise_map]
      refine i1.imp fun {a b} hab => ?_
      cases ha : sEq a.name x.2.2.name with
      | true =>
       cases hb : sEq b.name x.2.2.name with
       | true => exact absurd ((sEq_iff.1 ha).trans (sEq_iff.1 hb).symm) hab
       | false => intro he; rw [show b.name = x.2.2.name from he.symm, sEq_refl] at hb; cases hb
      | false =>
       cases hb : sEq b.name x.2.2.name with
       | true => intro he; rw [show a.name = x.2.2.name from he, sEq_refl] at ha; cases ha
       | false => exact hab
     ·rw [find_map (n := x.2.2.name) (d := ⟨x.2.2.name, x.1, x.2.1⟩) rfl]
      cases hn : sEq x.2.2.name name with
      | false => rw [hoth name hn, cond_false]; exact i2 name
      | true =>
       obtain rfl := sEq_iff.1 hn
       rw [hq]
       unfold findIn
       rw [e3, hem]
       rfl
     ·cases hn : sEq x.2.2.name name with
      | false => rw [e1 name hn]; exact i3 name
      | true =>
       obtain rfl := sEq_iff.1 hn
       rw [e3, hem]
       simp
    ·rw [hb2] at e3
     rw [hb2]
     refine ⟨(fun h => by cases h), fun m' h => ?_⟩
     cases h
     refine ⟨i1, fun name => ?_, fun name => ?_⟩
     ·rw [i2]
      cases hn : sEq x.2.2.name name with
      | false => rw [hoth name hn]
      | true =>
       obtain rfl := sEq_iff.1 hn
       unfold findIn at hf ⊢
       rw [hem] at hf
       rw [e2 1 (by omega), hem, e3, headD_app]
       have hf2 : headD x.2.2.name (hitsIn ys D x.2.2.name 2) = some d := hf.symm
       rw [hf2]
     ·cases hn : sEq x.2.2.name name with
      | false => rw [e1 name hn]; exact i3 name
      | true =>
       obtain rfl := sEq_iff.1 hn
       rw [e2 1 (by omega)]
       exact i3 _
theorem hits_mono {D : List (List Bool)} {name : ByteArray} {b : Int} (ys r : List Sy) : (hitsIn ys D name b).length ≤ (hitsIn (ys ++ r) D name b).length := by
 unfold hitsIn
 rw [List.filter_append, List.length_append]
 omega
theorem ownGo_inv {D : List (List Bool)} {bindOf : DefD → Int} : ∀ (r ys : List Sy) (m : List DefD), OwnInv D bindOf ys m → (∀ y ∈ ys ++ r, bindOf ⟨y.2.2.name, y.1, y.2.1⟩ = y.2.2.bind) → (∀ y ∈ r, definesB y.2.2 (drAt D y.1) = true → y.2.2.bind = 1 ∨ y.2.2.bind = 2) →
  (ownGo D bindOf r m = none → ∃ x ∈ r, definesB x.2.2 (drAt D x.1) = true ∧ 1 < (hitsIn (ys ++ r) D x.2.2.name 1).length) ∧ ∀ m', ownGo D bindOf r m = some m' → OwnInv D bindOf (ys ++ r) m'
 | [], ys, m, hi, _, _ => ⟨(fun h => by cases h), (fun m' h => by cases h; rw [List.append_nil]; exact hi)⟩
 | x :: r, ys, m, hi, hb, hx => by
  obtain ⟨h1, h2⟩ := ownStep_inv hi (fun y hy => hb y (by simp [hy])) (hx x (by simp))
  unfold ownGo
  cases hs : ownStep D bindOf x m with
  | none =>
   refine ⟨fun _ => ⟨x, by simp, ?_, ?_⟩, (fun m' h => by cases h)⟩
   ·unfold ownStep at hs
    cases hd : definesB x.2.2 (drAt D x.1) with
    | true => rfl
    | false => rw [hd] at hs; cases hs
   ·have h3 := h1 hs
    have h4 := hits_mono (D := D) (name := x.2.2.name) (b := 1) (ys ++ [x]) r
    rw [List.append_assoc] at h4
    exact Nat.lt_of_lt_of_le h3 h4
  | some m1 =>
   have h3 := ownGo_inv r (ys ++ [x]) m1 (h2 m1 hs) (fun y hy => hb y (by simpa using hy)) (fun y hy => hx y (by simp [hy]))
   rw [List.append_assoc] at h3
   refine ⟨fun h => ?_, h3.2⟩
   obtain ⟨y, hy, h⟩ := h3.1 h
   exact ⟨y, by simp [hy], h⟩
theorem tables_eq {xs : List Sy} {D : List (List Bool)} {bindOf : DefD → Int} (hb : ∀ y ∈ xs, bindOf ⟨y.2.2.name, y.1, y.2.1⟩ = y.2.2.bind) (hx : ∀ y ∈ xs, definesB y.2.2 (drAt D y.1) = true → y.2.2.bind = 1 ∨ y.2.2.bind = 2) :
  (ownGo D bindOf xs [] = none ∧ refGo xs D xs ([], false) = none) ∨ ∃ m defs u, ownGo D bindOf xs [] = some m ∧ refGo xs D xs ([], false) = some (defs, u) ∧ Apart m ∧ DSorted defs ∧ (∀ d, d ∈ m ↔ d ∈ defs) ∧
   (∀ name, m.find? (fun e => sEq e.name name) = findIn xs D name) ∧ (∀ d, d ∈ defs ↔ findIn xs D d.name = some d) ∧ u = xs.any fun x => x.2.2.bind == 1 && (findIn xs D x.2.2.name).isNone := by
 have ho := ownGo_inv (D := D) (bindOf := bindOf) xs [] [] ⟨List.Pairwise.nil, fun name => rfl, fun name => Nat.zero_le _⟩ hb hx
 have hr := refGo_inv (xs := xs) (D := D) xs [] ([], false) ⟨List.Pairwise.nil, fun d => by simp, rfl⟩
 rw [List.nil_append] at ho hr
 have hdn : ∀ x : Sy, definesB x.2.2 (drAt D x.1) = true → x.2.2.bind ≠ 0 := fun x h h0 => by unfold definesB at h; rw [h0] at h; cases h
 cases h1 : ownGo D bindOf xs [] with
 | none =>
  obtain ⟨x, hxm, hd, hlt⟩ := ho.1 h1
  refine .inl ⟨rfl, ?_⟩
  cases h2 : refGo xs D xs ([], false) with
  | none => rfl
  | some st => exact absurd hlt ((hr.2 st h2).2 x hxm (hdn x hd))
 | some m =>
  obtain ⟨i1, i2, i3⟩ := ho.2 m h1
  refine .inr ?_
  cases h2 : refGo xs D xs ([], false) with
  | none =>
   obtain ⟨x, _, hlt⟩ := hr.1 h2
   have := i3 x.2.2.name
   omega
  | some st =>
   obtain ⟨⟨j1, j2, j3⟩, _⟩ := hr.2 st h2
   have hmem : ∀ d, d ∈ st.1 ↔ findIn xs D d.name = some d := fun d => by
    rw [j2 d]
    constructor
    ·rintro ⟨x, _, _, h⟩
     rw [findIn_name h]
     exact h
    ·intro h
     have hh : ∀ b, headD d.name (hitsIn xs D d.name b) = some d → ∃ x ∈ xs, x.2.2.bind ≠ 0 ∧ x.2.2.name = d.name := fun b h => by
      unfold headD at h
      cases hq : (hitsIn xs D d.name b).head? with
      | none => rw [hq] at h; cases h
      | some x =>
       have hm : x ∈ hitsIn xs D d.name b := List.mem_of_mem_head? hq
       obtain ⟨h1, h2⟩ := List.mem_filter.1 hm
       unfold isHit at h2
       simp only [Bool.and_eq_true, beq_iff_eq] at h2
       exact ⟨x, h1, hdn x h2.1, sEq_iff.1 h2.2.1⟩
     have : ∃ x ∈ xs, x.2.2.bind ≠ 0 ∧ x.2.2.name = d.name := by
      unfold findIn at h
      cases hq : headD d.name (hitsIn xs D d.name 1) with
      | some d' => rw [hq] at h; cases h; exact hh 1 hq
      | none => rw [hq] at h; exact hh 2 h
     obtain ⟨x, h3, h4, h5⟩ := this
     exact ⟨x, h3, h4, by rw [h5]; exact h⟩
   refine ⟨m, st.1, st.2, rfl, rfl, i1, j1, fun d => ?_, i2, hmem, j3⟩
   rw [find_mem i1, i2, hmem]
end Go.Proofs.YteopgmieindojaaGreat

namespace Go.Proofs.YteopgmieindojaaGreat
open Go.RowKit
theorem objs_at {w : World} {p : Option Addr} {l : List ObjD} {i : Nat} {o : ObjD} (h : HasL 5 EObj w p l) (hi : l[i]? = some o) :
  ∃ (b off : Nat) (p0 p1 p2 p4 : Option Addr) (c0 c1 c2 c4 : Nat), p = some ⟨b, off, none⟩ ∧ w.cell? ⟨b, off + i * 5, none⟩ = some (.slice p0 o.secs.length c0) ∧ w.cell? ⟨b, off + i * 5 + 1, none⟩ = some (.slice p1 o.syms.length c1) ∧ w.cell? ⟨b, off + i * 5 + 2, none⟩ = some (.slice p2 o.groups.length c2) ∧
   w.cell? ⟨b, off + i * 5 + 3, none⟩ = some (.bool o.hasSig) ∧ w.cell? ⟨b, off + i * 5 + 4, none⟩ = some (.slice p4 o.sig.length c4) ∧ HasL 9 ESec w p0 o.secs ∧ HasL 6 ESym w p1 o.syms ∧ HasL 2 EGroup w p2 o.groups ∧ HasL 1 EInt w p4 o.sig ∧
   (o.secs.length ≤ c0 ∧ c0 ≤ maxLen) ∧ (o.syms.length ≤ c1 ∧ c1 ≤ maxLen) ∧ (o.groups.length ≤ c2 ∧ c2 ≤ maxLen) ∧ o.sig.length ≤ c4 ∧ c4 ≤ maxLen := by
 obtain ⟨b, off, rfl, v0, v1, v2, v4, e0, e1, e2, e3, e4, ⟨p0, c0, rfl, a0, b0, _, h0⟩, ⟨p1, c1, rfl, a1, b1, _, h1⟩, ⟨p2, c2, rfl, a2, b2, _, h2⟩, ⟨p4, c4, rfl, a4, b4, _, h4⟩⟩ := h i o hi
 exact ⟨b, off, p0, p1, p2, p4, c0, c1, c2, c4, rfl, e0, e1, e2, e3, e4, h0, h1, h2, h4, ⟨a0, b0⟩, ⟨a1, b1⟩, ⟨a2, b2⟩, a4, b4⟩
theorem atTo_mem {α : Type} {f : ObjD → List α} {l : List ObjD} {i k a b : Nat} {x : α} : (a, b, x) ∈ atTo f l i k ↔ (a < i ∨ a = i ∧ b < k) ∧ ∃ o, l[a]? = some o ∧ (f o)[b]? = some x := by
 unfold atTo
 rw [List.mem_append, allTo_mem]
 constructor
 ·rintro (⟨h1, h2⟩ | h)
  ·exact ⟨.inl h1, h2⟩
  ·cases ho : l[i]? with
   | none => rw [ho] at h; cases h
   | some o =>
    rw [ho] at h
    simp only at h
    obtain ⟨j, hj⟩ := List.mem_iff_getElem?.1 h
    rw [List.getElem?_take] at hj
    split at hj
    ·rename_i hjk
     unfold tagged at hj
     rw [List.getElem?_mapIdx] at hj
     cases hq : (f o)[j]? with
     | none => rw [hq] at hj; cases hj
     | some y =>
      rw [hq] at hj
      cases hj
      exact ⟨.inr ⟨rfl, hjk⟩, o, ho, hq⟩
    ·cases hj
 ·rintro ⟨h1 | ⟨rfl, h1⟩, o, h2, h3⟩
  ·exact .inl ⟨h1, o, h2, h3⟩
  ·refine .inr ?_
   rw [h2]
   refine List.mem_iff_getElem?.2 ⟨b, ?_⟩
   rw [List.getElem?_take, if_pos h1]
   exact tagged_get h3
structure OkD (o : ObjD) : Prop where
 gsym : ∀ g ∈ o.groups, 1 ≤ g.sym ∧ g.sym < (o.syms.length : Int)
 mem : MemOK o
 one : OneGroup o
 sec : ∀ s ∈ o.syms, -1 ≤ s.sec ∧ s.sec ≤ (o.secs.length : Int)
 bind : ∀ s ∈ o.syms, 0 ≤ s.bind ∧ s.bind ≤ 2
 few : o.secs.length ≤ 1000 ∧ o.syms.length ≤ 1000 ∧ o.groups.length ≤ 100000 ∧ o.sig.length ≤ 100000 ∧ ∀ g ∈ o.groups, g.members.length ≤ 100000
theorem OkD.sym {o : ObjD} (h : OkD o) {g : GroupD} (hg : g ∈ o.groups) : ∃ (n : Nat) (s : SymD), g.sym = (n : Int) ∧ o.syms[n]? = some s ∧ symName o g.sym = s.name := by
 obtain ⟨h1, h2⟩ := h.gsym g hg
 obtain ⟨n, hn⟩ := Int.eq_ofNat_of_zero_le (show 0 ≤ g.sym by omega)
 have hl : n < o.syms.length := by omega
 refine ⟨n, o.syms[n], hn, List.getElem?_eq_getElem hl, ?_⟩
 unfold symName
 rw [hn, Int.toNat_natCast, List.getElem?_eq_getElem hl]
def EBool (w : World) (b o : Nat) (x : Bool) : Prop := w.cell? ⟨b, o, none⟩ = some (.bool x)
def EBools (w : World) (b o : Nat) (xs : List Bool) : Prop := ∃ v, w.cell? ⟨b, o, none⟩ = some v ∧ IsL 1 EBool w v xs
def EDef (w : World) (b o : Nat) (d : DefD) : Prop := w.cell? ⟨b, o, none⟩ = some (.string d.name) ∧ w.cell? ⟨b, o + 1, none⟩ = some (.int .i64 (d.obj : Int)) ∧ w.cell? ⟨b, o + 2, none⟩ = some (.int .i64 (d.sym : Int))
theorem EBool.keeps : Keeps EBool := fun _ _ _ _ _ hb h => keep_cell hb h
theorem EBools.keeps : Keeps EBools := fun _ _ _ _ _ hb ⟨v, c, h⟩ => ⟨v, keep_cell hb c, h.below EBool.keeps hb⟩
theorem EDef.keeps : Keeps EDef := fun _ _ _ _ _ hb ⟨h0, h1, h2⟩ => ⟨keep_cell hb h0, keep_cell hb h1, keep_cell hb h2⟩
def IsTab (w : World) (v0 v1 : Value) (D : List (List Bool)) (defs : List DefD) : Prop := IsL 1 EBools w v0 D ∧ IsL 3 EDef w v1 defs
theorem IsTab.below {w w' : World} {v0 v1 : Value} {D : List (List Bool)} {defs : List DefD} (h : IsTab w v0 v1 D defs) (hb : Below w.heap.size w w') : IsTab w' v0 v1 D defs := ⟨h.1.below EBools.keeps hb, h.2.below EDef.keeps hb⟩
theorem drops_at {w : World} {p : Option Addr} {D : List (List Bool)} {i : Nat} (h : HasL 1 EBools w p D) (hi : i < D.length) : ∃ (b off : Nat) (q : Option Addr) (c : Nat), p = some ⟨b, off, none⟩ ∧ w.cell? ⟨b, off + i, none⟩ = some (.slice q (drAt D i).length c) ∧ HasL 1 EBool w q (drAt D i) := by
 obtain ⟨b, off, x, rfl, hx, v, e, q, c, rfl, _, _, _, hh⟩ := h.at_ hi
 rw [Nat.mul_one] at e
 have : drAt D i = x := by unfold drAt; rw [hx]; rfl
 rw [this]
 exact ⟨b, off, q, c, rfl, e, hh⟩
end Go.Proofs.YteopgmieindojaaGreat

namespace Go.Proofs.YteopgmieindojaaGreat
open Go.RowKit
theorem owns_belowN {w w' : World} {base s : Nat} {e : TypeId} {v : Value} {n : Nat} {xs : List Value} (h : w.ownsRow base e s v n xs) (hb : Below w.heap.size w w') : w'.ownsRow base e s v n xs :=
 h.kept (row := none) ⟨hb.os, hb.tape, hb.output, hb.size, fun k hk _ => hb.block k hk⟩ (by cases hv : v.ownBlock <;> simp)
theorem slice_form {w : World} {base n s : Nat} {T : TypeId} {v : Value} {xs : List Value} (h : w.ownsRow base T s v n xs) : ∃ p c, v = .slice p n c ∧ n ≤ c ∧ c ≤ maxLen ∧ (p = none → c = 0) := by
 rcases h.2 with ⟨rfl, rfl⟩ | ⟨g, cap, cur, rfl, _, _, hnc, hcm, _, _⟩
 ·exact ⟨none, 0, rfl, Nat.le_refl _, Nat.zero_le _, fun _ => rfl⟩
 ·exact ⟨_, _, rfl, hnc, hcm, fun h => by cases h⟩
def tyOf : Obj → Option TypeId
 | .cells _ T _ => some T
 | _ => none
structure FrT (N : Nat) (Ts : List TypeId) (w w' : World) : Prop where
 os : w'.os = w.os
 tape : w'.tape = w.tape
 output : w'.output = w.output
 size : w.heap.size ≤ w'.heap.size
 block : ∀ k o, w.heap[k]? = some o → (k < N ∨ ∀ T ∈ Ts, tyOf o ≠ some T) → w'.heap[k]? = some o
theorem FrT.refl (N : Nat) (Ts : List TypeId) (w : World) : FrT N Ts w w := ⟨rfl, rfl, rfl, Nat.le_refl _, fun _ _ h _ => h⟩
theorem FrT.trans {N : Nat} {Ts : List TypeId} {a b c : World} (h : FrT N Ts a b) (k : FrT N Ts b c) : FrT N Ts a c :=
 ⟨k.os.trans h.os, k.tape.trans h.tape, k.output.trans h.output, Nat.le_trans h.size k.size, fun i o hi ht => k.block i o (h.block i o hi ht) ht⟩
theorem FrT.mono {N : Nat} {Ts Us : List TypeId} {a b : World} (h : FrT N Ts a b) (hs : ∀ T ∈ Ts, T ∈ Us) : FrT N Us a b :=
 ⟨h.os, h.tape, h.output, h.size, fun i o hi ht => h.block i o hi (ht.imp id fun hu T hT => hu T (hs T hT))⟩
theorem FrT.of_below {N : Nat} {Ts : List TypeId} {w w' : World} (h : Below w.heap.size w w') : FrT N Ts w w' :=
 ⟨h.os, h.tape, h.output, h.size, fun k o hk _ => by rw [h.block k (Array.getElem?_eq_some_iff.1 hk).1]; exact hk⟩
theorem FrT.below {N : Nat} {Ts : List TypeId} {w w' : World} (h : FrT N Ts w w') (hN : N ≤ w.heap.size) : Below N w w' :=
 ⟨h.os, h.tape, h.output, h.size, fun k hk => by
  have hx : w.heap[k]? = some w.heap[k] := Array.getElem?_eq_getElem (by omega)
  rw [hx]
  exact h.block k _ hx (.inl hk)⟩
theorem FrT.heap {N : Nat} {Ts : List TypeId} {w w' : World} {k : Nat} {cs : Array Value} {T : TypeId} {m : Nat × Nat} (h : FrT N Ts w w') (hk : w.heap[k]? = some (.cells cs T m)) (hT : T ∉ Ts) : w'.heap[k]? = some (.cells cs T m) :=
 h.block k _ hk (.inr fun U hU e => by
  simp only [tyOf, Option.some.injEq] at e
  exact hT (e ▸ hU))
theorem FrT.owns {N : Nat} {Ts : List TypeId} {w w' : World} {B : Nat} {T : TypeId} {s n : Nat} {v : Value} {xs : List Value} (h : FrT N Ts w w') (ho : w.ownsRow B T s v n xs) (hT : T ∉ Ts) : w'.ownsRow B T s v n xs := by
 refine ⟨ho.1, ?_⟩
 rcases ho.2 with h0 | ⟨g, cap, cur, hv, hb, hg, rest⟩
 ·exact .inl h0
 ·exact .inr ⟨g, cap, cur, hv, hb, h.heap hg hT, rest⟩
theorem FrT.grown {N : Nat} {Ts : List TypeId} {w w' : World} {B : Nat} {T : TypeId} {s n : Nat} {v : Value} {xs : List Value} (ho : w.ownsRow B T s v n xs) (hg : w.grownBy w' v.ownBlock) (hT : T ∈ Ts) (hN : N ≤ B) : FrT N Ts w w' := by
 refine ⟨hg.os, hg.tape, hg.output, hg.size, fun k o hk ht => ?_⟩
 rw [hg.block k (Array.getElem?_eq_some_iff.1 hk).1 fun e => ?_]
 ·exact hk
 ·rcases ho.2 with ⟨rfl, _⟩ | ⟨g, cap, cur, rfl, hb, hg2, _⟩
  ·simp [Value.ownBlock] at e
  ·simp only [Value.ownBlock, Option.some.injEq] at e
   subst e
   rw [hk] at hg2
   cases hg2
   rcases ht with ht | ht
   ·omega
   ·exact ht T hT rfl
theorem FrT.set {N : Nat} {Ts : List TypeId} {w : World} {F i : Nat} {cs : Array Value} {T : TypeId} {m : Nat × Nat} (hF : w.heap[F]? = some (.cells cs T m)) (hT : T ∈ Ts) (hN : N ≤ F) (v : Value) : FrT N Ts w (w.setCell ⟨F, i, none⟩ v) := by
 refine ⟨rfl, rfl, rfl, by simp, fun k o hk ht => ?_⟩
 by_cases e : k = F
 ·subst e
  rw [hk] at hF
  cases hF
  rcases ht with ht | ht
  ·omega
  ·exact absurd rfl (ht T hT)
 ·rw [heap_setCell_other w ⟨F, i, none⟩ k v e]
  exact hk
theorem cells5 (w : World) (g : Nat) (v0 v1 v2 v3 v4 : Value) (T : TypeId) (h : w.heap[g]? = some (.cells #[v0, v1, v2, v3, v4] T (0, 0))) :
  (w.cell? ⟨g, 0, none⟩ = some v0 ∧ w.cell? ⟨g, 1, none⟩ = some v1 ∧ w.cell? ⟨g, 2, none⟩ = some v2 ∧ w.cell? ⟨g, 3, none⟩ = some v3 ∧ w.cell? ⟨g, 4, none⟩ = some v4) ∧
  (w.frozen? ⟨g, 0, none⟩ = false ∧ w.frozen? ⟨g, 1, none⟩ = false ∧ w.frozen? ⟨g, 2, none⟩ = false ∧ w.frozen? ⟨g, 3, none⟩ = false ∧ w.frozen? ⟨g, 4, none⟩ = false) := by
 refine ⟨⟨?_, ?_, ?_, ?_, ?_⟩, ?_, ?_, ?_, ?_, ?_⟩
 all_goals first | exact (cell_of_row w g _ _ _ (0, 0) h).trans rfl | exact frozen_of_row w g _ _ _ h | fail
end Go.Proofs.YteopgmieindojaaGreat

namespace Go.Proofs.YteopgmieindojaaGreat
end Go.Proofs.YteopgmieindojaaGreat

namespace Go.Proofs.YteopgmieindojaaGreat
open Go.RowKit
theorem wp_region_below {P : Program} {id : Nat} {Q : Exit → Act → World → Prop} {a : Act} {w : World} {l : List Oper} (hm : P.follows .mixedOrders = true) (hB : Region.lexB .any l.toArray = true)
  (h : wpQuiet P l.toArray (fun W => Below w.heap.size w W) (fun a' => ∀ w', Below w.heap.size w w' → Q .normal a' w') l a) : (Code.region id l.toArray true).wp P Q a w :=
 wp_region_quiet (C := fun W => Below w.heap.size w W) hm hB ((Below.refl _ w).drew) (by simpa using h)
end Go.Proofs.YteopgmieindojaaGreat

namespace Go.Proofs.YteopgmieindojaaGreat
open Go.RowKit
theorem flat_len {α : Type} {k : Nat} {f : α → List Value} (hk : ∀ x, (f x).length = k) : ∀ xs : List α, (xs.flatMap f).length = xs.length * k
 | [] => by simp
 | x :: xs => by rw [List.flatMap_cons, List.length_append, hk x, flat_len hk xs, List.length_cons, Nat.succ_mul]; omega
theorem flat_get {α : Type} {k : Nat} {f : α → List Value} (hk : ∀ x, (f x).length = k) : ∀ (xs : List α) (i : Nat) (x : α) (j : Nat) (u : Value), xs[i]? = some x → (f x)[j]? = some u → (xs.flatMap f)[i * k + j]? = some u
 | [], i, x, j, u, h, _ => by simp at h
 | y :: xs, 0, x, j, u, h, hj => by
  simp at h
  subst h
  rw [List.flatMap_cons, Nat.zero_mul, Nat.zero_add, List.getElem?_append_left (List.getElem?_eq_some_iff.1 hj).1]
  exact hj
 | y :: xs, i + 1, x, j, u, h, hj => by
  have := flat_get hk xs i x j u (by simpa using h) hj
  rw [List.flatMap_cons, List.getElem?_append_right (by rw [hk y, Nat.succ_mul]; omega), hk y, show (i + 1) * k + j - k = i * k + j by rw [Nat.succ_mul]; omega]
  exact this
theorem flat_snoc {α : Type} (f : α → List Value) (xs : List α) (x : α) : (xs ++ [x]).flatMap f = xs.flatMap f ++ f x := by simp
theorem isL_rows {α β : Type} {k : Nat} {E : World → Nat → Nat → β → Prop} {f : α → List Value} {g : α → β} (hk : ∀ x, (f x).length = k) {w : World} {B : Nat} {T : TypeId} {v : Value} {xs : List α} (h : w.ownsRow B T k v xs.length (xs.flatMap f))
  (hE : ∀ x ∈ xs, ∀ b o, (∀ j u, (f x)[j]? = some u → w.cell? ⟨b, o + j, none⟩ = some u) → E w b o (g x)) : IsL k E w v (xs.map g) := by
 rcases h.2 with ⟨rfl, h0⟩ | ⟨b, cap, cur, rfl, hb, hg, h1, h2, h3, h4⟩
 ·have : xs = [] := List.length_eq_zero_iff.1 h0
  subst this
  exact ⟨none, 0, rfl, Nat.le_refl _, Nat.zero_le _, fun _ => rfl, fun i x hx => by simp at hx⟩
 ·refine ⟨some ⟨b, 0, none⟩, cap, by rw [List.length_map], by rw [List.length_map]; exact h1, h2, (fun h => by cases h), fun i y hy => ⟨b, 0, rfl, ?_⟩⟩
  rw [List.getElem?_map] at hy
  cases hx : xs[i]? with
  | none => rw [hx] at hy; cases hy
  | some x =>
   rw [hx] at hy
   cases hy
   have hi := (List.getElem?_eq_some_iff.1 hx).1
   refine hE x (List.mem_of_getElem? hx) b (0 + i * k) fun j u hj => ?_
   have hjk : j < k := by rw [← hk x]; exact (List.getElem?_eq_some_iff.1 hj).1
   have hlt : i * k + j < xs.length * k := by
    have : (i + 1) * k ≤ xs.length * k := Nat.mul_le_mul_right k hi
    rw [Nat.succ_mul] at this
    omega
   have hf := flat_get hk xs i x j u hx hj
   rw [Nat.zero_add]
   refine (cell_of_row w b (i * k + j) cur T (0, 0) hg).trans ?_
   rw [← h4, List.getElem?_take, if_pos hlt] at hf
   simpa using hf
def i64bd (x : Int) : Prop := -9223372036854775808 ≤ x ∧ x ≤ 9223372036854775807
theorem flat_u8 : ∀ l : List UInt8, l.flatMap (fun x => [u8v x]) = l.map u8v
 | [] => rfl
 | a :: l => by rw [List.flatMap_cons, flat_u8 l]; rfl
theorem isL_bytes {w : World} {B : Nat} {T : TypeId} {v : Value} {l : List UInt8} (h : w.ownsRow B T 1 v l.length (l.map u8v)) : IsL 1 EByte w v l := by
 have := isL_rows (k := 1) (f := fun x : UInt8 => [u8v x]) (g := id) (E := EByte) (fun _ => rfl) (xs := l) (by rw [show l.flatMap (fun x => [u8v x]) = l.map u8v from flat_u8 l]; exact h) (fun x hx b o hc => hc 0 _ rfl)
 simpa using this
end Go.Proofs.YteopgmieindojaaGreat

namespace Go.Proofs.YteopgmieindojaaGreat
open Go.RowKit
def relC (r : RelD) : List Value := [.int .i64 r.off, .int .i64 r.type, .int .i64 r.sym, .int .i64 r.add]
def RelD.bd (r : RelD) : Prop := i64bd r.off ∧ i64bd r.type ∧ i64bd r.sym ∧ i64bd r.add
structure SecV where
 (s : SecD)
 (d r : Value)
def SecV.cells (x : SecV) : List Value := [.string x.s.name, .int .i64 x.s.type, .int .i64 x.s.flags, .int .i64 x.s.align, .int .i64 x.s.ent, .int .i64 x.s.link, .int .i64 x.s.size, x.d, x.r]
def SecD.bd (s : SecD) : Prop := s.name.size ≤ maxLen ∧ i64bd s.type ∧ i64bd s.flags ∧ i64bd s.align ∧ i64bd s.ent ∧ i64bd s.link ∧ i64bd s.size ∧ ∀ r ∈ s.rels, r.bd
def SecV.ok (x : SecV) (N : Nat) (w : World) : Prop := w.ownsRow N 5 1 x.d x.s.data.length (x.s.data.map u8v) ∧ w.ownsRow N 94 4 x.r x.s.rels.length (x.s.rels.flatMap relC) ∧ x.s.bd
theorem SecV.ok.fr {x : SecV} {N M : Nat} {Ts : List TypeId} {w w' : World} (h : x.ok N w) (hf : FrT M Ts w w') (h1 : 5 ∉ Ts) (h2 : 94 ∉ Ts) : x.ok N w' := ⟨hf.owns h.1 h1, hf.owns h.2.1 h2, h.2.2⟩
theorem SecV.ok.lower {x : SecV} {N M : Nat} {w : World} (h : x.ok N w) (hM : M ≤ N) : x.ok M w := ⟨owns_lower h.1 hM, owns_lower h.2.1 hM, h.2.2⟩
def SymD.bd (s : SymD) : Prop := s.name.size ≤ maxLen ∧ i64bd s.bind ∧ i64bd s.type ∧ i64bd s.sec ∧ i64bd s.value ∧ i64bd s.size
structure GroupV where
 (g : GroupD)
 (m : Value)
def GroupV.cells (x : GroupV) : List Value := [.int .i64 x.g.sym, x.m]
def GroupV.ok (x : GroupV) (N : Nat) (w : World) : Prop := w.ownsRow N 3 1 x.m x.g.members.length (x.g.members.map (Value.int .i64)) ∧ i64bd x.g.sym ∧ ∀ y ∈ x.g.members, i64bd y
theorem GroupV.ok.fr {x : GroupV} {N M : Nat} {Ts : List TypeId} {w w' : World} (h : x.ok N w) (hf : FrT M Ts w w') (h1 : 3 ∉ Ts) : x.ok N w' := ⟨hf.owns h.1 h1, h.2⟩
theorem GroupV.ok.lower {x : GroupV} {N M : Nat} {w : World} (h : x.ok N w) (hM : M ≤ N) : x.ok M w := ⟨owns_lower h.1 hM, h.2⟩
end Go.Proofs.YteopgmieindojaaGreat

namespace Go.Proofs.YteopgmieindojaaGreat
open Go.RowKit
end Go.Proofs.YteopgmieindojaaGreat

namespace Go.Proofs.YteopgmieindojaaGreat
open Go.RowKit
theorem ncells6 (w : World) (g : Nat) (v0 v1 v2 v3 v4 v5 : Value) (T : TypeId) (h : w.heap[g]? = some (.cells #[v0, v1, v2, v3, v4, v5] T (0, 0))) : w.cell? ⟨g, 0, none⟩ = some v0 ∧ w.cell? ⟨g, 1, none⟩ = some v1 ∧ w.cell? ⟨g, 2, none⟩ = some v2 ∧ w.cell? ⟨g, 3, none⟩ = some v3 ∧ w.cell? ⟨g, 4, none⟩ = some v4 ∧ w.cell? ⟨g, 5, none⟩ = some v5 := by
 refine ⟨?_, ?_, ?_, ?_, ?_, ?_⟩ <;> exact (cell_of_row _ _ _ _ _ (0, 0) h).trans rfl
abbrev symV1 (s : SymD) : Value := .agg #[.string s.name, .int .i64 s.bind, .int .i64 s.type, .int .i64 s.sec, .int .i64 s.value, .int .i64 s.size]
end Go.Proofs.YteopgmieindojaaGreat

namespace Go.Proofs.YteopgmieindojaaGreat
open Go.RowKit
abbrev defCs (d : DefD) : Array Value := #[.string d.name, .int .i64 (d.obj : Int), .int .i64 (d.sym : Int)]
def noDef : DefD := ⟨⟨#[]⟩, 0, 0⟩
theorem three_cells (w : World) (g : Nat) (v0 v1 v2 : Value) (T : TypeId) (h : w.heap[g]? = some (.cells #[v0, v1, v2] T (0, 0))) : (w.cell? ⟨g, 0, none⟩ = some v0 ∧ w.cell? ⟨g, 1, none⟩ = some v1 ∧ w.cell? ⟨g, 2, none⟩ = some v2) ∧ (w.frozen? ⟨g, 0, none⟩ = false ∧ w.frozen? ⟨g, 1, none⟩ = false ∧ w.frozen? ⟨g, 2, none⟩ = false) := by
 refine ⟨⟨?_, ?_, ?_⟩, ?_, ?_, ?_⟩
 all_goals first | exact (cell_of_row w g _ _ _ (0, 0) h).trans rfl | exact frozen_of_row w g _ _ _ h | fail
theorem pair_cells (w : World) (g : Nat) (v0 v1 : Value) (T : TypeId) (h : w.heap[g]? = some (.cells #[v0, v1] T (0, 0))) : (w.cell? ⟨g, 0, none⟩ = some v0 ∧ w.cell? ⟨g, 1, none⟩ = some v1) ∧ (w.frozen? ⟨g, 0, none⟩ = false ∧ w.frozen? ⟨g, 1, none⟩ = false) := by
 refine ⟨⟨?_, ?_⟩, ?_, ?_⟩
 all_goals first | exact (cell_of_row w g _ _ _ (0, 0) h).trans rfl | exact frozen_of_row w g _ _ _ h | fail
theorem set_three {w : World} {g N : Nat} {v0 v1 v2 : Value} {T : TypeId} (u0 u1 u2 : Value) (hN : N ≤ g) (h : w.heap[g]? = some (.cells #[v0, v1, v2] T (0, 0))) :
  (((w.setCell ⟨g, 0, none⟩ u0).setCell ⟨g, 1, none⟩ u1).setCell ⟨g, 2, none⟩ u2).heap[g]? = some (.cells #[u0, u1, u2] T (0, 0)) ∧ FrT N [T] w (((w.setCell ⟨g, 0, none⟩ u0).setCell ⟨g, 1, none⟩ u1).setCell ⟨g, 2, none⟩ u2) := by
 have h0 := heap_setCell_same w g 0 _ _ u0 h
 have h1 := heap_setCell_same _ g 1 _ _ u1 h0
 have h2 := heap_setCell_same _ g 2 _ _ u2 h1
 exact ⟨h2, ((FrT.set h (by simp) hN _).trans (FrT.set h0 (by simp) hN _)).trans (FrT.set h1 (by simp) hN _)⟩
structure DropOK (w : World) (pd : Option Addr) (l : List ObjD) (D : List (List Bool)) : Prop where
 has : HasL 1 EBools w pd D
 len : D.length = l.length
 row : ∀ i o, l[i]? = some o → (drAt D i).length = o.secs.length
theorem DropOK.below {w w' : World} {pd : Option Addr} {l : List ObjD} {D : List (List Bool)} (h : DropOK w pd l D) (hb : Below w.heap.size w w') : DropOK w' pd l D := ⟨h.has.below EBools.keeps hb, h.len, h.row⟩
end Go.Proofs.YteopgmieindojaaGreat

namespace Go.Proofs.YteopgmieindojaaGreat
open Go.RowKit
end Go.Proofs.YteopgmieindojaaGreat

namespace Go.Proofs.YteopgmieindojaaGreat
open Go.RowKit
structure PlaceD where
 (obj sec at_ : Int)
abbrev plCs (x : PlaceD) : Array Value := #[.int .i64 x.obj, .int .i64 x.sec, .int .i64 x.at_]
def ownPl (D : List (List Bool)) (o : Nat) (x : SymD) : PlaceD × Int := bif decide (x.sec < 1) then (⟨0, 0, x.value⟩, 0) else bif (drAt D o)[(x.sec - 1).toNat]?.getD false then (⟨0, 0, 0⟩, 4) else (⟨(o : Int), x.sec, x.value⟩, 0)
end Go.Proofs.YteopgmieindojaaGreat
