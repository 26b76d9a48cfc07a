/-
  dropSecs, purely: the map of names of groups; rows that stand. Nothing here walks the program.
  define, purely: the map of definitions and the steps over the symbols. Nothing here walks the program.
  Contract of maps.Values at a map of definitions.
  A range over a map keyed by strings: what is left of it; its steps, inside a fence. It names nothing of the program.
  Contract of maps.Values at definitions: the iterator, for every loop body.
  Contracts of slices.AppendSeq and slices.Collect over the definitions of a map.
-/
import Derived.Test.YthnkehdcolnegaaGreatNR01
import Derived.Test.YthnkehdcolnegaaGreatNR06
import Derived.Sort.MapsRangeIn
import Derived.RangeFuncBox
import Derived.RangeFuncBound
import Derived.RangeFuncCalls
import Derived.RangeFuncLeaves
import Derived.RangeFuncMany
import Derived.Shelf.Abstract
import Derived.TacticsInMore
import Derived.LoopNIn
import Derived.LoopIn
import Derived.RangeFuncNested
import Derived.Shelf.RegionOpen
import Derived.WalkKit
import Derived.OwnWalkIn
import Derived.Maps.AppendAt
namespace Go.Proofs.YthnkehdcolnegaaGreat
open Go.RowKit

/-- The map holds the names of the groups ahead. -/
def MetIs (l : List ObjD) (i k : Nat) (m : List (ByteArray × Value)) : Prop := ∀ s, (mVal s m).getD (.bool false) = .bool (metB l i k s)
theorem metIs_start (l : List ObjD) : MetIs l 0 0 [] := fun s => by
  unfold metB
  rw [atTo_zero]
  rfl
theorem metIs_put {l : List ObjD} {i k : Nat} {m : List (ByteArray × Value)} {o : ObjD} {g : GroupD} (h : MetIs l i k m) (ho : l[i]? = some o) (hg : o.groups[k]? = some g) : MetIs l i (k + 1) (mPut m (symName o g.sym) (.bool true)) := fun s => by
  rw [mVal_put]
  have hm : metB l i (k + 1) s = (metB l i k s || sEq (symName o g.sym) s) := by
    unfold metB
    rw [atTo_step ho hg, List.any_append]
    simp [gNameAt, ho]
  rw [hm]
  cases hs : s == symName o g.sym with
  | true =>
    obtain rfl := (MapKept.bytes_beq _ _).1 hs
    rw [sEq_refl, Bool.or_true]
    rfl
  | false =>
    have : sEq (symName o g.sym) s = false := by
      cases hq : sEq (symName o g.sym) s with
      | false => rfl
      | true =>
        rw [sEq_iff.1 hq, beq_self] at hs
        cases hs
    rw [this, Bool.or_false]
    exact h s
theorem metIs_next {l : List ObjD} {i k : Nat} {m : List (ByteArray × Value)} {o : ObjD} (h : MetIs l i k m) (ho : l[i]? = some o) (hk : o.groups.length ≤ k) : MetIs l (i + 1) 0 m := fun s => by
  rw [h s]
  unfold metB
  rw [atTo_end ho hk, atTo_zero]
/-- Blocks from lo on stand. -/
def Fr2 (lo : Nat) (w w' : World) : Prop := w.heap.size ≤ w'.heap.size ∧ ∀ g, lo ≤ g → g < w.heap.size → w'.heap[g]? = w.heap[g]?
theorem Fr2.refl (lo : Nat) (w : World) : Fr2 lo w w := ⟨Nat.le_refl _, fun _ _ _ => rfl⟩
theorem Fr2.grown {lo : Nat} {w w1 w2 : World} {row : Option Nat} (h : Fr2 lo w w1) (hg : w1.grownBy w2 row) (hr : ∀ r, row = some r → r < lo ∨ w.heap.size ≤ r) : Fr2 lo w w2 :=
  ⟨Nat.le_trans h.1 hg.size, fun g h1 h2 => (hg.block g (Nat.lt_of_lt_of_le h2 h.1) (fun e => by rcases hr g e.symm with h | h <;> omega)).trans (h.2 g h1 h2)⟩
theorem Fr2.trans {lo : Nat} {w w1 w2 : World} (h : Fr2 lo w w1) (h2 : Fr2 lo w1 w2) : Fr2 lo w w2 := ⟨Nat.le_trans h.1 h2.1, fun g h3 h4 => (h2.2 g h3 (Nat.lt_of_lt_of_le h4 h.1)).trans (h.2 g h3 h4)⟩
theorem owns_fr2 {lo : Nat} {w w' : World} {base s : Nat} {e : TypeId} {v : Value} {n : Nat} {xs : List Value} (h : w.ownsRow base e s v n xs) (hf : Fr2 lo w w') (hl : lo ≤ base) : w'.ownsRow base e s v n xs := by
  refine ⟨h.1, ?_⟩
  rcases h.2 with hn | ⟨g, cap, cur, rfl, hb, hgg, rest⟩
  · exact .inl hn
  · exact .inr ⟨g, cap, cur, rfl, hb, (hf.2 g (by omega) (Array.getElem?_eq_some_iff.1 hgg).1).trans hgg, rest⟩
/-- The rows of the objects ahead. -/
def RowsB (w : World) (base : Nat) (vs : List Value) (l : List ObjD) (i : Nat) : Prop := ∀ j o, j < i → l[j]? = some o → ∃ v, vs[j]? = some v ∧ w.ownsRow base 4 1 v o.secs.length ((dropOwnTo l j o o.groups.length).map Value.bool)
theorem RowsB.fr2 {w w' : World} {base : Nat} {vs : List Value} {l : List ObjD} {i : Nat} (h : RowsB w base vs l i) (hf : Fr2 base w w') : RowsB w' base vs l i := fun j o hj ho => by
  obtain ⟨v, h1, h2⟩ := h j o hj ho
  exact ⟨v, h1, owns_fr2 h2 hf (Nat.le_refl _)⟩
theorem RowsB.snoc {w : World} {base : Nat} {vs : List Value} {l : List ObjD} {i : Nat} {o : ObjD} {v : Value} (h : RowsB w base vs l i) (ho : l[i]? = some o) (hi : i < vs.length) (hv : w.ownsRow base 4 1 v o.secs.length ((dropOwnTo l i o o.groups.length).map Value.bool)) : RowsB w base (vs.set i v) l (i + 1) := fun j o' hj ho' => by
  by_cases hji : j = i
  · subst hji
    rw [ho] at ho'
    cases ho'
    exact ⟨v, by rw [List.getElem?_set, if_pos rfl, if_pos hi], hv⟩
  · obtain ⟨u, h1, h2⟩ := h j o' (by omega) ho'
    exact ⟨u, by rw [List.getElem?_set, if_neg (fun e => hji e.symm)]; exact h1, h2⟩
theorem RowsB.set {w : World} {base : Nat} {vs : List Value} {l : List ObjD} {i : Nat} {v : Value} (h : RowsB w base vs l i) : RowsB w base (vs.set i v) l i := fun j o' hj ho' => by
  obtain ⟨u, h1, h2⟩ := h j o' hj ho'
  exact ⟨u, by rw [List.getElem?_set, if_neg (by omega)]; exact h1, h2⟩
theorem flat_bools : ∀ xs : List Bool, xs.flatMap (fun b => [Value.bool b]) = xs.map Value.bool
  | [] => rfl
  | x :: xs => by rw [List.flatMap_cons, flat_bools xs]; rfl
theorem isL_bools {w : World} {B : Nat} {v : Value} {xs : List Bool} {n : Nat} (h : w.ownsRow B 4 1 v n (xs.map Value.bool)) : IsL 1 EBool w v xs := by
  have hn : n = xs.length := by have := h.1; simpa using this.symm
  subst hn
  have := isL_rows (k := 1) (E := EBool) (f := fun b : Bool => [Value.bool b]) (g := id) (fun _ => rfl) (by rw [flat_bools]; exact h) (fun d _ b o hc => by have := hc 0 _ rfl; exact this)
  simpa using this
theorem RowsB.snoc' {w : World} {base : Nat} {vs : List Value} {l : List ObjD} {i : Nat} {o : ObjD} {v : Value} (h : RowsB w base (vs.set i v) l i) (ho : l[i]? = some o) (hi : i < (vs.set i v).length) (hv : w.ownsRow base 4 1 v o.secs.length ((dropOwnTo l i o o.groups.length).map Value.bool)) : RowsB w base (vs.set i v) l (i + 1) := by
  have := h.snoc ho hi hv
  rwa [List.set_set] at this
theorem isL_drops {w : World} {gb base : Nat} {l : List ObjD} {vs : List Value} (hok : ∀ o ∈ l, OkD o) (h : w.ownsRow gb 138 1 (.slice (some ⟨gb, 0, none⟩) l.length l.length) l.length vs) (hr : RowsB w base vs l l.length) (hlc : l.length ≤ 1000) : IsL 1 EBools w (.slice (some ⟨gb, 0, none⟩) l.length l.length) (dropsOf l) := by
  have hlen : (dropsOf l).length = l.length := by simp [dropsOf]
  refine ⟨some ⟨gb, 0, none⟩, l.length, by rw [hlen], by rw [hlen]; exact Nat.le_refl _, by unfold maxLen; omega, fun e => by simp at e, fun i x hx => ⟨gb, 0, rfl, ?_⟩⟩
  have hi : i < l.length := by have := (List.getElem?_eq_some_iff.1 hx).1; omega
  obtain ⟨o, ho⟩ : ∃ o, l[i]? = some o := ⟨_, List.getElem?_eq_getElem hi⟩
  have hx' : x = dropOwnTo l i o o.groups.length := by
    have hoo := hok o (List.mem_of_getElem? ho)
    unfold dropsOf at hx
    rw [List.getElem?_map, List.getElem?_range hi, Option.map_some] at hx
    simp only [Option.some.injEq] at hx
    rw [← hx, dropOwnTo_eq hoo.one hoo.mem]
    unfold dropOf
    rw [ho]
  obtain ⟨v, h1, h2⟩ := hr i o hi ho
  refine ⟨v, ?_, by rw [hx']; exact isL_bools h2⟩
  rw [Nat.zero_add, Nat.mul_one, h.cellAt i (by omega)]
  exact h1
theorem dropOwn_step {l : List ObjD} {i k : Nat} {o : ObjD} {g : GroupD} (hg : o.groups[k]? = some g) : dropOwnTo l i o (k + 1) = setAll (dropOwnTo l i o k) g.members (metB l i k (symName o g.sym)) := by
  conv => lhs; unfold dropOwnTo
  rw [hg]
theorem dropOwn_len {l : List ObjD} {i : Nat} {o : ObjD} (h : OkD o) (k : Nat) : (dropOwnTo l i o k).length = o.secs.length := by rw [dropOwnTo_eq h.one h.mem, dropTo_length]
end Go.Proofs.YthnkehdcolnegaaGreat

namespace Go.Proofs.YthnkehdcolnegaaGreat
open Go.RowKit

/-- The map's entries. -/
def mDef (ms : List DefD) : List (ByteArray × Value) := ms.map fun d => (d.name, .agg (defCs d))
theorem beq_sEq (a b : ByteArray) : (a == b) = sEq b a := by
  cases h : sEq b a with
  | true => rw [sEq_iff.1 h, beq_self]
  | false =>
    cases h2 : a == b with
    | false => rfl
    | true =>
      rw [(MapKept.bytes_beq a b).1 h2, sEq_refl] at h
      cases h
theorem mVal_def (name : ByteArray) : ∀ ms : List DefD, mVal name (mDef ms) = (ms.find? fun e => sEq e.name name).map fun d => .agg (defCs d)
  | [] => rfl
  | d :: ms => by
    show (bif name == d.name then some (Value.agg (defCs d)) else mVal name (mDef ms)) = _
    rw [mVal_def name ms, beq_sEq, List.find?_cons]
    cases sEq d.name name <;> rfl
/-- The list with one definition more, or another one in its place. -/
def dPut (ms : List DefD) (d : DefD) : List DefD := match ms.find? (fun e => sEq e.name d.name) with
  | some _ => ms.map fun e => bif sEq e.name d.name then d else e
  | none => ms ++ [d]
theorem mAt_def_none {name : ByteArray} : ∀ {ms : List DefD} {i : Nat}, mAt name (mDef ms) i = none ↔ ms.find? (fun e => sEq e.name name) = none
  | [], _ => by simp [mDef, mAt]
  | d :: ms, i => by
    show (bif name == d.name then some (i, Value.agg (defCs d)) else mAt name (mDef ms) (i + 1)) = none ↔ _
    rw [beq_sEq, List.find?_cons]
    cases sEq d.name name with
    | true => simp
    | false => simpa using mAt_def_none (ms := ms) (i := i + 1)
theorem map_same {d : DefD} : ∀ {ms : List DefD}, (∀ e ∈ ms, e.name ≠ d.name) → (ms.map fun e => bif sEq e.name d.name then d else e) = ms
  | [], _ => rfl
  | e :: ms, h => by
    rw [List.map_cons, map_same fun x hx => h x (List.mem_cons_of_mem _ hx)]
    cases hq : sEq e.name d.name with
    | true => exact absurd (sEq_iff.1 hq) (h e (List.mem_cons_self ..))
    | false => rfl
theorem set_def {d : DefD} : ∀ {ms : List DefD} {i n : Nat} {u : Value}, Apart ms → mAt d.name (mDef ms) i = some (i + n, u) → (mDef ms).set n (d.name, .agg (defCs d)) = mDef (ms.map fun e => bif sEq e.name d.name then d else e)
  | [], _, _, _, _, h => by cases h
  | e :: ms, i, n, u, ha, h => by
    obtain ⟨h1, h2⟩ := List.pairwise_cons.1 ha
    have h : (bif d.name == e.name then some (i, Value.agg (defCs e)) else mAt d.name (mDef ms) (i + 1)) = some (i + n, u) := h
    rw [beq_sEq] at h
    cases hq : sEq e.name d.name with
    | true =>
      rw [hq] at h
      simp only [cond_true, Option.some.injEq, Prod.mk.injEq] at h
      obtain rfl : n = 0 := by omega
      have hn := sEq_iff.1 hq
      rw [List.map_cons, hq, cond_true, map_same fun x hx => fun e' => h1 x hx (hn.trans e'.symm)]
      rfl
    | false =>
      rw [hq] at h
      simp only [cond_false] at h
      obtain ⟨k, hk, _⟩ := mAt_some h
      obtain ⟨n', rfl⟩ : ∃ n', n = n' + 1 := ⟨n - 1, by omega⟩
      have ih := set_def (d := d) (ms := ms) (i := i + 1) (n := n') (u := u) h2 (by rw [h, show i + (n' + 1) = i + 1 + n' by omega])
      rw [List.map_cons, hq, cond_false]
      show (e.name, Value.agg (defCs e)) :: (mDef ms).set n' (d.name, .agg (defCs d)) = (e.name, Value.agg (defCs e)) :: mDef _
      rw [ih]
theorem mPut_def {ms : List DefD} {d : DefD} (ha : Apart ms) : mPut (mDef ms) d.name (.agg (defCs d)) = mDef (dPut ms d) := by
  unfold mPut dPut
  cases hq : mAt d.name (mDef ms) 0 with
  | none =>
    rw [mAt_def_none.1 hq]
    unfold mDef
    rw [List.map_append]
    rfl
  | some x =>
    obtain ⟨n, u⟩ := x
    cases hf : ms.find? (fun e => sEq e.name d.name) with
    | none => rw [mAt_def_none.2 hf] at hq; cases hq
    | some y => exact set_def (i := 0) (n := n) ha (by rw [hq, Nat.zero_add])
theorem ownGo_snoc {D : List (List Bool)} {bindOf : DefD → Int} {x : Sy} : ∀ {ys : List Sy} {m : List DefD}, ownGo D bindOf (ys ++ [x]) m = (ownGo D bindOf ys m).bind (ownStep D bindOf x)
  | [], m => by
    show (match ownStep D bindOf x m with | none => none | some m' => some m') = ownStep D bindOf x m
    cases ownStep D bindOf x m <;> rfl
  | y :: ys, m => by
    show (match ownStep D bindOf y m with | none => none | some m' => ownGo D bindOf (ys ++ [x]) m') = (match ownStep D bindOf y m with | none => none | some m' => ownGo D bindOf ys m').bind (ownStep D bindOf x)
    cases ownStep D bindOf y m with
    | none => rfl
    | some m' => exact ownGo_snoc
theorem ownGo_none {D : List (List Bool)} {bindOf : DefD → Int} {r : List Sy} : ∀ {ys : List Sy} {m : List DefD}, ownGo D bindOf ys m = none → ownGo D bindOf (ys ++ r) m = none
  | [], m, h => by cases h
  | y :: ys, m, h => by
    have h : (match ownStep D bindOf y m with | none => none | some m' => ownGo D bindOf ys m') = none := h
    show (match ownStep D bindOf y m with | none => none | some m' => ownGo D bindOf (ys ++ r) m') = none
    cases hs : ownStep D bindOf y m with
    | none => rfl
    | some m' =>
      rw [hs] at h
      exact ownGo_none h
theorem allTo_pre {α : Type} {f : ObjD → List α} {l : List ObjD} {i : Nat} : ∀ {n : Nat}, i ≤ n → ∃ r, allTo f l n = allTo f l i ++ r
  | 0, h => by
    obtain rfl : i = 0 := Nat.le_zero.1 h
    exact ⟨[], by rw [List.append_nil]⟩
  | n + 1, h => by
    by_cases hi : i = n + 1
    · subst hi; exact ⟨[], by rw [List.append_nil]⟩
    · obtain ⟨r, hr⟩ := allTo_pre (f := f) (l := l) (n := n) (show i ≤ n by omega)
      refine ⟨r ++ match l[n]? with | some o => tagged f n o | none => [], ?_⟩
      show allTo f l n ++ _ = _
      rw [hr, List.append_assoc]
      rfl
theorem atTo_pre {α : Type} {f : ObjD → List α} {l : List ObjD} {i k : Nat} {o : ObjD} (ho : l[i]? = some o) : ∃ r, allTo f l l.length = atTo f l i k ++ r := by
  obtain ⟨r, hr⟩ := allTo_pre (f := f) (l := l) (i := i + 1) (n := l.length) (List.getElem?_eq_some_iff.1 ho).1
  refine ⟨(tagged f i o).drop k ++ r, ?_⟩
  have e : allTo f l (i + 1) = allTo f l i ++ tagged f i o := by
    show allTo f l i ++ (match l[i]? with | some o => tagged f i o | none => []) = _
    rw [ho]
  rw [hr, e]
  unfold atTo
  rw [ho]
  simp only
  rw [List.append_assoc, List.append_assoc, ← List.append_assoc ((tagged f i o).take k), List.take_append_drop]
/-- The bind of the symbol that a definition tells of. -/
def bindIn (l : List ObjD) (d : DefD) : Int := match symAt2 l d.obj d.sym with | some y => y.bind | none => 0
theorem bindIn_all {l : List ObjD} : ∀ y ∈ allTo ObjD.syms l l.length, bindIn l ⟨y.2.2.name, y.1, y.2.1⟩ = y.2.2.bind := fun y hy => by
  obtain ⟨i, k, x⟩ := y
  obtain ⟨h1, o, h2, h3⟩ := allTo_mem.1 hy
  have : symAt2 l i k = some x := by unfold symAt2; rw [h2]; exact h3
  unfold bindIn
  rw [this]
theorem headD_in {name : ByteArray} {hs : List Sy} {d : DefD} (h : headD name hs = some d) : ∃ x ∈ hs, d = ⟨name, x.1, x.2.1⟩ := by
  cases hs with
  | nil => cases h
  | cons x r => cases h; exact ⟨x, List.mem_cons_self .., rfl⟩
theorem findIn_in {xs : List Sy} {D : List (List Bool)} {name : ByteArray} {d : DefD} (h : findIn xs D name = some d) : ∃ x ∈ xs, d = ⟨name, x.1, x.2.1⟩ := by
  unfold findIn at h
  have hh : ∀ b, headD name (hitsIn xs D name b) = some d → ∃ x ∈ xs, d = ⟨name, x.1, x.2.1⟩ := fun b h => by
    obtain ⟨x, hx, e⟩ := headD_in h
    exact ⟨x, (List.mem_filter.1 hx).1, e⟩
  cases hq : headD name (hitsIn xs D name 1) with
  | none => rw [hq] at h; exact hh 2 h
  | some d' => rw [hq] at h; cases h; exact hh 1 hq
theorem nown_at {l : List ObjD} {D : List (List Bool)} {i k : Nat} {ms : List DefD} (hok : ∀ o ∈ l, OkD o) (h : ownGo D (bindIn l) (atTo ObjD.syms l i k) [] = some ms) : OwnInv D (bindIn l) (atTo ObjD.syms l i k) ms := by
  have hb : ∀ y ∈ atTo ObjD.syms l i k, bindIn l ⟨y.2.2.name, y.1, y.2.1⟩ = y.2.2.bind := fun y hy => by
    obtain ⟨a, b, x⟩ := y
    obtain ⟨_, o, h2, h3⟩ := atTo_mem.1 hy
    have : symAt2 l a b = some x := by unfold symAt2; rw [h2]; exact h3
    unfold bindIn
    rw [this]
  have hx : ∀ y ∈ atTo ObjD.syms l i k, definesB y.2.2 (drAt D y.1) = true → y.2.2.bind = 1 ∨ y.2.2.bind = 2 := fun y hy hd => by
    obtain ⟨a, b, x⟩ := y
    obtain ⟨_, o, h2, h3⟩ := atTo_mem.1 hy
    have h4 := (hok o (List.mem_of_getElem? h2)).bind x (List.mem_of_getElem? h3)
    have h5 : x.bind ≠ 0 := fun h0 => by unfold definesB at hd; rw [h0] at hd; cases hd
    show x.bind = 1 ∨ x.bind = 2
    omega
  have := (ownGo_inv (D := D) (bindOf := bindIn l) (atTo ObjD.syms l i k) [] [] ⟨List.Pairwise.nil, fun name => rfl, fun name => Nat.zero_le _⟩ hb hx).2 ms h
  rwa [List.nil_append] at this
theorem own_sym {l : List ObjD} {D : List (List Bool)} {i k : Nat} {ms : List DefD} {name : ByteArray} {d : DefD} (hi : OwnInv D (bindIn l) (atTo ObjD.syms l i k) ms) (h : ms.find? (fun e => sEq e.name name) = some d) : ∃ ob y, l[d.obj]? = some ob ∧ ob.syms[d.sym]? = some y ∧ bindIn l d = y.bind := by
  rw [hi.2.1 name] at h
  obtain ⟨x, hx, rfl⟩ := findIn_in h
  obtain ⟨a, b, y⟩ := x
  obtain ⟨_, ob, h2, h3⟩ := atTo_mem.1 hx
  refine ⟨ob, y, h2, h3, ?_⟩
  have : symAt2 l a b = some y := by unfold symAt2; rw [h2]; exact h3
  unfold bindIn
  rw [this]
end Go.Proofs.YthnkehdcolnegaaGreat

namespace Go.Proofs.YthnkehdcolnegaaGreat
open Go.RowKit

/-- What maps.Values hands back: a closure over a box that holds the map. -/
theorem values_any (B : Nat) (w : World) : Calls Tryz.prog 107 #[.map (some B)] w fun e w' => e = .returned (.func (.func 161) #[] #[.pointer (some ⟨w.heap.size, 0, none⟩)]) ∧ w'.heap[w.heap.size]? = some (.cells #[.map (some B)] 200 (0, 0)) ∧ Below w.heap.size w w' := by
  have hg := heap_alloc_new w (.cells #[.map (some B)] 200)
  have hb : Below w.heap.size w (w.alloc (.cells #[.map (some B)] 200)) := (Below.refl _ w).alloc (Nat.le_refl _) _
  go_enter Tryz.func107, Tryz.ntmps107
  go_upto_region 1 with fail
  generalize w.alloc (.cells #[.map (some B)] 200) = w1 at *
  go_wp2_with fail
  go_ret
  exact ⟨rfl, hg, hb⟩
end Go.Proofs.YthnkehdcolnegaaGreat

namespace Go.Proofs.YthnkehdcolnegaaGreat
open Go.ChangeMaps Go.RowKit Go.MapKept

/-- Block B is such a map, block r an iterator over it, and these entries have not come yet. -/
def SIter (w : World) (B r : Nat) (m : List (ByteArray × Value)) (left : List MapEntry) : Prop :=
  ∃ es clock since seen c0, w.heap[B]? = some (.map es clock) ∧ es.toList.map (fun e => (e.key, e.val)) = m.map (fun p => (Value.string p.1, p.2)) ∧ (es.toList.map (·.born)).Nodup ∧
    w.heap[r]? = some (.mapIter (some B) since seen c0) ∧ (∀ x ∈ es.toList, x.born < since) ∧ since ≤ c0 ∧ since ≤ clock ∧ left = (leftOf es seen).toList
theorem filter_none {es : List MapEntry} {seen : Array Nat} {b : Nat} (h : b ∉ es.map (·.born)) : es.filter (fun e => !(seen.push b).contains e.born) = es.filter (fun e => !seen.contains e.born) := by
  apply List.filter_congr
  intro x hx
  rw [contains_push]
  have : (x.born == b) = false := by
    cases hc : x.born == b with
    | false => rfl
    | true => exact absurd (List.mem_map.2 ⟨x, hx, beq_iff_eq.1 hc⟩) h
  rw [this, Bool.or_false]
theorem filter_step {e : MapEntry} {seen : Array Nat} (hs : seen.contains e.born = false) : ∀ {es : List MapEntry}, (es.map (·.born)).Nodup → e ∈ es → (es.filter fun x => !seen.contains x.born).Perm (e :: es.filter fun x => !(seen.push e.born).contains x.born)
  | [], _, he => by cases he
  | x :: es, hn, he => by
    have hn' : x.born ∉ es.map (·.born) ∧ (es.map (·.born)).Nodup := List.nodup_cons.1 hn
    by_cases hx : x.born = e.born
    · have hxe : x = e := by
        rcases List.mem_cons.1 he with h | h
        · exact h.symm
        · exact absurd (List.mem_map.2 ⟨e, h, hx.symm⟩) hn'.1
      subst hxe
      rw [List.filter_cons, List.filter_cons, if_pos (by rw [hs]; rfl), if_neg (by rw [contains_push, beq_self_eq_true, Bool.or_true]; decide), filter_none hn'.1]
    · have he' : e ∈ es := by
        rcases List.mem_cons.1 he with h | h
        · exact absurd (by rw [h]) hx
        · exact h
      have ih := filter_step hs hn'.2 he'
      have hb : (x.born == e.born) = false := by simpa using hx
      cases hc : seen.contains x.born with
      | true =>
        rw [List.filter_cons, List.filter_cons, if_neg (by rw [hc]; decide), if_neg (by rw [contains_push, hc, Bool.true_or]; decide)]
        exact ih
      | false =>
        rw [List.filter_cons, List.filter_cons, if_pos (by rw [hc]; rfl), if_pos (by rw [contains_push, hc, hb]; rfl)]
        exact (ih.cons x).trans (List.Perm.swap _ _ _)
section
variable {P : Program} {w : World} {B r : Nat} {m : List (ByteArray × Value)} {left : List MapEntry}
theorem SIter.walks {w' : World} (h : SIter w B r m left) (hk : KeepsWalks w w') : SIter w' B r m left := by
  obtain ⟨es, clock, since, seen, c0, h1, h2, h3, h4, h5⟩ := h
  exact ⟨es, clock, since, seen, c0, hk.same _ _ h1 rfl, h2, h3, hk.same _ _ h4 rfl, h5⟩
theorem SIter.left_eq (h : SIter w B r m left) : w.rangeLeft B r = left.length := by
  obtain ⟨es, clock, since, seen, c0, h1, h2, h3, h4, _, _, _, rfl⟩ := h
  simp only [World.rangeLeft, h1, h4, Array.length_toList]
theorem SIter.iter_walk (h : SIter w B r m left) : ∃ o : Obj, w.heap[r]? = some o ∧ o.isWalk = true := by
  obtain ⟨es, clock, since, seen, c0, h1, h2, h3, h4, _⟩ := h
  exact ⟨_, h4, rfl⟩
theorem SIter.mem (h : SIter w B r m left) {e : MapEntry} (he : e ∈ left) : ∃ p ∈ m, e.key = .string p.1 ∧ e.val = p.2 := by
  obtain ⟨es, clock, since, seen, c0, h1, h2, h3, h4, _, _, _, rfl⟩ := h
  have hm : (e.key, e.val) ∈ es.toList.map (fun e => (e.key, e.val)) := List.mem_map.2 ⟨e, (mem_left he).1, rfl⟩
  rw [h2] at hm
  obtain ⟨p, hp, e1⟩ := List.mem_map.1 hm
  exact ⟨p, hp, (Prod.mk.inj e1).1.symm, (Prod.mk.inj e1).2.symm⟩
/-- 'range m'. -/
theorem SMap.range {t k e : TypeId} (h : SMap w B m) (ht : P.underlying t = some (.map k e)) :
    ∃ w' left, (Instr.range t (.map (some B))).run P w = .ok (.pointer (some ⟨w.heap.size, 0, none⟩)) w' ∧ SIter w' B w.heap.size m left ∧ left.map (·.val) = m.map (·.2) ∧ w.grownBy w' none ∧ w'.heap.size = w.heap.size + 1 := by
  have hlt := h.lt
  obtain ⟨es, clock, hb, h2, h3, h4⟩ := h
  refine ⟨_, es.toList, run_range_map w t k e B es clock ht hb, ⟨es, clock, clock, #[], clock, ((MapKept.heap_alloc w _).2 B hlt).trans hb, h2, h3, (MapKept.heap_alloc w _).1, h4, Nat.le_refl _, Nat.le_refl _, ?_⟩, ?_, World.grownBy_alloc w _ none, by simp⟩
  · simp [leftOf]
    exact (List.filter_eq_self.2 fun _ _ => rfl).symm
  · have := congrArg (List.map Prod.snd) h2
    simpa [Function.comp_def] using this
/-- The step. -/
theorem SIter.next (h : SIter w B r m left) (ty : TypeId) :
    (left = [] ∧ (Instr.next (.pointer (some ⟨r, 0, none⟩)) false ty).run P w = .ok (.tuple #[.bool false]) w) ∨
    ∃ e left' w', e ∈ left ∧ left.Perm (e :: left') ∧ (Instr.next (.pointer (some ⟨r, 0, none⟩)) false ty).run P w = .ok (.tuple #[.bool true, e.key, e.val]) w' ∧
      SIter w' B r m left' ∧ w.grownBy w' (some r) ∧ w'.heap.size = w.heap.size ∧ (Instr.entry (.pointer (some ⟨r, 0, none⟩))).run P w' = .ok (.tuple #[e.key, e.val]) w' := by
  obtain ⟨es, clock, since, seen, c0, hb, h2, h3, hr, hold, hsc, hsk, rfl⟩ := h
  have hne : r ≠ B := fun e => by rw [e, hb] at hr; cases hr
  rcases run_next_at (P := P) w ty r B since c0 seen es clock hr hb hold hsc with ⟨h0, hrun⟩ | ⟨e, he, w1, hal, hrun⟩
  · exact .inl ⟨List.length_eq_zero_iff.1 (by rw [Array.length_toList]; exact h0), hrun⟩
  · obtain ⟨hem, hes⟩ := mem_left he
    have hr1 : w1.heap[r]? = some (.mapIter (some B) since seen c0) := by rcases hal with rfl | rfl <;> exact hr
    have hb1 : w1.heap[B]? = some (.map es clock) := by rcases hal with rfl | rfl <;> exact hb
    have hset := heap_set (o' := .mapIter (some B) since (seen.push e.born) clock) hr1
    have hb' : (setBlock w1 r (.mapIter (some B) since (seen.push e.born) clock)).heap[B]? = some (.map es clock) := (hset.2 B (fun e1 => hne e1.symm)).trans hb1
    refine .inr ⟨e, (leftOf es (seen.push e.born)).toList, _, he, ?_, hrun, ⟨es, clock, since, seen.push e.born, clock, hb', h2, h3, hset.1, hold, hsk, hsk, rfl⟩, ?_, ?_, run_entry_at _ r B since seen es clock e hset.1 hb' hem h3⟩
    · unfold leftOf
      rw [Array.toList_filter, Array.toList_filter]
      exact filter_step hes h3 hem
    · rcases hal with rfl | rfl <;> exact ⟨rfl, rfl, rfl, by simp [setBlock], fun i _ hi => hset.2 i (fun e1 => hi (by rw [e1]))⟩
    · rcases hal with rfl | rfl <;> simp [setBlock]
end
section
variable {F : Fence} {n : Nat} {P : Program} (w : World) {ops : Array Oper} {rest : List Oper} {o : Oper} {a : Act} {Q : Exit → Act → World → Prop}
theorem wpListIn_range_str (hg : o.guard = none) (mo : Operand) (t : TypeId) (hop : o.op = Op.range t mo) (k e : TypeId) (ht : P.underlying t = some (.map k e)) (B : Nat) (m : List (ByteArray × Value))
    (hm : a.eval mo = .map (some B)) (hown : SMap w B m)
    (hK : ∀ w' left, SIter w' B w.heap.size m left → left.map (·.val) = m.map (·.2) → w.grownBy w' none → w'.heap.size = w.heap.size + 1 → wpListIn F n P ops Q rest (a.put o.dst (.pointer (some ⟨w.heap.size, 0, none⟩))) w') :
    wpListIn F n P ops Q (o :: rest) a w := by
  refine wpListIn_plain hg fun K' hK' => ?_
  obtain ⟨w', left, hrun, r1, r2, r3, r4⟩ := hown.range ht
  unfold Oper.wpIn
  refine ⟨by simp [Oper.about, hop], ?_⟩
  rw [Oper.semAt_plain F _ _ (by rw [hop]; intro c hc'; cases hc')]
  simp [execOp, hop, hm, hrun, Result.andThen]
  exact hK' _ _ (hK w' left r1 r2 r3 r4)
theorem wpListIn_next_str (hg : o.guard = none) (it : Operand) (hop : o.op = Op.next it false) (B r : Nat) (m : List (ByteArray × Value)) (left : List MapEntry)
    (hit : a.eval it = .pointer (some ⟨r, 0, none⟩)) (h : SIter w B r m left)
    (hDone : left = [] → wpListIn F n P ops Q rest (a.put o.dst (.tuple #[.bool false])) w)
    (hMore : ∀ (s : ByteArray) (v : Value) (e : MapEntry) (w' : World) (left' : List MapEntry), e ∈ left → e.val = v → (s, v) ∈ m → left.Perm (e :: left') → SIter w' B r m left' →
      w.grownBy w' (some r) → w'.heap.size = w.heap.size → (Instr.entry (.pointer (some ⟨r, 0, none⟩))).run P w' = .ok (.tuple #[.string s, v]) w' → wpListIn F n P ops Q rest (a.put o.dst (.tuple #[.bool true, .string s, v])) w') :
    wpListIn F n P ops Q (o :: rest) a w := by
  refine wpListIn_plain hg fun K' hK' => ?_
  unfold Oper.wpIn
  refine ⟨by simp [Oper.about, hop], ?_⟩
  rw [Oper.semAt_plain F _ _ (by rw [hop]; intro c hc'; cases hc')]
  rcases h.next (P := P) o.type with ⟨h0, hrun⟩ | ⟨e, left', w', he, hp, hrun, hrg, hgr, hsz, hen⟩
  · simp [execOp, hop, hit, hrun, Result.andThen]
    exact hK' _ _ (hDone h0)
  · obtain ⟨p, hpm, e1, e2⟩ := h.mem he
    rw [e1, e2] at hrun hen
    simp [execOp, hop, hit, hrun, Result.andThen]
    exact hK' _ _ (hMore p.1 p.2 e w' left' he e2 hpm hp hrg hgr hsz hen)
end
end Go.Proofs.YthnkehdcolnegaaGreat

namespace Go.Proofs.YthnkehdcolnegaaGreat
open Go.RowKit Go.Shelf

attribute [local go_sem] Oper.semAt_some
abbrev defV (d : DefD) : Value := .agg (defCs d)
set_option maxRecDepth 100000 in
set_option maxHeartbeats 2000000 in
theorem valIt_in (F : Fence) (n : Nat) (h8 : F.fn 161) (hro : F.round = none) (hn : 1 ≤ n) (l Bm B : Nat) (ms : List DefD) (J Jx : List DefD → World → Prop)
    (hY : ∀ pre x W, J pre W → pre.length < ms.length → YieldAt F (n - 1) Tryz.prog l #[.agg (defCs x)] W fun e W' =>
      (e = .returned (.bool true) ∧ J (pre ++ [x]) W' ∧ KeepsWalks W W') ∨ (e = .returned (.bool false) ∧ Jx (pre ++ [x]) W'))
    (W : World) (hJ : AbidesFrom W.heap.size J) (hm : W.cell? ⟨Bm, 0, none⟩ = some (.map (some B))) (hown : SMap W B (mDef ms)) (h0 : J [] W) :
    CallsIn F n Tryz.prog 161 #[.func (.yield l) #[] #[], .pointer (some ⟨Bm, 0, none⟩)] W fun e W' => (∃ v, e = .returned v) ∧
      ((∃ xs : List DefD, (xs.map defV).Perm (ms.map defV) ∧ J xs W') ∨ (∃ pre, True ∧ Jx pre W')) := by
  refine callsIn_of_wp Tryz.func161 rfl h8 ?_ hro
  simp only [Tryz.ntmps161, List.size_toArray, List.length_cons, List.length_nil, Nat.reduceAdd, Nat.reduceSub, Array.replicate_succ, Array.replicate_zero, List.push_toArray, List.append_toArray, List.nil_append, List.cons_append]
  gi_wp2_with (first
    | (gi_at_range; refine wpListIn_range_str _ rfl _ 200 rfl 9 60 Tryz.underlying200 B (mDef ms) rfl hown ?_; intro w0 left0 hrg0 hlv0 hg0 hs0)
    | gi_in)
  go_frame
  gi_loopw [4] (fun _ wr => ∃ (left : List MapEntry) (pre : List DefD), SIter wr B W.heap.size (mDef ms) left ∧ (pre.map defV ++ left.map (·.val)).Perm (ms.map defV) ∧ J pre wr)
    (fun _ wr => wr.rangeLeft B W.heap.size)
  case atStart =>
    exact ⟨left0, [], hrg0, by rw [hlv0]; simp [mDef, Function.comp_def], hJ [] W w0 none h0 hg0 (fun r e => by cases e)⟩
  case round =>
    obtain ⟨left, pre, hrg, hperm, hJs⟩ := hrel
    gi_wp2_with (first
      | (gi_at_next; refine wpListIn_next_str _ rfl _ rfl B W.heap.size (mDef ms) left rfl hrg ?_ ?_)
      | gi_in)
    · intro hl0
      subst hl0
      gi_wp2
      go_end0
      exact ⟨⟨_, rfl⟩, .inl ⟨pre, by simpa using hperm, hJs⟩⟩
    · intro s v e w2 left' he hev hmem hp hrg2 hg2 hs2 hen
      obtain ⟨d, hd, hde⟩ := List.mem_map.1 hmem
      obtain ⟨rfl, rfl⟩ := Prod.mk.inj hde
      have hlen : pre.length + left.length = ms.length := by have := hperm.length_eq; simpa using this
      have hlp : left.length = left'.length + 1 := by have := hp.length_eq; simpa using this
      have hJ2 : J pre w2 := hJ pre wr w2 (some W.heap.size) hJs hg2 (fun r e => by cases e; exact ⟨Nat.le_refl _, hrg.iter_walk⟩)
      have hJ3 : J pre (w2.alloc (.cells #[.string d.name, .int .i64 (d.obj : Int), .int .i64 (d.sym : Int)] 60)) := hJ pre w2 _ none hJ2 (World.grownBy_alloc w2 _ none) (fun r e => by cases e)
      have hrg3 : SIter (w2.alloc (.cells #[.string d.name, .int .i64 (d.obj : Int), .int .i64 (d.sym : Int)] 60)) B W.heap.size (mDef ms) left' := hrg2.walks (KeepsWalks.alloc _ _)
      have hperm2 : ((pre ++ [d]).map defV ++ left'.map (·.val)).Perm (ms.map defV) := by
        refine List.Perm.trans ?_ hperm
        have h1 := (hp.map (·.val)).symm
        rw [List.map_cons, hev] at h1
        rw [List.map_append, List.append_assoc]
        exact List.Perm.append_left _ h1
      obtain ⟨fn, tmps, assign, body, hy, hR⟩ := hY pre d _ hJ3 (by omega)
      clear hs2 hg2 hJ2 hrg2 hde hmem he
      gi_wp2
      refine hR.mono ?_
      rintro e W3 (⟨rfl, hJ4, hk4⟩ | ⟨rfl, hJx4⟩)
      · gi_wp2
        have hrg4 := hrg3.walks hk4
        go_roundw
        case rel => exact ⟨left', pre ++ [d], hrg4, hperm2, hJ4⟩
        case measure => rw [hrg4.left_eq, hrg.left_eq]; omega
      · gi_wp2
        refine bodyPost_ret (results_none rfl _ _ _) rfl ?_
        exact ⟨⟨_, rfl⟩, .inr ⟨pre ++ [d], trivial, hJx4⟩⟩

theorem valIt_stops (F : Fence) (n : Nat) (h7 : F.fn 161) (hro : F.round = none) (hn : 1 ≤ n) (Bm B : Nat) (ms : List DefD) (w : World) (hBm : Bm < w.heap.size)
    (hc : w.cell? ⟨Bm, 0, none⟩ = some (.map (some B))) (hm : SMap w B (mDef ms)) :
    SeqStopsK F n Tryz.prog 161 #[.pointer (some ⟨Bm, 0, none⟩)] (fun d : DefD => #[.agg (defCs d)]) KeepsWalks (fun xs => (xs.map defV).Perm (ms.map defV)) (fun _ => True) ms.length w := fun l J Jx W hW hJ _ hY h0 =>
  valIt_in F n h7 hro hn l Bm B ms J Jx hY W hJ ((hW.cell (p := ⟨Bm, 0, none⟩) hBm).trans hc) (hm.below hW) h0
end Go.Proofs.YthnkehdcolnegaaGreat

namespace Go.Proofs.YthnkehdcolnegaaGreat
open Go.RowKit Go.Shelf

attribute [local go_sem] Oper.semAt_some
def defL (d : DefD) : List Value := [.string d.name, .int .i64 (d.obj : Int), .int .i64 (d.sym : Int)]
theorem defL_length (d : DefD) : (defL d).length = 3 := rfl
theorem Tryz.infoDef : (Tryz.prog.info? 60).map (fun i => (i.zero, i.size, i.bytes)) = some (some (.agg #[.string ⟨#[]⟩, .int .i64 0, .int .i64 0]), 3, 32) := by kernel_rfl
theorem three_cell_at (w : World) (a b c : Value) (T : TypeId) : ∀ j u, [a, b, c][j]? = some u → (w.alloc (.cells #[a, b, c] T)).cell? ((⟨w.heap.size, 0, none⟩ : Addr).add j) = some u := fun j u h => by
  have ha : (⟨w.heap.size, 0, none⟩ : Addr).add j = ⟨w.heap.size, j, none⟩ := by unfold Addr.add; split <;> simp_all
  rw [ha, cell_of_row _ w.heap.size j #[a, b, c] T (0, 0) (heap_alloc_new w _)]
  simpa using h
theorem defL_one (d : DefD) : ∀ u ∈ [Value.string d.name, .int .i64 (d.obj : Int), .int .i64 (d.sym : Int)], u.oneCell' = true := fun u hu => by
  simp only [List.mem_cons, List.not_mem_nil, or_false] at hu
  rcases hu with rfl | rfl | rfl <;> rfl
theorem block_own {β : Type} (B : Nat) (o : Obj) (ho : o.isCells = true) : Own (fun (_ : β) W => W.heap[B]? = some o) := fun s X Y row hs hg hrow => by
  refine (hg.block B (Array.getElem?_eq_some_iff.1 hs).1 fun e' => ?_).trans hs
  obtain ⟨o', h1, hc⟩ := hrow B e'.symm
  rw [show X.heap[B]? = _ from hs] at h1
  cases h1
  rw [ho] at hc
  cases hc

set_option maxRecDepth 100000 in
set_option maxHeartbeats 4000000 in
theorem appendSeq_in (F : Fence) (n : Nat) (h3 : F.fn 193) (h7 : F.fn 161) (hro : F.round = none) (hn : 3 ≤ n) (Bm B : Nat) (ms : List DefD) (hlen : ms.length ≤ 10000000) (w : World) (hBm : Bm < w.heap.size)
    (hc : w.cell? ⟨Bm, 0, none⟩ = some (.map (some B))) (hm : SMap w B (mDef ms)) :
    CallsIn F n Tryz.prog 193 #[.slice none 0 0, .func (.func 161) #[] #[.pointer (some ⟨Bm, 0, none⟩)]] w fun e W' =>
      ∃ (u : Value) (defs : List DefD), e = .returned u ∧ W'.ownsRow w.heap.size 60 3 u defs.length (defs.flatMap defL) ∧ (defs.map defV).Perm (ms.map defV) ∧ Below w.heap.size w W' := by
  have h1 : 1 ≤ n := by omega
  obtain ⟨i0, hi, hz0, hz1, hz2⟩ := info_parts Tryz.infoDef
  refine callsIn_of_wp_marks Tryz.func193 rfl h3 ?_ hro
  simp only [Tryz.ntmps193, List.size_toArray, List.length_cons, List.length_nil, Nat.reduceAdd, Nat.reduceSub, Array.replicate_succ, Array.replicate_zero, List.push_toArray, List.append_toArray, List.nil_append, List.cons_append]
  gi_wp2
  have bO := Boxed.new w 47 (.slice none 0 0)
  have hB0 : Below w.heap.size w (w.alloc (.cells #[.slice none 0 0] 47)) := (Below.refl _ w).alloc (Nat.le_refl _) _
  refine wpIn_rangeFunc_ownH hro h1 (gf := 161) (lb := #[.pointer (some ⟨Bm, 0, none⟩)]) rfl h7 (enters_of Tryz.func161 (by kernel_rfl) rfl)
    (valIt_stops F (n - 1) h7 hro (by omega) Bm B ms _ (by simp; omega) ((hB0.cell (p := ⟨Bm, 0, none⟩) hBm).trans hc) (hm.below hB0)) walksK_t walksK_b (Below.refl _ _) (fun _ => rfl)
    (fun pre W => (∃ v, Boxed W w.heap.size 47 v ∧ W.ownsRow w.heap.size 60 3 v pre.length (pre.flatMap defL) ∧ True) ∧ Below w.heap.size w W)
    (fun _ _ _ => False)
    (OwnFrom.and (Own.from (holdsRow_own w.heap.size w.heap.size 47 60 3 (fun pre : List DefD => pre.length) (fun pre => pre.flatMap defL) (fun _ _ => True)) _) (ownFrom_below (Nat.le_refl _) (by simp)))
    (fun _ _ _ _ _ hs _ _ => hs)
    ⟨⟨_, bO, World.ownsRow_nil _ _ _ _, trivial⟩, hB0⟩
    (fun x a' W => ∃ Bx, w.heap.size < Bx ∧ W.heap[Bx]? = some (.cells #[.string x.name, .int .i64 (x.obj : Int), .int .i64 (x.sym : Int)] 60 (0, 0)) ∧ a' = { tmps := #[.slice none 0 0, .func (.func 161) #[] #[.pointer (some ⟨Bm, 0, none⟩)], .pointer (some ⟨w.heap.size, 0, none⟩), undef, .slice none 0 0, .pointer (some ⟨Bx, 0, none⟩), .func (.func 161) #[] #[.pointer (some ⟨Bm, 0, none⟩)], .agg #[.string x.name, .int .i64 (x.obj : Int), .int .i64 (x.sym : Int)], undef, undef, undef, undef, undef], defers := [] })
    (fun x a' _ X Y row hs hg hr => by obtain ⟨Bx, h1, h2, h3⟩ := hs; exact ⟨Bx, h1, block_own Bx _ rfl () X Y row h2 hg (fun r e => (hr r e).2), h3⟩)
    ?assign ?body ?done ?stop
  case assign =>
    rintro l pre x W K ⟨⟨v, bS1, hr1, _⟩, hB1⟩ hK
    gi_wp2
    exact hK _ _ ((KeepsOthers.alloc _ _).from _) (KeepsWalks.alloc _ _) ⟨⟨v, bS1.alloc _, hr1.alloc _, trivial⟩, hB1.alloc hB1.size _⟩ ⟨W.heap.size, bS1.lt, heap_alloc_new W _, rfl⟩
  case body =>
    rintro l pre x a' W hl ⟨r, hr⟩ ⟨⟨v, bS1, hr1, _⟩, hB1⟩ ⟨Bx, hBx, bX, rfl⟩ hlt
    have cS := bS1.cell
    obtain ⟨⟨x0, x1, x2⟩, _⟩ := three_cells _ _ _ _ _ _ bX
    gi_wp2_with (gi_at_builtin; refine wpListIn_append_own _ rfl _ _ 47 rfl w.heap.size 60 i0 (.agg #[.string ⟨#[]⟩, .int .i64 0, .int .i64 0]) 3 32 Tryz.underlying47 hi hz0 hz1 hz2 rfl (by decide) _ _ _ rfl (hr1.alloc _) ⟨W.heap.size, 0, none⟩ 1 1 [.string x.name, .int .i64 (x.obj : Int), .int .i64 (x.sym : Int)] rfl rfl (three_cell_at W _ _ _ _) (defL_one x) (by unfold maxLen; omega) (by omega) (by have := hB1.size; simp; omega) ?_; intro v' w1 hown' hgrow _; obtain ⟨g', cap', rfl⟩ := ownsRow_succ hown'; obtain ⟨hv1, hv2, hr2, hk2, hb2⟩ := bS1.appended (by decide) hr1 hB1.size (Nat.le_refl _) hown' hgrow; have hc1 := hv1.cell; have hf1 := hv1.frozen)
    exact ⟨hk2.from _, hk2.walks, ⟨⟨_, hv2, by rw [List.length_append, List.flatMap_append]; simpa [defL] using hr2, trivial⟩, hB1.trans hb2⟩⟩
  case done =>
    rintro D ys W hD hS ⟨⟨v, hv, hrow, _⟩, hB⟩ hK
    have hcv := hv.cell
    gi_wp2
    refine ⟨by simp, .inl ⟨_, _, rfl, run_takeDeferred hK, ?_⟩⟩
    exact ⟨_, results_tmp rfl _ _ _, v, ys, rfl, ownsRow_putObj hrow _ hK rfl, hS, hB.trans (belowK_b (w := w) (Nat.le_refl _) W D _ _ (by simp at hD; omega) hK rfl rfl)⟩
  case stop =>
    rintro D c pre W _ _ h _
    exact h.elim

/-- What Collect hands back. -/
theorem collect_any (Bm B : Nat) (ms : List DefD) (hlen : ms.length ≤ 10000000) (w : World) (hBm : Bm < w.heap.size)
    (hc : w.cell? ⟨Bm, 0, none⟩ = some (.map (some B))) (hm : SMap w B (mDef ms)) :
    Calls Tryz.prog 159 #[.func (.func 161) #[] #[.pointer (some ⟨Bm, 0, none⟩)]] w fun e W' =>
      ∃ (u : Value) (defs : List DefD), e = .returned u ∧ W'.ownsRow w.heap.size 60 3 u defs.length (defs.flatMap defL) ∧ (defs.map defV).Perm (ms.map defV) ∧ Below w.heap.size w W' := by
  have H := callsIn_wide.1 (appendSeq_in Fence.wide 3 trivial trivial rfl (Nat.le_refl _) Bm B ms hlen w hBm hc hm)
  have HH := Lib.hid H
  clear H hc hm hBm
  go_enter Tryz.func159, Tryz.ntmps159
  go_wp2_with fail
  refine HH.out.mono ?_
  rintro e w1 ⟨u, defs, rfl, h1, h2, h3⟩
  go_wp2_with fail
  go_ret
  exact ⟨u, defs, rfl, h1, h2, h3⟩
end Go.Proofs.YthnkehdcolnegaaGreat
