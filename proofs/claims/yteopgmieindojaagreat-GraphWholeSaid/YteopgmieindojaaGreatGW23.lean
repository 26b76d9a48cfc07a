/-
  Parts of a proof.
-/
import Derived.Test.YteopgmieindojaaGreatGW22
import Derived.Test.YteopgmieindojaaGreatGW02
import Derived.Test.YteopgmieindojaaGreatGW15
import Derived.Deep.AppendLies
import Derived.Test.YteopgmieindojaaGreatGW08
import Derived.Deep.QuietTactic
import Derived.BigQuiet
import Derived.Lib.IfaceEq
namespace Go.Proofs.YteopgmieindojaaGreat
open Go.RowKit
end Go.Proofs.YteopgmieindojaaGreat

namespace Go.Proofs.YteopgmieindojaaGreat
open Go.RowKit
theorem two_filters {α : Type} {p q : α → Bool} (h : ∀ x, p x = true → q x = false) : ∀ l : List α, (l.filter p).length + (l.filter q).length ≤ l.length
 | [] => Nat.le_refl _
 | x :: l => by
  have ih := two_filters h l
  rw [List.filter_cons, List.filter_cons]
  cases hp : p x with
  | true => rw [h x hp]; simp; omega
  | false => cases hq : q x <;> simp <;> omega
theorem putB_len (l : List DefD) (d : DefD) : (putB l d).length ≤ l.length + 1 := by
 unfold putB
 cases l.any (fun e => sEq e.name d.name) with
 | true => exact Nat.le_succ _
 | false =>
  have := two_filters (p := fun e : DefD => sLt e.name d.name) (q := fun e => sLt d.name e.name) (fun x hx => by
   cases hq : sLt d.name x.name with
   | false => rfl
   | true => have := sLt_trans hx hq; rw [sLt_irrefl] at this; cases this) l
  simp only [cond_false, List.length_append, List.length_cons, List.length_nil]
  omega
theorem refStep_len {xs : List Sy} {D : List (List Bool)} {x : Sy} {st st' : List DefD × Bool} (h : refStep xs D x st = some st') : st'.1.length ≤ st.1.length + 1 := by
 unfold refStep at h
 cases h0 : (x.2.2.bind == 0) with
 | true => rw [h0] at h; cases h; exact Nat.le_succ _
 | false =>
  rw [h0] at h
  simp only [cond_false] at h
  cases h1 : decide (1 < (hitsIn xs D x.2.2.name 1).length) with
  | true => rw [h1] at h; cases h
  | false =>
   rw [h1] at h
   simp only [cond_false] at h
   cases h2 : findIn xs D x.2.2.name with
   | none => rw [h2] at h; cases h; exact Nat.le_succ _
   | some d => rw [h2] at h; cases h; exact putB_len _ _
theorem refGo_len {xs : List Sy} {D : List (List Bool)} : ∀ {ys : List Sy} {st st' : List DefD × Bool}, refGo xs D ys st = some st' → st'.1.length ≤ st.1.length + ys.length
 | [], st, st', h => by cases h; exact Nat.le_refl _
 | y :: ys, st, st', h => by
  have h : (match refStep xs D y st with | none => none | some st' => refGo xs D ys st') = some st' := h
  cases hs : refStep xs D y st with
  | none => rw [hs] at h; cases h
  | some s1 =>
   rw [hs] at h
   have h1 := refStep_len hs
   have h2 := refGo_len h
   simp only [List.length_cons]
   omega
def RowsR (w : World) (base : Nat) (vs : List Value) (l : List ObjD) (i : Nat) : Prop := ∀ j o, j < i → l[j]? = some o → ∃ v, vs[j]? = some v ∧ w.ownsRow base 4 1 v o.secs.length ((dropOf l j).map Value.bool)
theorem RowsR.fr {w w' : World} {base N : Nat} {vs : List Value} {l : List ObjD} {i : Nat} {Ts : List TypeId} (h : RowsR w base vs l i) (hf : FrT N Ts w w') (hT : 4 ∉ Ts) : RowsR w' base vs l i := fun j o hj ho => by
 obtain ⟨v, h1, h2⟩ := h j o hj ho
 exact ⟨v, h1, hf.owns h2 hT⟩
theorem RowsR.snoc {w : World} {base : Nat} {vs : List Value} {l : List ObjD} {i : Nat} {o : ObjD} {v : Value} (h : RowsR w base vs l i) (ho : l[i]? = some o) (hi : vs.length = i) (hv : w.ownsRow base 4 1 v o.secs.length ((dropOf l i).map Value.bool)) : RowsR w base (vs ++ [v]) l (i + 1) := fun j o' hj ho' => by
 by_cases hji : j = i
 ·subst hji
  rw [ho] at ho'
  cases ho'
  exact ⟨v, by rw [List.getElem?_append_right (by omega), hi]; simp, hv⟩
 ·obtain ⟨u, h1, h2⟩ := h j o' (by omega) ho'
  exact ⟨u, by rw [List.getElem?_append_left (by omega)]; exact h1, h2⟩
end Go.Proofs.YteopgmieindojaaGreat

namespace Go.Proofs.YteopgmieindojaaGreat
open Go.RowKit
theorem findL_of {m defs : List DefD} (ha : Apart m) (hs : DSorted defs) (he : ∀ d, d ∈ defs ↔ d ∈ m) (name : ByteArray) : findL defs name = m.find? fun e => sEq e.name name := by
 have hap : Apart defs := hs.imp fun {a b} hab he => by rw [he, sLt_irrefl] at hab; cases hab
 cases h1 : findL defs name with
 | some d =>
  have hn := find_name h1
  have hm := (find_mem ha).1 ((he d).1 (List.mem_of_find?_eq_some h1))
  rw [hn] at hm
  exact hm.symm
 | none =>
  cases h2 : m.find? fun e => sEq e.name name with
  | none => rfl
  | some d =>
   have hn := find_name h2
   have hd := (find_mem hap).1 ((he d).2 (List.mem_of_find?_eq_some h2))
   rw [hn] at hd
   have h1 : defs.find? (fun e => sEq e.name name) = none := h1
   rw [h1] at hd
   cases hd
theorem defines_bind {l : List ObjD} (ok : ∀ o ∈ l, OkD o) (y : Sy) (hy : y ∈ allTo ObjD.syms l l.length) (hd : definesB y.2.2 (drAt (dropsOf l) y.1) = true) : y.2.2.bind = 1 ∨ y.2.2.bind = 2 := by
 obtain ⟨_, o, ho, hx⟩ := allTo_mem.1 hy
 have hb := (ok o (List.mem_of_getElem? ho)).bind y.2.2 (List.mem_of_getElem? hx)
 have h0 : y.2.2.bind ≠ 0 := fun h0 => by unfold definesB at hd; rw [h0] at hd; cases hd
 omega
end Go.Proofs.YteopgmieindojaaGreat

namespace Go.Proofs.YteopgmieindojaaGreat
open Go.RowKit
def resB (l : List ObjD) (mb : Bool) : Int × List DefD := bif mb then (match refGo (allTo ObjD.syms l l.length) (dropsOf l) (allTo ObjD.syms l l.length) ([], false) with
 | none => (3, [])
 | some st => bif st.2 then (4, []) else (0, st.1)) else (1, [])
structure TabOk (l : List ObjD) (defs : List DefD) : Prop where
 sorted : DSorted defs
 few : defs.length ≤ 100000
 find : ∀ name, findL defs name = findIn (allTo ObjD.syms l l.length) (dropsOf l) name
theorem own_tab {l : List ObjD} {mb : Bool} {w : World} {n : Int} {v0 v1 : Value} (hlen : l.length ≤ 10) (hok : mb = true → ∀ o ∈ l, OkD o) (h : TabIs l mb w n v0 v1) :
  n = (resB l mb).1 ∧ (n ≠ 0 ∧ v0 = nilV ∧ v1 = nilV ∨ n = 0 ∧ mb = true ∧ TabOk l (resB l mb).2 ∧ IsTab w v0 v1 (dropsOf l) (resB l mb).2) := by
 rcases h with ⟨rfl, rfl, rfl, rfl⟩ | ⟨rfl, h⟩
 ·exact ⟨rfl, .inl ⟨by omega, rfl, rfl⟩⟩
 ·have ok := hok rfl
  unfold resB
  rcases tables_eq (xs := allTo ObjD.syms l l.length) (D := dropsOf l) (bindOf := bindIn l) bindIn_all (defines_bind ok) with ⟨t1, t2⟩ | ⟨m, rd, u, t1, t2, ta, ts, te, tf, tg, tu⟩
  ·rcases h with ⟨_, rfl, rfl, rfl⟩ | ⟨ms, defs, h1, _⟩
   ·rw [t2]; exact ⟨rfl, .inl ⟨by omega, rfl, rfl⟩⟩
   ·rw [t1] at h1; cases h1
  ·rcases h with ⟨h1, _⟩ | ⟨ms, defs, h1, hs, hm, hr⟩
   ·rw [t1] at h1; cases h1
   ·rw [t1] at h1
    cases h1
    obtain rfl : defs = rd := sorted_ext hs ts fun d => (hm d).trans (te d)
    have hf : ∀ name, findL defs name = findIn (allTo ObjD.syms l l.length) (dropsOf l) name := fun name => (findL_of ta hs hm name).trans (tf name)
    have hall : (allTo ObjD.syms l l.length).all (defdB defs) = !u := by
     rw [tu, List.not_any_eq_all_not]
     congr 1
     funext x
     unfold defdB
     rw [hf]
     cases h1 : (x.2.2.bind == 1) <;> cases h2 : findIn (allTo ObjD.syms l l.length) (dropsOf l) x.2.2.name <;> simp [bne, h1]
    rw [hall] at hr
    have hlt := refGo_len t2
    have hl2 := all_len ok l.length
    simp only [List.length_nil] at hlt
    rw [t2]
    rcases hr with ⟨r1, rfl, rfl, rfl⟩ | ⟨r1, rfl, r2⟩
    ·have hu : u = true := by simpa using r1
     subst hu
     exact ⟨rfl, .inl ⟨by omega, rfl, rfl⟩⟩
    ·have hu : u = false := by simpa using r1
     subst hu
     exact ⟨rfl, .inr ⟨rfl, rfl, ⟨hs, by show defs.length ≤ _; omega, hf⟩, r2⟩⟩
theorem defs_bd {l : List ObjD} {defs : List DefD} (hlen : l.length ≤ 10) (ok : ∀ o ∈ l, OkD o) (h : TabOk l defs) : ∀ d ∈ defs, d.obj ≤ 1000000 ∧ d.sym ≤ 1000000 := fun d hd => by
 have hap : Apart defs := h.sorted.imp fun {a b} hab he => by rw [he, sLt_irrefl] at hab; cases hab
 have h1 : findL defs d.name = some d := (find_mem hap).1 hd
 rw [h.find] at h1
 have hh : ∀ b, headD d.name (hitsIn (allTo ObjD.syms l l.length) (dropsOf l) d.name b) = some d → d.obj ≤ 1000000 ∧ d.sym ≤ 1000000 := fun b h => by
  unfold headD at h
  cases hq : (hitsIn (allTo ObjD.syms l l.length) (dropsOf l) d.name b).head? with
  | none => rw [hq] at h; cases h
  | some x =>
   rw [hq] at h
   have hm : x ∈ hitsIn (allTo ObjD.syms l l.length) (dropsOf l) d.name b := List.mem_of_mem_head? hq
   obtain ⟨h1, _⟩ := List.mem_filter.1 hm
   obtain ⟨h2, o, ho, hx⟩ := allTo_mem.1 (show (x.1, x.2.1, x.2.2) ∈ _ from h1)
   have h3 := (ok o (List.mem_of_getElem? ho)).few.2.1
   have h4 := (List.getElem?_eq_some_iff.1 hx).1
   simp only [Option.map_some, Option.some.injEq] at h
   have e1 : x.1 = d.obj := congrArg DefD.obj h
   have e2 : x.2.1 = d.sym := congrArg DefD.sym h
   omega
 unfold findIn at h1
 cases hq : headD d.name (hitsIn (allTo ObjD.syms l l.length) (dropsOf l) d.name 1) with
 | some d' => rw [hq] at h1; cases h1; exact hh 1 hq
 | none => rw [hq] at h1; exact hh 2 h1
end Go.Proofs.YteopgmieindojaaGreat

namespace Go.Proofs.YteopgmieindojaaGreat
open Go.RowKit
end Go.Proofs.YteopgmieindojaaGreat

namespace Go.Proofs.YteopgmieindojaaGreat
open Go.RowKit
end Go.Proofs.YteopgmieindojaaGreat
