/-
  Parts of a proof.
-/
import Derived.Test.YteopgmieindojaaGreatGW20
import Derived.Sort.MapsRangeIn
import Derived.RangeFuncBox
import Derived.RangeFuncBound
import Derived.RangeFuncCalls
import Derived.RangeFuncLeaves
import Derived.RangeFuncMany
import Derived.Shelf.Abstract
import Derived.TacticsInMore
import Derived.LoopNIn
import Derived.LoopIn
import Derived.RangeFuncNested
import Derived.Shelf.RegionOpen
import Derived.WalkKit
import Derived.OwnWalkIn
import Derived.Maps.AppendAt
import Derived.Shelf.SlSortCmp.NoneTotal
import Derived.Shelf.SlGeneric
import Derived.Ground.SlsfProg
import Derived.Test.YteopgmieindojaaGreatChecked
namespace Go.Proofs.YteopgmieindojaaGreat
open Go.RowKit
def mDef (ms : List DefD) : List (ByteArray × Value) := ms.map fun d => (d.name, .agg (defCs d))
theorem beq_sEq (a b : ByteArray) : (a == b) = sEq b a := by
 cases h : sEq b a with
 | true => rw [sEq_iff.1 h, beq_self]
 | false =>
  cases h2 : a == b with
  | false => rfl
  | true =>
   rw [(MapKept.bytes_beq a b).1 h2, sEq_refl] at h
   cases h
theorem mVal_def (name : ByteArray) : ∀ ms : List DefD, mVal name (mDef ms) = (ms.find? fun e => sEq e.name name).map fun d => .agg (defCs d)
 | [] => rfl
 | d :: ms => by
  show (bif name == d.name then some (Value.agg (defCs d)) else mVal name (mDef ms)) = _
  rw [mVal_def name ms, beq_sEq, List.find?_cons]
  cases sEq d.name name <;> rfl
def dPut (ms : List DefD) (d : DefD) : List DefD := match ms.find? (fun e => sEq e.name d.name) with
 | some _ => ms.map fun e => bif sEq e.name d.name then d else e
 | none => ms ++ [d]
theorem mAt_def_none {name : ByteArray} : ∀ {ms : List DefD} {i : Nat}, mAt name (mDef ms) i = none ↔ ms.find? (fun e => sEq e.name name) = none
 | [], _ => by simp [mDef, mAt]
 | d :: ms, i => by
  show (bif name == d.name then some (i, Value.agg (defCs d)) else mAt name (mDef ms) (i + 1)) = none ↔ _
  rw [beq_sEq, List.find?_cons]
  cases sEq d.name name with
  | true => simp
  | false => simpa using mAt_def_none (ms := ms) (i := i + 1)
theorem map_same {d : DefD} : ∀ {ms : List DefD}, (∀ e ∈ ms, e.name ≠ d.name) → (ms.map fun e => bif sEq e.name d.name then d else e) = ms
 | [], _ => rfl
 | e :: ms, h => by
  rw [List.map_cons, map_same fun x hx => h x (List.mem_cons_of_mem _ hx)]
  cases hq : sEq e.name d.name with
  | true => exact absurd (sEq_iff.1 hq) (h e (List.mem_cons_self ..))
  | false => rfl
theorem set_def {d : DefD} : ∀ {ms : List DefD} {i n : Nat} {u : Value}, Apart ms → mAt d.name (mDef ms) i = some (i + n, u) → (mDef ms).set n (d.name, .agg (defCs d)) = mDef (ms.map fun e => bif sEq e.name d.name then d else e)
 | [], _, _, _, _, h => by cases h
 | e :: ms, i, n, u, ha, h => by
  obtain ⟨h1, h2⟩ := List.pairwise_cons.1 ha
  have h : (bif d.name == e.name then some (i, Value.agg (defCs e)) else mAt d.name (mDef ms) (i + 1)) = some (i + n, u) := h
  rw [beq_sEq] at h
  cases hq : sEq e.name d.name with
  | true =>
   rw [hq] at h
   simp only [cond_true, Option.some.injEq, Prod.mk.injEq] at h
   obtain rfl : n = 0 := by omega
   have hn := sEq_iff.1 hq
   rw [List.map_cons, hq, cond_true, map_same fun x hx => fun e' => h1 x hx (hn.trans e'.symm)]
   rfl
  | false =>
   rw [hq] at h
   simp only [cond_false] at h
   obtain ⟨k, hk, _⟩ := mAt_some h
   obtain ⟨n', rfl⟩ : ∃ n', n = n' + 1 := ⟨n - 1, by omega⟩
   have ih := set_def (d := d) (ms := ms) (i := i + 1) (n := n') (u := u) h2 (by rw [h, show i + (n' + 1) = i + 1 + n' by omega])
   rw [List.map_cons, hq, cond_false]
   show (e.name, Value.agg (defCs e)) :: (mDef ms).set n' (d.name, .agg (defCs d)) = (e.name, Value.agg (defCs e)) :: mDef _
   rw [ih]
theorem mPut_def {ms : List DefD} {d : DefD} (ha : Apart ms) : mPut (mDef ms) d.name (.agg (defCs d)) = mDef (dPut ms d) := by
 unfold mPut dPut
 cases hq : mAt d.name (mDef ms) 0 with
 | none =>
  rw [mAt_def_none.1 hq]
  unfold mDef
  rw [List.map_append]
  rfl
 | some x =>
  obtain ⟨n, u⟩ := x
  cases hf : ms.find? (fun e => sEq e.name d.name) with
  | none => rw [mAt_def_none.2 hf] at hq; cases hq
  | some y => exact set_def (i := 0) (n := n) ha (by rw [hq, Nat.zero_add])
theorem ownGo_snoc {D : List (List Bool)} {bindOf : DefD → Int} {x : Sy} : ∀ {ys : List Sy} {m : List DefD}, ownGo D bindOf (ys ++ [x]) m = (ownGo D bindOf ys m).bind (ownStep D bindOf x)
 | [], m => by
  show (match ownStep D bindOf x m with | none => none | some m' => some m') = ownStep D bindOf x m
  cases ownStep D bindOf x m <;> rfl
 | y :: ys, m => by
  show (match ownStep D bindOf y m with | none => none | some m' => ownGo D bindOf (ys ++ [x]) m') = (match ownStep D bindOf y m with | none => none | some m' => ownGo D bindOf ys m').bind (ownStep D bindOf x)
  cases ownStep D bindOf y m with
  | none => rfl
  | some m' => exact ownGo_snoc
theorem ownGo_none {D : List (List Bool)} {bindOf : DefD → Int} {r : List Sy} : ∀ {ys : List Sy} {m : List DefD}, ownGo D bindOf ys m = none → ownGo D bindOf (ys ++ r) m = none
 | [], m, h => by cases h
 | y :: ys, m, h => by
  have h : (match ownStep D bindOf y m with | none => none | some m' => ownGo D bindOf ys m') = none := h
  show (match ownStep D bindOf y m with | none => none | some m' => ownGo D bindOf (ys ++ r) m') = none
  cases hs : ownStep D bindOf y m with
  | none => rfl
  | some m' =>
   rw [hs] at h
   exact ownGo_none h
theorem allTo_pre {α : Type} {f : ObjD → List α} {l : List ObjD} {i : Nat} : ∀ {n : Nat}, i ≤ n → ∃ r, allTo f l n = allTo f l i ++ r
 | 0, h => by
  obtain rfl : i = 0 := Nat.le_zero.1 h
  exact ⟨[], by rw [List.append_nil]⟩
 | n + 1, h => by
  by_cases hi : i = n + 1
  ·subst hi; exact ⟨[], by rw [List.append_nil]⟩
  ·obtain ⟨r, hr⟩ := allTo_pre (f := f) (l := l) (n := n) (show i ≤ n by omega)
   refine ⟨r ++ match l[n]? with | some o => tagged f n o | none => [], ?_⟩
   show allTo f l n ++ _ = _
   rw [hr, List.append_assoc]
   rfl
theorem atTo_pre {α : Type} {f : ObjD → List α} {l : List ObjD} {i k : Nat} {o : ObjD} (ho : l[i]? = some o) : ∃ r, allTo f l l.length = atTo f l i k ++ r := by
 obtain ⟨r, hr⟩ := allTo_pre (f := f) (l := l) (i := i + 1) (n := l.length) (List.getElem?_eq_some_iff.1 ho).1
 refine ⟨(tagged f i o).drop k ++ r, ?_⟩
 have e : allTo f l (i + 1) = allTo f l i ++ tagged f i o := by
  show allTo f l i ++ (match l[i]? with | some o => tagged f i o | none => []) = _
  rw [ho]
 rw [hr, e]
 unfold atTo
 rw [ho]
 simp only
 rw [List.append_assoc, List.append_assoc, ← List.append_assoc ((tagged f i o).take k), List.take_append_drop]
def bindIn (l : List ObjD) (d : DefD) : Int := match symAt2 l d.obj d.sym with | some y => y.bind | none => 0
theorem bindIn_all {l : List ObjD} : ∀ y ∈ allTo ObjD.syms l l.length, bindIn l ⟨y.2.2.name, y.1, y.2.1⟩ = y.2.2.bind := fun y hy => by
 obtain ⟨i, k, x⟩ := y
 obtain ⟨h1, o, h2, h3⟩ := allTo_mem.1 hy
 have : symAt2 l i k = some x := by unfold symAt2; rw [h2]; exact h3
 unfold bindIn
 rw [this]
theorem headD_in {name : ByteArray} {hs : List Sy} {d : DefD} (h : headD name hs = some d) : ∃ x ∈ hs, d = ⟨name, x.1, x.2.1⟩ := by
 cases hs with
 | nil => cases h
 | cons x r => cases h; exact ⟨x, List.mem_cons_self .., rfl⟩
theorem findIn_in {xs : List Sy} {D : List (List Bool)} {name : ByteArray} {d : DefD} (h : findIn xs D name = some d) : ∃ x ∈ xs, d = ⟨name, x.1, x.2.1⟩ := by
 unfold findIn at h
 have hh : ∀ b, headD name (hitsIn xs D name b) = some d → ∃ x ∈ xs, d = ⟨name, x.1, x.2.1⟩ := fun b h => by
  obtain ⟨x, hx, e⟩ := headD_in h
  exact ⟨x, (List.mem_filter.1 hx).1, e⟩
 cases hq : headD name (hitsIn xs D name 1) with
 | none => rw [hq] at h; exact hh 2 h
 | some d' => rw [hq] at h; cases h; exact hh 1 hq
theorem nown_at {l : List ObjD} {D : List (List Bool)} {i k : Nat} {ms : List DefD} (hok : ∀ o ∈ l, OkD o) (h : ownGo D (bindIn l) (atTo ObjD.syms l i k) [] = some ms) : OwnInv D (bindIn l) (atTo ObjD.syms l i k) ms := by
 have hb : ∀ y ∈ atTo ObjD.syms l i k, bindIn l ⟨y.2.2.name, y.1, y.2.1⟩ = y.2.2.bind := fun y hy => by
  obtain ⟨a, b, x⟩ := y
  obtain ⟨_, o, h2, h3⟩ := atTo_mem.1 hy
  have : symAt2 l a b = some x := by unfold symAt2; rw [h2]; exact h3
  unfold bindIn
  rw [this]
 have hx : ∀ y ∈ atTo ObjD.syms l i k, definesB y.2.2 (drAt D y.1) = true → y.2.2.bind = 1 ∨ y.2.2.bind = 2 := fun y hy hd => by
  obtain ⟨a, b, x⟩ := y
  obtain ⟨_, o, h2, h3⟩ := atTo_mem.1 hy
  have h4 := (hok o (List.mem_of_getElem? h2)).bind x (List.mem_of_getElem? h3)
  have h5 : x.bind ≠ 0 := fun h0 => by unfold definesB at hd; rw [h0] at hd; cases hd
  show x.bind = 1 ∨ x.bind = 2
  omega
 have := (ownGo_inv (D := D) (bindOf := bindIn l) (atTo ObjD.syms l i k) [] [] ⟨List.Pairwise.nil, fun name => rfl, fun name => Nat.zero_le _⟩ hb hx).2 ms h
 rwa [List.nil_append] at this
theorem own_sym {l : List ObjD} {D : List (List Bool)} {i k : Nat} {ms : List DefD} {name : ByteArray} {d : DefD} (hi : OwnInv D (bindIn l) (atTo ObjD.syms l i k) ms) (h : ms.find? (fun e => sEq e.name name) = some d) : ∃ ob y, l[d.obj]? = some ob ∧ ob.syms[d.sym]? = some y ∧ bindIn l d = y.bind := by
 rw [hi.2.1 name] at h
 obtain ⟨x, hx, rfl⟩ := findIn_in h
 obtain ⟨a, b, y⟩ := x
 obtain ⟨_, ob, h2, h3⟩ := atTo_mem.1 hx
 refine ⟨ob, y, h2, h3, ?_⟩
 have : symAt2 l a b = some y := by unfold symAt2; rw [h2]; exact h3
 unfold bindIn
 rw [this]
end Go.Proofs.YteopgmieindojaaGreat

namespace Go.Proofs.YteopgmieindojaaGreat
open Go.RowKit
theorem values_any (B : Nat) (w : World) : Calls Tryz.prog 107 #[.map (some B)] w fun e w' => e = .returned (.func (.func 161) #[] #[.pointer (some ⟨w.heap.size, 0, none⟩)]) ∧ w'.heap[w.heap.size]? = some (.cells #[.map (some B)] 200 (0, 0)) ∧ Below w.heap.size w w' := by
 have hg := heap_alloc_new w (.cells #[.map (some B)] 200)
 have hb : Below w.heap.size w (w.alloc (.cells #[.map (some B)] 200)) := (Below.refl _ w).alloc (Nat.le_refl _) _
 go_enter Tryz.func107, Tryz.ntmps107
 go_upto_region 1 with fail
 generalize w.alloc (.cells #[.map (some B)] 200) = w1 at *
 go_wp2_with fail
 go_ret
 exact ⟨rfl, hg, hb⟩
end Go.Proofs.YteopgmieindojaaGreat

namespace Go.Proofs.YteopgmieindojaaGreat
open Go.ChangeMaps Go.RowKit Go.MapKept
def SIter (w : World) (B r : Nat) (m : List (ByteArray × Value)) (left : List MapEntry) : Prop :=
 ∃ es clock since seen c0, w.heap[B]? = some (.map es clock) ∧ es.toList.map (fun e => (e.key, e.val)) = m.map (fun p => (Value.string p.1, p.2)) ∧ (es.toList.map (·.born)).Nodup ∧
  w.heap[r]? = some (.mapIter (some B) since seen c0) ∧ (∀ x ∈ es.toList, x.born < since) ∧ since ≤ c0 ∧ since ≤ clock ∧ left = (leftOf es seen).toList
theorem filter_none {es : List MapEntry} {seen : Array Nat} {b : Nat} (h : b ∉ es.map (·.born)) : es.filter (fun e => !(seen.push b).contains e.born) = es.filter (fun e => !seen.contains e.born) := by
 apply List.filter_congr
 intro x hx
 rw [contains_push]
 have : (x.born == b) = false := by
  cases hc : x.born == b with
  | false => rfl
  | true => exact absurd (List.mem_map.2 ⟨x, hx, beq_iff_eq.1 hc⟩) h
 rw [this, Bool.or_false]
theorem filter_step {e : MapEntry} {seen : Array Nat} (hs : seen.contains e.born = false) : ∀ {es : List MapEntry}, (es.map (·.born)).Nodup → e ∈ es → (es.filter fun x => !seen.contains x.born).Perm (e :: es.filter fun x => !(seen.push e.born).contains x.born)
 | [], _, he => by cases he
 | x :: es, hn, he => by
  have hn' : x.born ∉ es.map (·.born) ∧ (es.map (·.born)).Nodup := List.nodup_cons.1 hn
  by_cases hx : x.born = e.born
  ·have hxe : x = e := by
    rcases List.mem_cons.1 he with h | h
    ·exact h.symm
    ·exact absurd (List.mem_map.2 ⟨e, h, hx.symm⟩) hn'.1
   subst hxe
   rw [List.filter_cons, List.filter_cons, if_pos (by rw [hs]; rfl), if_neg (by rw [contains_push, beq_self_eq_true, Bool.or_true]; decide), filter_none hn'.1]
  ·have he' : e ∈ es := by
    rcases List.mem_cons.1 he with h | h
    ·exact absurd (by rw [h]) hx
    ·exact h
   have ih := filter_step hs hn'.2 he'
   have hb : (x.born == e.born) = false := by simpa using hx
   cases hc : seen.contains x.born with
   | true =>
    rw [List.filter_cons, List.filter_cons, if_neg (by rw [hc]; decide), if_neg (by rw [contains_push, hc, Bool.true_or]; decide)]
    exact ih
   | false =>
    rw [List.filter_cons, List.filter_cons, if_pos (by rw [hc]; rfl), if_pos (by rw [contains_push, hc, hb]; rfl)]
    exact (ih.cons x).trans (List.Perm.swap _ _ _)
section
variable {P : Program} {w : World} {B r : Nat} {m : List (ByteArray × Value)} {left : List MapEntry}
theorem SIter.walks {w' : World} (h : SIter w B r m left) (hk : KeepsWalks w w') : SIter w' B r m left := by
 obtain ⟨es, clock, since, seen, c0, h1, h2, h3, h4, h5⟩ := h
 exact ⟨es, clock, since, seen, c0, hk.same _ _ h1 rfl, h2, h3, hk.same _ _ h4 rfl, h5⟩
theorem SIter.left_eq (h : SIter w B r m left) : w.rangeLeft B r = left.length := by
 obtain ⟨es, clock, since, seen, c0, h1, h2, h3, h4, _, _, _, rfl⟩ := h
 simp only [World.rangeLeft, h1, h4, Array.length_toList]
theorem SIter.iter_walk (h : SIter w B r m left) : ∃ o : Obj, w.heap[r]? = some o ∧ o.isWalk = true := by
 obtain ⟨es, clock, since, seen, c0, h1, h2, h3, h4, _⟩ := h
 exact ⟨_, h4, rfl⟩
theorem SIter.mem (h : SIter w B r m left) {e : MapEntry} (he : e ∈ left) : ∃ p ∈ m, e.key = .string p.1 ∧ e.val = p.2 := by
 obtain ⟨es, clock, since, seen, c0, h1, h2, h3, h4, _, _, _, rfl⟩ := h
 have hm : (e.key, e.val) ∈ es.toList.map (fun e => (e.key, e.val)) := List.mem_map.2 ⟨e, (mem_left he).1, rfl⟩
 rw [h2] at hm
 obtain ⟨p, hp, e1⟩ := List.mem_map.1 hm
 exact ⟨p, hp, (Prod.mk.inj e1).1.symm, (Prod.mk.inj e1).2.symm⟩
theorem SMap.range {t k e : TypeId} (h : SMap w B m) (ht : P.underlying t = some (.map k e)) :
  ∃ w' left, (Instr.range t (.map (some B))).run P w = .ok (.pointer (some ⟨w.heap.size, 0, none⟩)) w' ∧ SIter w' B w.heap.size m left ∧ left.map (·.val) = m.map (·.2) ∧ w.grownBy w' none ∧ w'.heap.size = w.heap.size + 1 := by
 have hlt := h.lt
 obtain ⟨es, clock, hb, h2, h3, h4⟩ := h
 refine ⟨_, es.toList, run_range_map w t k e B es clock ht hb, ⟨es, clock, clock, #[], clock, ((MapKept.heap_alloc w _).2 B hlt).trans hb, h2, h3, (MapKept.heap_alloc w _).1, h4, Nat.le_refl _, Nat.le_refl _, ?_⟩, ?_, World.grownBy_alloc w _ none, by simp⟩
 ·simp [leftOf]
  exact (List.filter_eq_self.2 fun _ _ => rfl).symm
 ·have := congrArg (List.map Prod.snd) h2
  simpa [Function.comp_def] using this
theorem SIter.next (h : SIter w B r m left) (ty : TypeId) :
  (left = [] ∧ (Instr.next (.pointer (some ⟨r, 0, none⟩)) false ty).run P w = .ok (.tuple #[.bool false]) w) ∨
  ∃ e left' w', e ∈ left ∧ left.Perm (e :: left') ∧ (Instr.next (.pointer (some ⟨r, 0, none⟩)) false ty).run P w = .ok (.tuple #[.bool true, e.key, e.val]) w' ∧
   SIter w' B r m left' ∧ w.grownBy w' (some r) ∧ w'.heap.size = w.heap.size ∧ (Instr.entry (.pointer (some ⟨r, 0, none⟩))).run P w' = .ok (.tuple #[e.key, e.val]) w' := by
 obtain ⟨es, clock, since, seen, c0, hb, h2, h3, hr, hold, hsc, hsk, rfl⟩ := h
 have hne : r ≠ B := fun e => by rw [e, hb] at hr; cases hr
 rcases run_next_at (P := P) w ty r B since c0 seen es clock hr hb hold hsc with ⟨h0, hrun⟩ | ⟨e, he, w1, hal, hrun⟩
 ·exact .inl ⟨List.length_eq_zero_iff.1 (by rw [Array.length_toList]; exact h0), hrun⟩
 ·obtain ⟨hem, hes⟩ := mem_left he
  have hr1 : w1.heap[r]? = some (.mapIter (some B) since seen c0) := by rcases hal with rfl | rfl <;> exact hr
  have hb1 : w1.heap[B]? = some (.map es clock) := by rcases hal with rfl | rfl <;> exact hb
  have hset := heap_set (o' := .mapIter (some B) since (seen.push e.born) clock) hr1
  have hb' : (setBlock w1 r (.mapIter (some B) since (seen.push e.born) clock)).heap[B]? = some (.map es clock) := (hset.2 B (fun e1 => hne e1.symm)).trans hb1
  refine .inr ⟨e, (leftOf es (seen.push e.born)).toList, _, he, ?_, hrun, ⟨es, clock, since, seen.push e.born, clock, hb', h2, h3, hset.1, hold, hsk, hsk, rfl⟩, ?_, ?_, run_entry_at _ r B since seen es clock e hset.1 hb' hem h3⟩
  ·unfold leftOf
   rw [Array.toList_filter, Array.toList_filter]
   exact filter_step hes h3 hem
  ·rcases hal with rfl | rfl <;> exact ⟨rfl, rfl, rfl, by simp [setBlock], fun i _ hi => hset.2 i (fun e1 => hi (by rw [e1]))⟩
  ·rcases hal with rfl | rfl <;> simp [setBlock]
end
section
variable {F : Fence} {n : Nat} {P : Program} (w : World) {ops : Array Oper} {rest : List Oper} {o : Oper} {a : Act} {Q : Exit → Act → World → Prop}
theorem wpListIn_range_str (hg : o.guard = none) (mo : Operand) (t : TypeId) (hop : o.op = Op.range t mo) (k e : TypeId) (ht : P.underlying t = some (.map k e)) (B : Nat) (m : List (ByteArray × Value))
  (hm : a.eval mo = .map (some B)) (hown : SMap w B m)
  (hK : ∀ w' left, SIter w' B w.heap.size m left → left.map (·.val) = m.map (·.2) → w.grownBy w' none → w'.heap.size = w.heap.size + 1 → wpListIn F n P ops Q rest (a.put o.dst (.pointer (some ⟨w.heap.size, 0, none⟩))) w') :
  wpListIn F n P ops Q (o :: rest) a w := by
 refine wpListIn_plain hg fun K' hK' => ?_
 obtain ⟨w', left, hrun, r1, r2, r3, r4⟩ := hown.range ht
 unfold Oper.wpIn
 refine ⟨by simp [Oper.about, hop], ?_⟩
 rw [Oper.semAt_plain F _ _ (by rw [hop]; intro c hc'; cases hc')]
 simp [execOp, hop, hm, hrun, Result.andThen]
 exact hK' _ _ (hK w' left r1 r2 r3 r4)
theorem wpListIn_next_str (hg : o.guard = none) (it : Operand) (hop : o.op = Op.next it false) (B r : Nat) (m : List (ByteArray × Value)) (left : List MapEntry)
  (hit : a.eval it = .pointer (some ⟨r, 0, none⟩)) (h : SIter w B r m left)
  (hDone : left = [] → wpListIn F n P ops Q rest (a.put o.dst (.tuple #[.bool false])) w)
  (hMore : ∀ (s : ByteArray) (v : Value) (e : MapEntry) (w' : World) (left' : List MapEntry), e ∈ left → e.val = v → (s, v) ∈ m → left.Perm (e :: left') → SIter w' B r m left' →
   w.grownBy w' (some r) → w'.heap.size = w.heap.size → (Instr.entry (.pointer (some ⟨r, 0, none⟩))).run P w' = .ok (.tuple #[.string s, v]) w' → wpListIn F n P ops Q rest (a.put o.dst (.tuple #[.bool true, .string s, v])) w') :
  wpListIn F n P ops Q (o :: rest) a w := by
 refine wpListIn_plain hg fun K' hK' => ?_
 unfold Oper.wpIn
 refine ⟨by simp [Oper.about, hop], ?_⟩
 rw [Oper.semAt_plain F _ _ (by rw [hop]; intro c hc'; cases hc')]
 rcases h.next (P := P) o.type with ⟨h0, hrun⟩ | ⟨e, left', w', he, hp, hrun, hrg, hgr, hsz, hen⟩
 ·simp [execOp, hop, hit, hrun, Result.andThen]
  exact hK' _ _ (hDone h0)
 ·obtain ⟨p, hpm, e1, e2⟩ := h.mem he
  rw [e1, e2] at hrun hen
  simp [execOp, hop, hit, hrun, Result.andThen]
  exact hK' _ _ (hMore p.1 p.2 e w' left' he e2 hpm hp hrg hgr hsz hen)
end
end Go.Proofs.YteopgmieindojaaGreat

namespace Go.Proofs.YteopgmieindojaaGreat
open Go.RowKit Go.Shelf
attribute [local go_sem] Oper.semAt_some
abbrev defV (d : DefD) : Value := .agg (defCs d)
set_option maxRecDepth 100000 in
set_option maxHeartbeats 2000000 in
theorem valIt_in (F : Fence) (n : Nat) (h8 : F.fn 161) (hro : F.round = none) (hn : 1 ≤ n) (l Bm B : Nat) (ms : List DefD) (J Jx : List DefD → World → Prop)
  (hY : ∀ pre x W, J pre W → pre.length < ms.length → YieldAt F (n - 1) Tryz.prog l #[.agg (defCs x)] W fun e W' =>
   (e = .returned (.bool true) ∧ J (pre ++ [x]) W' ∧ KeepsWalks W W') ∨ (e = .returned (.bool false) ∧ Jx (pre ++ [x]) W'))
  (W : World) (hJ : AbidesFrom W.heap.size J) (hm : W.cell? ⟨Bm, 0, none⟩ = some (.map (some B))) (hown : SMap W B (mDef ms)) (h0 : J [] W) :
  CallsIn F n Tryz.prog 161 #[.func (.yield l) #[] #[], .pointer (some ⟨Bm, 0, none⟩)] W fun e W' => (∃ v, e = .returned v) ∧
   ((∃ xs : List DefD, (xs.map defV).Perm (ms.map defV) ∧ J xs W') ∨ (∃ pre, True ∧ Jx pre W')) := by
 refine callsIn_of_wp Tryz.func161 rfl h8 ?_ hro
 simp only [Tryz.ntmps161, List.size_toArray, List.length_cons, List.length_nil, Nat.reduceAdd, Nat.reduceSub, Array.replicate_succ, Array.replicate_zero, List.push_toArray, List.append_toArray, List.nil_append, List.cons_append]
 gi_wp2_with (first
  | (gi_at_range; refine wpListIn_range_str _ rfl _ 200 rfl 9 60 Tryz.underlying200 B (mDef ms) rfl hown ?_; intro w0 left0 hrg0 hlv0 hg0 hs0)
  | gi_in)
 go_frame
 gi_loopw [4] (fun _ wr => ∃ (left : List MapEntry) (pre : List DefD), SIter wr B W.heap.size (mDef ms) left ∧ (pre.map defV ++ left.map (·.val)).Perm (ms.map defV) ∧ J pre wr)
  (fun _ wr => wr.rangeLeft B W.heap.size)
 case atStart =>
  exact ⟨left0, [], hrg0, by rw [hlv0]; simp [mDef, Function.comp_def], hJ [] W w0 none h0 hg0 (fun r e => by cases e)⟩
 case round =>
  obtain ⟨left, pre, hrg, hperm, hJs⟩ := hrel
  gi_wp2_with (first
   | (gi_at_next; refine wpListIn_next_str _ rfl _ rfl B W.heap.size (mDef ms) left rfl hrg ?_ ?_)
   | gi_in)
  ·intro hl0
   subst hl0
   gi_wp2
   go_end0
   exact ⟨⟨_, rfl⟩, .inl ⟨pre, by simpa using hperm, hJs⟩⟩
  ·intro s v e w2 left' he hev hmem hp hrg2 hg2 hs2 hen
   obtain ⟨d, hd, hde⟩ := List.mem_map.1 hmem
   obtain ⟨rfl, rfl⟩ := Prod.mk.inj hde
   have hlen : pre.length + left.length = ms.length := by have := hperm.length_eq; simpa using this
   have hlp : left.length = left'.length + 1 := by have := hp.length_eq; simpa using this
   have hJ2 : J pre w2 := hJ pre wr w2 (some W.heap.size) hJs hg2 (fun r e => by cases e; exact ⟨Nat.le_refl _, hrg.iter_walk⟩)
   have hJ3 : J pre (w2.alloc (.cells #[.string d.name, .int .i64 (d.obj : Int), .int .i64 (d.sym : Int)] 60)) := hJ pre w2 _ none hJ2 (World.grownBy_alloc w2 _ none) (fun r e => by cases e)
   have hrg3 : SIter (w2.alloc (.cells #[.string d.name, .int .i64 (d.obj : Int), .int .i64 (d.sym : Int)] 60)) B W.heap.size (mDef ms) left' := hrg2.walks (KeepsWalks.alloc _ _)
   have hperm2 : ((pre ++ [d]).map defV ++ left'.map (·.val)).Perm (ms.map defV) := by
    refine List.Perm.trans ?_ hperm
    have h1 := (hp.map (·.val)).symm
    rw [List.map_cons, hev] at h1
    rw [List.map_append, List.append_assoc]
    exact List.Perm.append_left _ h1
   obtain ⟨fn, tmps, assign, body, hy, hR⟩ := hY pre d _ hJ3 (by omega)
   clear hs2 hg2 hJ2 hrg2 hde hmem he
   gi_wp2
   refine hR.mono ?_
   rintro e W3 (⟨rfl, hJ4, hk4⟩ | ⟨rfl, hJx4⟩)
   ·gi_wp2
    have hrg4 := hrg3.walks hk4
    go_roundw
    case rel => exact ⟨left', pre ++ [d], hrg4, hperm2, hJ4⟩
    case measure => rw [hrg4.left_eq, hrg.left_eq]; omega
   ·gi_wp2
    refine bodyPost_ret (results_none rfl _ _ _) rfl ?_
    exact ⟨⟨_, rfl⟩, .inr ⟨pre ++ [d], trivial, hJx4⟩⟩
theorem valIt_stops (F : Fence) (n : Nat) (h7 : F.fn 161) (hro : F.round = none) (hn : 1 ≤ n) (Bm B : Nat) (ms : List DefD) (w : World) (hBm : Bm < w.heap.size)
  (hc : w.cell? ⟨Bm, 0, none⟩ = some (.map (some B))) (hm : SMap w B (mDef ms)) :
  SeqStopsK F n Tryz.prog 161 #[.pointer (some ⟨Bm, 0, none⟩)] (fun d : DefD => #[.agg (defCs d)]) KeepsWalks (fun xs => (xs.map defV).Perm (ms.map defV)) (fun _ => True) ms.length w := fun l J Jx W hW hJ _ hY h0 =>
 valIt_in F n h7 hro hn l Bm B ms J Jx hY W hJ ((hW.cell (p := ⟨Bm, 0, none⟩) hBm).trans hc) (hm.below hW) h0
end Go.Proofs.YteopgmieindojaaGreat

namespace Go.Proofs.YteopgmieindojaaGreat
open Go.RowKit Go.Shelf
attribute [local go_sem] Oper.semAt_some
def defL (d : DefD) : List Value := [.string d.name, .int .i64 (d.obj : Int), .int .i64 (d.sym : Int)]
theorem defL_length (d : DefD) : (defL d).length = 3 := rfl
theorem Tryz.infoDef : (Tryz.prog.info? 60).map (fun i => (i.zero, i.size, i.bytes)) = some (some (.agg #[.string ⟨#[]⟩, .int .i64 0, .int .i64 0]), 3, 32) := by kernel_rfl
theorem three_cell_at (w : World) (a b c : Value) (T : TypeId) : ∀ j u, [a, b, c][j]? = some u → (w.alloc (.cells #[a, b, c] T)).cell? ((⟨w.heap.size, 0, none⟩ : Addr).add j) = some u := fun j u h => by
 have ha : (⟨w.heap.size, 0, none⟩ : Addr).add j = ⟨w.heap.size, j, none⟩ := by unfold Addr.add; split <;> simp_all
 rw [ha, cell_of_row _ w.heap.size j #[a, b, c] T (0, 0) (heap_alloc_new w _)]
 simpa using h
theorem defL_one (d : DefD) : ∀ u ∈ [Value.string d.name, .int .i64 (d.obj : Int), .int .i64 (d.sym : Int)], u.oneCell' = true := fun u hu => by
 simp only [List.mem_cons, List.not_mem_nil, or_false] at hu
 rcases hu with rfl | rfl | rfl <;> rfl
theorem block_own {β : Type} (B : Nat) (o : Obj) (ho : o.isCells = true) : Own (fun (_ : β) W => W.heap[B]? = some o) := fun s X Y row hs hg hrow => by
 refine (hg.block B (Array.getElem?_eq_some_iff.1 hs).1 fun e' => ?_).trans hs
 obtain ⟨o', h1, hc⟩ := hrow B e'.symm
 rw [show X.heap[B]? = _ from hs] at h1
 cases h1
 rw [ho] at hc
 cases hc
set_option maxRecDepth 100000 in
set_option maxHeartbeats 4000000 in
theorem appendSeq_in (F : Fence) (n : Nat) (h3 : F.fn 193) (h7 : F.fn 161) (hro : F.round = none) (hn : 3 ≤ n) (Bm B : Nat) (ms : List DefD) (hlen : ms.length ≤ 10000000) (w : World) (hBm : Bm < w.heap.size)
  (hc : w.cell? ⟨Bm, 0, none⟩ = some (.map (some B))) (hm : SMap w B (mDef ms)) :
  CallsIn F n Tryz.prog 193 #[.slice none 0 0, .func (.func 161) #[] #[.pointer (some ⟨Bm, 0, none⟩)]] w fun e W' =>
   ∃ (u : Value) (defs : List DefD), e = .returned u ∧ W'.ownsRow w.heap.size 60 3 u defs.length (defs.flatMap defL) ∧ (defs.map defV).Perm (ms.map defV) ∧ Below w.heap.size w W' := by
 have h1 : 1 ≤ n := by omega
 obtain ⟨i0, hi, hz0, hz1, hz2⟩ := info_parts Tryz.infoDef
 refine callsIn_of_wp_marks Tryz.func193 rfl h3 ?_ hro
 simp only [Tryz.ntmps193, List.size_toArray, List.length_cons, List.length_nil, Nat.reduceAdd, Nat.reduceSub, Array.replicate_succ, Array.replicate_zero, List.push_toArray, List.append_toArray, List.nil_append, List.cons_append]
 gi_wp2
 have bO := Boxed.new w 47 (.slice none 0 0)
 have hB0 : Below w.heap.size w (w.alloc (.cells #[.slice none 0 0] 47)) := (Below.refl _ w).alloc (Nat.le_refl _) _
 refine wpIn_rangeFunc_ownH hro h1 (gf := 161) (lb := #[.pointer (some ⟨Bm, 0, none⟩)]) rfl h7 (enters_of Tryz.func161 (by kernel_rfl) rfl)
  (valIt_stops F (n - 1) h7 hro (by omega) Bm B ms _ (by simp; omega) ((hB0.cell (p := ⟨Bm, 0, none⟩) hBm).trans hc) (hm.below hB0)) walksK_t walksK_b (Below.refl _ _) (fun _ => rfl)
  (fun pre W => (∃ v, Boxed W w.heap.size 47 v ∧ W.ownsRow w.heap.size 60 3 v pre.length (pre.flatMap defL) ∧ True) ∧ Below w.heap.size w W)
  (fun _ _ _ => False)
  (OwnFrom.and (Own.from (holdsRow_own w.heap.size w.heap.size 47 60 3 (fun pre : List DefD => pre.length) (fun pre => pre.flatMap defL) (fun _ _ => True)) _) (ownFrom_below (Nat.le_refl _) (by simp)))
  (fun _ _ _ _ _ hs _ _ => hs)
  ⟨⟨_, bO, World.ownsRow_nil _ _ _ _, trivial⟩, hB0⟩
  (fun x a' W => ∃ Bx, w.heap.size < Bx ∧ W.heap[Bx]? = some (.cells #[.string x.name, .int .i64 (x.obj : Int), .int .i64 (x.sym : Int)] 60 (0, 0)) ∧ a' = { tmps := #[.slice none 0 0, .func (.func 161) #[] #[.pointer (some ⟨Bm, 0, none⟩)], .pointer (some ⟨w.heap.size, 0, none⟩), undef, .slice none 0 0, .pointer (some ⟨Bx, 0, none⟩), .func (.func 161) #[] #[.pointer (some ⟨Bm, 0, none⟩)], .agg #[.string x.name, .int .i64 (x.obj : Int), .int .i64 (x.sym : Int)], undef, undef, undef, undef, undef], defers := [] })
  (fun x a' _ X Y row hs hg hr => by obtain ⟨Bx, h1, h2, h3⟩ := hs; exact ⟨Bx, h1, block_own Bx _ rfl () X Y row h2 hg (fun r e => (hr r e).2), h3⟩)
  ?assign ?body ?done ?stop
 case assign =>
  rintro l pre x W K ⟨⟨v, bS1, hr1, _⟩, hB1⟩ hK
  gi_wp2
  exact hK _ _ ((KeepsOthers.alloc _ _).from _) (KeepsWalks.alloc _ _) ⟨⟨v, bS1.alloc _, hr1.alloc _, trivial⟩, hB1.alloc hB1.size _⟩ ⟨W.heap.size, bS1.lt, heap_alloc_new W _, rfl⟩
 case body =>
  rintro l pre x a' W hl ⟨r, hr⟩ ⟨⟨v, bS1, hr1, _⟩, hB1⟩ ⟨Bx, hBx, bX, rfl⟩ hlt
  have cS := bS1.cell
  obtain ⟨⟨x0, x1, x2⟩, _⟩ := three_cells _ _ _ _ _ _ bX
  gi_wp2_with (gi_at_builtin; refine wpListIn_append_own _ rfl _ _ 47 rfl w.heap.size 60 i0 (.agg #[.string ⟨#[]⟩, .int .i64 0, .int .i64 0]) 3 32 Tryz.underlying47 hi hz0 hz1 hz2 rfl (by decide) _ _ _ rfl (hr1.alloc _) ⟨W.heap.size, 0, none⟩ 1 1 [.string x.name, .int .i64 (x.obj : Int), .int .i64 (x.sym : Int)] rfl rfl (three_cell_at W _ _ _ _) (defL_one x) (by unfold maxLen; omega) (by omega) (by have := hB1.size; simp; omega) ?_; intro v' w1 hown' hgrow _; obtain ⟨g', cap', rfl⟩ := ownsRow_succ hown'; obtain ⟨hv1, hv2, hr2, hk2, hb2⟩ := bS1.appended (by decide) hr1 hB1.size (Nat.le_refl _) hown' hgrow; have hc1 := hv1.cell; have hf1 := hv1.frozen)
  exact ⟨hk2.from _, hk2.walks, ⟨⟨_, hv2, by rw [List.length_append, List.flatMap_append]; simpa [defL] using hr2, trivial⟩, hB1.trans hb2⟩⟩
 case done =>
  rintro D ys W hD hS ⟨⟨v, hv, hrow, _⟩, hB⟩ hK
  have hcv := hv.cell
  gi_wp2
  refine ⟨by simp, .inl ⟨_, _, rfl, run_takeDeferred hK, ?_⟩⟩
  exact ⟨_, results_tmp rfl _ _ _, v, ys, rfl, ownsRow_putObj hrow _ hK rfl, hS, hB.trans (belowK_b (w := w) (Nat.le_refl _) W D _ _ (by simp at hD; omega) hK rfl rfl)⟩
 case stop =>
  rintro D c pre W _ _ h _
  exact h.elim
theorem collect_any (Bm B : Nat) (ms : List DefD) (hlen : ms.length ≤ 10000000) (w : World) (hBm : Bm < w.heap.size)
  (hc : w.cell? ⟨Bm, 0, none⟩ = some (.map (some B))) (hm : SMap w B (mDef ms)) :
  Calls Tryz.prog 159 #[.func (.func 161) #[] #[.pointer (some ⟨Bm, 0, none⟩)]] w fun e W' =>
   ∃ (u : Value) (defs : List DefD), e = .returned u ∧ W'.ownsRow w.heap.size 60 3 u defs.length (defs.flatMap defL) ∧ (defs.map defV).Perm (ms.map defV) ∧ Below w.heap.size w W' := by
 have H := callsIn_wide.1 (appendSeq_in Fence.wide 3 trivial trivial rfl (Nat.le_refl _) Bm B ms hlen w hBm hc hm)
 have HH := Lib.hid H
 clear H hc hm hBm
 go_enter Tryz.func159, Tryz.ntmps159
 go_wp2_with fail
 refine HH.out.mono ?_
 rintro e w1 ⟨u, defs, rfl, h1, h2, h3⟩
 go_wp2_with fail
 go_ret
 exact ⟨u, defs, rfl, h1, h2, h3⟩
end Go.Proofs.YteopgmieindojaaGreat

namespace Go.Proofs
open Go.Shelf
def Tryz.sortDef_ren : Go.Shelf.Ren := ⟨fun | 6 => 160 | 15 => 195 | 14 => 194 | 28 => 219 | 29 => 220 | 20 => 211 | 21 => 212 | 22 => 213 | 23 => 214 | 24 => 215 | 25 => 216 | 26 => 217 | 27 => 218 | 46 => 224 | 47 => 225 | 48 => 226 | 49 => 227 | 50 => 228 | 57 => 230 | n => n, fun | 22 => 47 | 24 => 60 | 25 => 206 | 3 => 3 | 39 => 207 | 0 => 0 | 53 => 312 | 55 => 171 | 4 => 4 | 46 => 306 | 45 => 305 | 50 => 144 | 5 => 5 | 9 => 9 | 66 => 314 | 70 => 269 | 76 => 319 | 77 => 162 | n => n, fun | n => n⟩
theorem Tryz.sortDef : Go.Proofs.SlLaysF0.n6 Tryz.prog Tryz.sortDef_ren := {
 mixed := by kernel_rfl
 f6 := ⟨Tryz.f160.name, by decide, Tryz.func160.trans (congrArg some (by kernel_rfl))⟩
 f14 := ⟨Tryz.f194.name, by decide, Tryz.func194.trans (congrArg some (by kernel_rfl))⟩
 f15 := Tryz.func195.trans (congrArg some (by kernel_rfl))
 f20 := ⟨Tryz.f211.name, by decide, Tryz.func211.trans (congrArg some (by kernel_rfl))⟩
 f21 := ⟨Tryz.f212.name, by decide, Tryz.func212.trans (congrArg some (by kernel_rfl))⟩
 f22 := ⟨Tryz.f213.name, by decide, Tryz.func213.trans (congrArg some (by kernel_rfl))⟩
 f23 := ⟨Tryz.f214.name, by decide, Tryz.func214.trans (congrArg some (by kernel_rfl))⟩
 f24 := ⟨Tryz.f215.name, by decide, Tryz.func215.trans (congrArg some (by kernel_rfl))⟩
 f25 := ⟨Tryz.f216.name, by decide, Tryz.func216.trans (congrArg some (by kernel_rfl))⟩
 f26 := ⟨Tryz.f217.name, by decide, Tryz.func217.trans (congrArg some (by kernel_rfl))⟩
 f27 := ⟨Tryz.f218.name, by decide, Tryz.func218.trans (congrArg some (by kernel_rfl))⟩
 f28 := Tryz.func219.trans (congrArg some (by kernel_rfl))
 f29 := Tryz.func220.trans (congrArg some (by kernel_rfl))
 f46 := ⟨Tryz.f224.name, by decide, Tryz.func224.trans (congrArg some (by kernel_rfl))⟩
 f47 := Tryz.func225.trans (congrArg some (by kernel_rfl))
 f48 := Tryz.func226.trans (congrArg some (by kernel_rfl))
 f49 := ⟨Tryz.f227.name, by decide, Tryz.func227.trans (congrArg some (by kernel_rfl))⟩
 f50 := ⟨Tryz.f228.name, by decide, Tryz.func228.trans (congrArg some (by kernel_rfl))⟩
 f57 := ⟨Tryz.f230.name, by decide, Tryz.func230.trans (congrArg some (by kernel_rfl))⟩
 t0 := Tryz.underlying0
 a0 := Tryz.isAgg0
 z0 := Tryz.sizeOf0
 v0 := Tryz.zeroValue0
 t3 := Tryz.underlying3
 a3 := Tryz.isAgg3
 z3 := Tryz.sizeOf3
 v3 := Tryz.zeroValue3
 t4 := Tryz.underlying4
 a4 := Tryz.isAgg4
 z4 := Tryz.sizeOf4
 v4 := Tryz.zeroValue4
 t5 := Tryz.underlying5
 a5 := Tryz.isAgg5
 z5 := Tryz.sizeOf5
 v5 := Tryz.zeroValue5
 t9 := Tryz.underlying9
 a9 := Tryz.isAgg9
 z9 := Tryz.sizeOf9
 v9 := Tryz.zeroValue9
 t22 := Tryz.underlying47
 a22 := Tryz.isAgg47
 z22 := Tryz.sizeOf47
 v22 := Tryz.zeroValue47
 t25 := Tryz.underlying206
 a25 := Tryz.isAgg206
 z25 := Tryz.sizeOf206
 v25 := Tryz.zeroValue206
 t39 := Tryz.underlying207
 a39 := Tryz.isAgg207
 z39 := Tryz.sizeOf207
 v39 := Tryz.zeroValue207
 t45 := Tryz.underlying305
 a45 := Tryz.isAgg305
 z45 := Tryz.sizeOf305
 v45 := Tryz.zeroValue305
 t46 := Tryz.underlying306
 a46 := Tryz.isAgg306
 z46 := Tryz.sizeOf306
 v46 := Tryz.zeroValue306
 t50 := Tryz.underlying144
 a50 := Tryz.isAgg144
 z50 := Tryz.sizeOf144
 v50 := Tryz.zeroValue144
 t53 := Tryz.underlying312
 a53 := Tryz.isAgg312
 z53 := Tryz.sizeOf312
 v53 := Tryz.zeroValue312
 t55 := Tryz.underlying171
 a55 := Tryz.isAgg171
 z55 := Tryz.sizeOf171
 v55 := Tryz.zeroValue171
 t66 := Tryz.underlying314
 a66 := Tryz.isAgg314
 z66 := Tryz.sizeOf314
 v66 := Tryz.zeroValue314
 t70 := Tryz.underlying269
 a70 := Tryz.isAgg269
 z70 := Tryz.sizeOf269
 v70 := Tryz.zeroValue269
 t76 := Tryz.underlying319
 a76 := Tryz.isAgg319
 z76 := Tryz.sizeOf319
 v76 := Tryz.zeroValue319
 t77 := Tryz.underlying162
 a77 := Tryz.isAgg162
 z77 := Tryz.sizeOf162
 v77 := Tryz.zeroValue162 }
end Go.Proofs

namespace Go.Proofs.YteopgmieindojaaGreat
open Go.RowKit
theorem Tryz.infoBoolD : (Tryz.prog.info? 4).map (fun i => (i.zero, i.size, i.bytes)) = some (some (.bool false), 1, 1) := by kernel_rfl
theorem Tryz.infoBools : (Tryz.prog.info? 138).map (fun i => (i.zero, i.size, i.bytes)) = some (some (.slice none 0 0), 1, 24) := by kernel_rfl
theorem zeroBool (w : World) : (zeroValue 4).run Tryz.prog w = .ok (.bool false) w := by kernel_rfl
theorem take_snocN {α : Type} {l : List α} {k : Nat} {x : α} (h : l[k]? = some x) : l.take (k + 1) = l.take k ++ [x] := by
 rw [List.take_succ_eq_append_getElem (List.getElem?_eq_some_iff.1 h).1, (List.getElem?_eq_some_iff.1 h).2]
set_option maxRecDepth 100000 in
set_option maxHeartbeats 8000000 in
theorem dropSecs_any (p : Option Addr) (c : Nat) (l : List ObjD) (w : World) (h : HasL 5 EObj w p l) (hok : ∀ o ∈ l, OkD o) (hlc : l.length ≤ 1000) :
  Calls Tryz.prog 53 #[.slice p l.length c] w fun e w' => ∃ v, e = .returned v ∧ (∀ W, Fr2 w.heap.size w' W → IsL 1 EBools W v (dropsOf l)) ∧ Below w.heap.size w w' := by
 obtain ⟨i0, gi, gz0, gz1, gz2⟩ := info_parts Tryz.infoBoolD
 obtain ⟨i1, ki, kz0, kz1, kz2⟩ := info_parts Tryz.infoBools
 have GI := Lib.hid gi
 have G0 := Lib.hid gz0
 have G1 := Lib.hid gz1
 have G2 := Lib.hid gz2
 have KI := Lib.hid ki
 have K0 := Lib.hid kz0
 have K1 := Lib.hid kz1
 have K2 := Lib.hid kz2
 have hmm := @run_makeMap Tryz.prog
 have HH := Lib.hid fun W (hW : Below w.heap.size w W) => h.below EObj.keeps hW
 have HOK := Lib.hid hok
 have HEND := Lib.hid fun (W : World) (base : Nat) (vs : List Value) h1 h2 => isL_drops (w := W) (gb := w.heap.size) (base := base) (vs := vs) hok h1 h2 hlc
 generalize hln : l.length = ln at *
 have HLN := Lib.hid hln
 generalize hdd : dropsOf l = DD at *
 clear gi gz0 gz1 gz2 ki kz0 kz1 kz2 h hok hln hdd
 go_enter Tryz.func53, Tryz.ntmps53
 generalize hgb : w.heap.size = gb at *
 have HGB := Lib.hid hgb
 have hb8 : i1.bytes * ln ≤ 281474976710656 := by rw [K2.out]; omega
 go_upto_region 1 with fail
 go_upto_region 2 with (at_make; refine wpList_make_full _ rfl _ _ 46 rfl gb 138 i1 (.slice none 0 0) 1 Tryz.underlying46 KI.out K0.out K1.out _ _ _ _ ln rfl rfl rfl rfl hb8 (by unfold maxLen; omega) (by omega) ?_)
 intro w1 hown hgrow
 have hb1 : Below gb w w1 := by rw [← hgb]; exact (Below.refl _ w).grown hgrow (Nat.le_refl _) (fun k h => by cases h)
 have hgB := (hown.lt gb rfl).2
 clear hgrow hb8 hgb
 go_upto_region 3 with fail
 have hown2 := hown.alloc (.map #[] 0)
 have hsm := SMap.made w1
 have hb2 : Below gb w (w1.alloc (.map #[] 0)) := hb1.alloc (Nat.le_of_lt hgB) _
 generalize w1.alloc (.map #[] 0) = w2 at *
 generalize w1.heap.size = B at *
 clear hown hb1
 go_wp2_with fail
 go_loopw [18] (fun r18 wr => ∃ (i : Nat) (vs : List Value) (m : List (ByteArray × Value)), i ≤ ln ∧ r18 = .int .i64 (i : Int) ∧ wr.ownsRow gb 138 1 (.slice (some ⟨gb, 0, none⟩) ln ln) ln vs ∧ SMap wr B m ∧ MetIs l i 0 m ∧ RowsB wr (B + 1) vs l i ∧ Below gb w wr) (fun r18 _ => ln - (intOf r18).toNat)
 case atStart => exact ⟨0, _, [], Nat.zero_le _, rfl, hown2, hsm, metIs_start l, fun j o hj => absurd hj (Nat.not_lt_zero _), hb2⟩
 case round =>
  obtain ⟨i, vs, m, hi, rfl, hown, hsm, hmet, hrows, hb⟩ := hrel
  have HMET := Lib.hid hmet
  have hBs := hsm.lt
  clear hmet
  by_cases hlt : i < ln
  ·obtain ⟨o, ho⟩ : ∃ o, l[i]? = some o := ⟨_, List.getElem?_eq_getElem (by rw [HLN.out]; exact hlt)⟩
   obtain ⟨b, off, p0, p1, p2, p4, c0, c1, c2, c4, hpe, e0', e1', e2', e3', e4', _, hsy, hgr, _⟩ := objs_at (HH.out w (by rw [← HGB.out]; exact Below.refl _ w)) ho
   subst hpe
   have hbW : Below w.heap.size w wr := by rw [HGB.out]; exact hb
   have e0 := cell_later hbW e0'
   have e1 := cell_later hbW e1'
   have e2 := cell_later hbW e2'
   have e3 := cell_later hbW e3'
   have e4 := cell_later hbW e4'
   have HSYM := Lib.hid hsy
   have HGRP := Lib.hid hgr
   clear e0' e1' e2' e3' e4' hsy hgr hbW
   have HO := Lib.hid ho
   have hoo := HOK.out o (List.mem_of_getElem? ho)
   have hql := hoo.few.1
   have hgl := hoo.few.2.2.1
   have HOO := Lib.hid hoo
   have hI : (i : Int) < (ln : Int) := by omega
   have hI0 : (0 : Int) ≤ (i : Int) := by omega
   have hI1 : ¬ (ln : Int) ≤ (i : Int) := by omega
   have hI2 : ¬ (i : Int) < 0 := by omega
   clear ho hoo
   go_upto_region 6 with fail
   have hal := World.grownBy_alloc wr (.cells #[.slice p0 o.secs.length c0, .slice p1 o.syms.length c1, .slice p2 o.groups.length c2, .bool o.hasSig, .slice p4 o.sig.length c4] 27) none
   have hgo := heap_alloc_new wr (.cells #[.slice p0 o.secs.length c0, .slice p1 o.syms.length c1, .slice p2 o.groups.length c2, .bool o.hasSig, .slice p4 o.sig.length c4] 27)
   have hbs : Below gb w (wr.alloc (.cells #[.slice p0 o.secs.length c0, .slice p1 o.syms.length c1, .slice p2 o.groups.length c2, .bool o.hasSig, .slice p4 o.sig.length c4] 27)) := hb.alloc (by omega) _
   generalize wr.alloc (.cells #[.slice p0 o.secs.length c0, .slice p1 o.syms.length c1, .slice p2 o.groups.length c2, .bool o.hasSig, .slice p4 o.sig.length c4] 27) = ws at *
   have hownS := hown.kept hal (.inr (by simp [Value.ownBlock]))
   have hsmS := hsm.block (hal.block B hBs (by simp))
   have hrowsS := hrows.fr2 ((Fr2.refl (B + 1) wr).grown hal (fun r e => by cases e))
   have hBg : B < wr.heap.size := hBs
   generalize wr.heap.size = go at *
   obtain ⟨⟨u0, u1, u2, u3, u4'⟩, _⟩ := cells5 _ _ _ _ _ _ _ _ hgo
   have hgi : go < ws.heap.size := (Array.getElem?_eq_some_iff.1 hgo).1
   generalize hqn : o.secs.length = qn at *
   have HQN := Lib.hid hqn
   have hb8 : i0.bytes * qn ≤ 281474976710656 := by rw [G2.out]; omega
   have HGO := Lib.hid hgo
   clear hal hown hsm hrows hb e0 e1 e2 e3 e4 hqn hgo
   go_wp2_with (at_make; refine wpList_make_full _ rfl _ _ 138 rfl (B + 1) 4 i0 (.bool false) 1 Tryz.underlying138 GI.out G0.out G1.out _ _ _ _ qn rfl rfl rfl rfl hb8 (by unfold maxLen; omega) (by omega) ?_)
   intro w3 hrow hgr3
   have hown3 := hownS.kept hgr3 (.inr (by simp [Value.ownBlock]))
   have hsm3 := hsmS.block (hgr3.block B (by omega) (by simp))
   have hf3 : Fr2 (B + 1) ws w3 := (Fr2.refl (B + 1) ws).grown hgr3 (fun r e => by cases e)
   have hrows3 := hrowsS.fr2 hf3
   have hb3 : Below gb w w3 := hbs.grown hgr3 (by omega) (fun r e => by cases e)
   have hrow3 : w3.ownsRow (B + 1) 4 1 (.slice (some ⟨ws.heap.size, 0, none⟩) qn qn) qn ((dropOwnTo l i o 0).map Value.bool) := by
    rw [show dropOwnTo l i o 0 = List.replicate qn false by unfold dropOwnTo; rw [HQN.out], List.map_replicate, ← toList_madeCells_one]
    exact hrow
   have hvl : vs.length = ln := by have := hownS.1; omega
   obtain ⟨vi, hvi⟩ : ∃ vi, vs[i]? = some vi := ⟨_, List.getElem?_eq_getElem (by omega)⟩
   have hcv := hown3.cellAt i (by omega)
   rw [hvi] at hcv
   have hfz := hown3.frozenAt i
   have hst := hown3.stored i (.slice (some ⟨ws.heap.size, 0, none⟩) qn qn)
   have hsz3 : ws.heap.size < w3.heap.size := (hrow3.lt _ rfl).2
   have hB3 : B < w3.heap.size := by omega
   have hown4 := hst.1
   have hrow4 := hrow3.kept hst.2 (.inr (by simp [Value.ownBlock]; omega))
   have hsm4 := hsm3.block (hst.2.block B hB3 (by simp; omega))
   have hf4 := hf3.grown hst.2 (fun r e => by cases e; omega)
   have hrows4 := (hrowsS.fr2 hf4).set (i := i) (v := .slice (some ⟨ws.heap.size, 0, none⟩) qn qn)
   have hb4 : Below gb w (w3.setCell ⟨gb, i, none⟩ (.slice (some ⟨ws.heap.size, 0, none⟩) qn qn)) := hb3.grown hst.2 (by omega) (fun r e => by cases e; omega)
   have HSM4 := Lib.hid hsm4
   have HROW4 := Lib.hid hrow4
   have HOWN4 := Lib.hid hown4
   have HF4 := Lib.hid hf4
   have HB4 := Lib.hid hb4
   clear hown3 hsm3 hf3 hrows3 hb3 hrow3 hvi hst hownS hsmS hbs hrow hgr3 hsm4 hrow4 hown4 hf4 hb4 u0 u1 u2 u3 u4'
   go_upto_region 7 with fail
   generalize w3.setCell ⟨gb, i, none⟩ (.slice (some ⟨ws.heap.size, 0, none⟩) qn qn) = w4 at *
   have hgo4 := (HF4.out.2 go (by omega) hgi).trans HGO.out
   obtain ⟨⟨_, _, u2, _, _⟩, _⟩ := cells5 _ _ _ _ _ _ _ _ hgo4
   generalize hgn : o.groups.length = gn at *
   generalize hyn : o.syms.length = yn at *
   have HGN := Lib.hid hgn
   have HYN := Lib.hid hyn
   have HWS := Lib.hid hgi
   have hmet0 := HMET.out
   have HMET0 := Lib.hid hmet0
   have HVI := Lib.hid (show (vs.set i (.slice (some ⟨ws.heap.size, 0, none⟩) qn qn))[i]? = some (.slice (some ⟨ws.heap.size, 0, none⟩) qn qn) by rw [List.getElem?_set, if_pos rfl, if_pos (by omega)])
   have HVL := Lib.hid (show (vs.set i (Value.slice (some ⟨ws.heap.size, 0, none⟩) qn qn)).length = ln by rw [List.length_set]; exact hvl)
   have hrows0 : ∀ W, Fr2 (B + 1) ws W → RowsB W (B + 1) (vs.set i (.slice (some ⟨ws.heap.size, 0, none⟩) qn qn)) l i := fun W hW => (hrowsS.fr2 hW).set
   have HROWS := Lib.hid hrows0
   have HSN := Lib.hid fun (W : World) (k : Nat) (h1 : RowsB W (B + 1) (vs.set i (.slice (some ⟨ws.heap.size, 0, none⟩) qn qn)) l i) (h2 : W.ownsRow (B + 1) 4 1 (.slice (some ⟨ws.heap.size, 0, none⟩) qn qn) o.secs.length ((dropOwnTo l i o o.groups.length).map Value.bool)) => h1.snoc' (v := .slice (some ⟨ws.heap.size, 0, none⟩) qn qn) HO.out (by rw [HVL.out]; exact hlt) h2
   generalize hvs2 : vs.set i (.slice (some ⟨ws.heap.size, 0, none⟩) qn qn) = vs2 at *
   generalize hgie : ws.heap.size = gi at *
   have HGI := Lib.hid hgie
   clear hgie hgo4 hgn hyn hmet0 hrows0 hvs2 hcv hfz hrows4 hrowsS hvl
   go_wp2_with fail
   go_loopw [33] (fun r33 wr => ∃ (k : Nat) (m : List (ByteArray × Value)), k ≤ gn ∧ r33 = .int .i64 (k : Int) ∧ wr.ownsRow gb 138 1 (.slice (some ⟨gb, 0, none⟩) ln ln) ln vs2 ∧ SMap wr B m ∧ MetIs l i k m ∧ wr.ownsRow (B + 1) 4 1 (.slice (some ⟨gi, 0, none⟩) qn qn) qn ((dropOwnTo l i o k).map Value.bool) ∧ Fr2 (B + 1) ws wr ∧ Below gb w wr) (fun r33 _ => gn - (intOf r33).toNat)
   case atStart => exact ⟨0, m, Nat.zero_le _, rfl, HOWN4.out, HSM4.out, HMET0.out, HROW4.out, HF4.out, HB4.out⟩
   case round =>
    obtain ⟨k, m, hk, rfl, hown, hsm, hmet, hrow, hf, hb⟩ := hrel
    have HMET := Lib.hid hmet
    clear hmet
    by_cases hlt2 : k < gn
    ·have hbW : Below w.heap.size w wr := by rw [HGB.out]; exact hb
     obtain ⟨b2, off2, g, hpe2, hg, ⟨hE0', _⟩, v2, hcv2', q2, c2', rfl, _, _, _, hml⟩ := HGRP.out.at_ (i := k) (by rw [HGN.out]; exact hlt2)
     subst hpe2
     have hE0 := cell_later hbW hE0'
     have hcv2 := cell_later hbW hcv2'
     clear hE0' hcv2'
     have HG := Lib.hid hg
     have hgm := List.mem_of_getElem? hg
     obtain ⟨n, sy, hgs, hsy, hnm⟩ := HOO.out.sym hgm
     have hny : n < yn := by rw [← HYN.out]; exact (List.getElem?_eq_some_iff.1 hsy).1
     obtain ⟨b3, off3, sy', hpe3, hsy', ⟨f0, _⟩, _⟩ := (HSYM.out.below ESym.keeps hbW).at_ (i := n) (by rw [HYN.out]; exact hny)
     subst hpe3
     obtain rfl : sy' = sy := by rw [hsy] at hsy'; cases hsy'; rfl
     rw [hgs] at hE0
     have hmem := HOO.out.mem g hgm
     have hfew := HOO.out.few.2.2.2.2 g hgm
     have hst := dropOwn_step (l := l) (i := i) HG.out
     have hmv : (mVal sy'.name m).getD (.bool false) = .bool (metB l i k (symName o g.sym)) := by rw [hnm]; exact HMET.out sy'.name
     have hmet2 := metIs_put HMET.out HO.out HG.out
     obtain ⟨mb, hmb⟩ : ∃ mb, mb = metB l i k (symName o g.sym) := ⟨_, rfl⟩
     rw [← hmb] at hst hmv
     rw [hnm] at hmet2
     have HST := Lib.hid hst
     have HMV := Lib.hid hmv
     have HMET2 := Lib.hid hmet2
     have HMEM := Lib.hid hmem
     have HML := Lib.hid (show HasL 1 EInt w q2 g.members from hml)
     generalize hmn : g.members.length = mn at *
     have HMN := Lib.hid hmn
     have hJ : (k : Int) < (gn : Int) := by omega
     have hJ0 : (0 : Int) ≤ (k : Int) := by omega
     have hJ1 : ¬ (gn : Int) ≤ (k : Int) := by omega
     have hN : (n : Int) < (yn : Int) := by omega
     have hN0 : (0 : Int) ≤ (n : Int) := by omega
     have hN1 : ¬ (yn : Int) ≤ (n : Int) := by omega
     have hgoS := (hf.2 go (by omega) (by rw [HGI.out]; exact HWS.out)).trans HGO.out
     have hal := World.grownBy_alloc wr (.cells #[.int .i64 (n : Int), .slice q2 mn c2'] 100) none
     have hgg := heap_alloc_new wr (.cells #[.int .i64 (n : Int), .slice q2 mn c2'] 100)
     have hgbs : gb ≤ wr.heap.size := by rw [← HGB.out]; exact hb.size
     have hBs := hsm.lt
     have hbx : Below gb w (wr.alloc (.cells #[.int .i64 (n : Int), .slice q2 mn c2'] 100)) := hb.alloc hgbs _
     have hgoX := (hal.block go (Nat.lt_of_lt_of_le (by rw [HGI.out]; exact HWS.out) hf.1) (by simp)).trans hgoS
     have hownX := hown.kept hal (.inr (by simp [Value.ownBlock]))
     have hsmX := hsm.block (hal.block B hBs (by simp))
     have hrowX := hrow.kept hal (.inr (by simp [Value.ownBlock]))
     have hfX := hf.grown hal (fun r e => by cases e)
     have f0X := cell_later ((Below.refl _ wr).alloc (Nat.le_refl _) (.cells #[.int .i64 (n : Int), .slice q2 mn c2'] 100)) f0
     clear hg hgm hgs hsy hnm hny hsy' hst hmv hmet2 hmb hmem hml hmn hown hsm hrow hf hb hbW hgoS
     go_upto_region 10 with fail
     generalize wr.alloc (.cells #[.int .i64 (n : Int), .slice q2 mn c2'] 100) = wx at *
     generalize wr.heap.size = gx at *
     obtain ⟨⟨g0, g1⟩, _⟩ := pair_cells _ _ _ _ _ hgg
     obtain ⟨⟨_, u1, _, _, _⟩, _⟩ := cells5 _ _ _ _ _ _ _ _ hgoX
     have HOWNX := Lib.hid hownX
     have HSMX := Lib.hid hsmX
     have HROWX := Lib.hid hrowX
     have HFX := Lib.hid hfX
     have HBX := Lib.hid hbx
     clear hal hgg hgbs hBs hbx hgoX hownX hsmX hrowX hfX f0 hE0 hcv2
     go_upto_region 11 with fail
     go_wp2_with fail
     go_loopw [47] (fun r47 wr => ∃ j : Nat, j ≤ mn ∧ r47 = .int .i64 (j : Int) ∧ wr.ownsRow gb 138 1 (.slice (some ⟨gb, 0, none⟩) ln ln) ln vs2 ∧ SMap wr B m ∧ wr.ownsRow (B + 1) 4 1 (.slice (some ⟨gi, 0, none⟩) qn qn) qn ((setAll (dropOwnTo l i o k) (g.members.take j) mb).map Value.bool) ∧ Fr2 (B + 1) ws wr ∧ Below gb w wr) (fun r47 _ => mn - (intOf r47).toNat)
     case atStart => exact ⟨0, Nat.zero_le _, rfl, HOWNX.out, HSMX.out, HROWX.out, HFX.out, HBX.out⟩
     case round =>
      obtain ⟨j, hj, rfl, hown, hsm, hrow, hf, hb⟩ := hrel
      by_cases hjl : j < mn
      ·have hbW : Below w.heap.size w wr := by rw [HGB.out]; exact hb
       obtain ⟨b5, off5, x, hpe5, hx, hcx0⟩ := HML.out.at_ (i := j) (by rw [HMN.out]; exact hjl)
       subst hpe5
       have hcx := cell_later hbW hcx0.1
       rw [Nat.mul_one] at hcx
       have hxm := HMEM.out x (List.mem_of_getElem? hx)
       obtain ⟨t, ht⟩ : ∃ t : Nat, x = ((t + 1 : Nat) : Int) := ⟨(x - 1).toNat, by omega⟩
       have htq : t < qn := by rw [HQN.out] at hxm; omega
       have hlen : (setAll (dropOwnTo l i o k) (g.members.take j) mb).length = qn := by rw [setAll_length, dropOwn_len HOO.out, HQN.out]
       have hfz := hrow.frozenAt t
       obtain ⟨bv, hbv⟩ : ∃ bv, (setAll (dropOwnTo l i o k) (g.members.take j) mb)[t]? = some bv := ⟨_, List.getElem?_eq_getElem (by omega)⟩
       have hcl : wr.cell? ⟨gi, t, none⟩ = some (.bool bv) := (hrow.cellAt t (by omega)).trans (by rw [List.getElem?_map, hbv]; rfl)
       have hca := hown.cellAt i (by omega)
       rw [HVI.out] at hca
       have hrowD : wr.drew.ownsRow (B + 1) 4 1 (.slice (some ⟨gi, 0, none⟩) qn qn) qn ((setAll (dropOwnTo l i o k) (g.members.take j) mb).map Value.bool) := hrow
       have hownD : wr.drew.ownsRow gb 138 1 (.slice (some ⟨gb, 0, none⟩) ln ln) ln vs2 := hown
       have hsmD : SMap wr.drew B m := hsm.block rfl
       have hfD : Fr2 (B + 1) ws wr.drew := ⟨hf.1, hf.2⟩
       have hbD : Below gb w wr.drew := hb.drew
       have hlk := hsmD.get sy'.name (P := Tryz.prog) (t := 199) Tryz.underlying199 Tryz.underlying9 (zeroBool wr.drew)
       rw [mAt_val, HMV.out] at hlk
       have hst := hrowD.stored t (.bool mb)
       have hset : ((setAll (dropOwnTo l i o k) (g.members.take j) mb).map Value.bool).set t (.bool mb) = (setAll (dropOwnTo l i o k) (g.members.take (j + 1)) mb).map Value.bool := by
        rw [take_snocN hx, setAll_snoc, List.map_set, ht, show (((t + 1 : Nat) : Int) - 1).toNat = t by omega]
       rw [hset] at hst
       have hgi6 := (hrow.lt _ rfl)
       have hgiw : ws.heap.size ≤ gi := by rw [HGI.out]; exact Nat.le_refl _
       have hown6 := hownD.kept hst.2 (.inr (by simp [Value.ownBlock]; omega))
       have hsm6 := hsmD.block (hst.2.block B hsmD.lt (by simp; omega))
       have hf6 := hfD.grown hst.2 (fun r e => by cases e; omega)
       have hb6 := hbD.grown hst.2 (by rw [← HGB.out]; exact hbD.size) (fun r e => by cases e; omega)
       have HST6 := Lib.hid hst.1
       have HOWN6 := Lib.hid hown6
       have HSM6 := Lib.hid hsm6
       have HF6 := Lib.hid hf6
       have HB6 := Lib.hid hb6
       have k1 : IntKind.i64.wrap (x - 1) = (t : Int) := by rw [show x - 1 = (t : Int) by omega]; exact IntWalk.i64_in _ (by omega)
       have hJ3 : (j : Int) < (mn : Int) := by omega
       have hJ4 : (t : Int) < (qn : Int) := by omega
       have hJ5 : (0 : Int) ≤ (t : Int) := by omega
       have hJ6 : (0 : Int) ≤ (j : Int) := by omega
       have hJ7 : ¬ (mn : Int) ≤ (j : Int) := by omega
       have hJ8 : ¬ (qn : Int) ≤ (t : Int) := by omega
       clear hx hcx0 hxm ht hlen hbv hst hset hown hsm hrow hf hb hbW hown6 hsm6 hf6 hb6 hrowD hownD hsmD hfD hbD
       go_upto_region 14 with fail
       go_still_tail 10, (by kernel_rfl)
       go_wp2_with fail
       go_roundw
       case rel => exact ⟨j + 1, hjl, by go_num, HOWN6.out, HSM6.out, HST6.out, HF6.out, HB6.out⟩
       case measure => simp [intOf]; omega
      ·have hJ3 : ¬ (j : Int) < (mn : Int) := by omega
       have hrow5 : wr.ownsRow (B + 1) 4 1 (.slice (some ⟨gi, 0, none⟩) qn qn) qn ((dropOwnTo l i o (k + 1)).map Value.bool) := by
        rw [HST.out]
        rw [List.take_of_length_le (by rw [HMN.out]; omega)] at hrow
        exact hrow
       have HROW5 := Lib.hid hrow5
       have HOWN5 := Lib.hid hown
       have HSM5 := Lib.hid hsm
       have HF5 := Lib.hid hf
       have HB5 := Lib.hid hb
       have hsz5 : gb ≤ wr.heap.size := by rw [← HGB.out]; exact hb.size
       have hBs5 := hsm.lt
       have hgi5 := (hrow.lt _ rfl)
       clear hrow hrow5 hown hsm hf hb
       go_wp2_with (at_mapUpdate; refine wpList_mapUpdate_str _ rfl (.tmp 62) (.tmp 63) (.const (.bool true)) 199 rfl 9 4 Tryz.underlying199 Tryz.underlying9 B m rfl HSM5.out sy'.name rfl (.bool true) rfl ?_)
       intro w6 hsm6 hgr6
       have hown6 := HOWN5.out.kept hgr6 (.inr (by simp [Value.ownBlock]; omega))
       have hrow6 := HROW5.out.kept hgr6 (.inr (by simp [Value.ownBlock]; omega))
       have hf6 := HF5.out.grown hgr6 (fun r e => by cases e; omega)
       have hb6 := HB5.out.grown hgr6 hsz5 (fun r e => by cases e; omega)
       have HSM6 := Lib.hid hsm6
       clear hsm6 hgr6
       go_wp2_with fail
       go_roundw
       case rel => exact ⟨k + 1, _, hlt2, by go_num, hown6, HSM6.out, HMET2.out, hrow6, hf6, hb6⟩
       case measure => simp [intOf]; omega
    ·obtain rfl : k = gn := by omega
     have hK : ¬ (k : Int) < (k : Int) := by omega
     have hnext := metIs_next HMET.out HO.out (by rw [HGN.out]; exact Nat.le_refl _)
     have hrw := HSN.out wr k (HROWS.out wr hf) (by rw [HQN.out, HGN.out]; exact hrow)
     go_wp2_with fail
     go_roundw
     case rel => exact ⟨i + 1, vs2, m, hlt, by go_num, hown, hsm, hnext, hrw, hb⟩
     case measure => simp [intOf]; omega
  ·obtain rfl : i = ln := by omega
   have hI : ¬ (i : Int) < (i : Int) := by omega
   go_wp2_with fail
   go_ret
   exact ⟨_, rfl, fun W hW => HEND.out _ _ _ (owns_fr2 hown (show Fr2 gb wr W from hW) (Nat.le_refl _)) (hrows.fr2 ⟨hW.1, fun g hg => hW.2 g (by omega)⟩), hb⟩
end Go.Proofs.YteopgmieindojaaGreat
