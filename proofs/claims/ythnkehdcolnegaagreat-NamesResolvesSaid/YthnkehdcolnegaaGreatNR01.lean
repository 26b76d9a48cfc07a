/-
  Maps keyed by strings: what such a map holds, entry by entry, as they were laid; what a look-up and a store do. It names nothing of the program.
  Maps keyed by strings: what a store changes of look-ups; the steps of a walk. It names nothing of the program.
  Who defines which name, by definition: what is told of lists of objects. Nothing here walks the program.
-/
import Derived.Maps.RangeRun
import Derived.Carry
import Derived.Test.YthnkehdcolnegaaGreatWords
import Derived.Maps.Own
import Derived.Maps.OwnOps
import Derived.OwnWalk
import Derived.Test.YthnkehdcolnegaaGreatObjMem
namespace Go.Proofs.YthnkehdcolnegaaGreat
open Go.ChangeMaps Go.RowKit

/-- Block B is a map of these names and values. -/
def SMap (w : World) (B : Nat) (m : List (ByteArray × Value)) : Prop := ∃ es clock, w.heap[B]? = some (.map es clock) ∧ es.toList.map (fun e => (e.key, e.val)) = m.map (fun p => (Value.string p.1, p.2)) ∧ (es.toList.map (·.born)).Nodup ∧ ∀ e ∈ es.toList, e.born < clock
/-- Where a name stands, from number i on, and its value. -/
def mAt (s : ByteArray) : List (ByteArray × Value) → Nat → Option (Nat × Value)
  | [], _ => none
  | p :: r, i => bif s == p.1 then some (i, p.2) else mAt s r (i + 1)
theorem SMap.made (w : World) : SMap (w.alloc (.map #[] 0)) w.heap.size [] := ⟨#[], 0, heap_alloc_new w _, rfl, by simp, by simp⟩
theorem SMap.lt {w : World} {B : Nat} {m : List (ByteArray × Value)} (h : SMap w B m) : B < w.heap.size := by
  obtain ⟨es, c, hb, _⟩ := h
  exact (Array.getElem?_eq_some_iff.1 hb).1
theorem SMap.below {w w' : World} {B : Nat} {m : List (ByteArray × Value)} (h : SMap w B m) (hb : Below w.heap.size w w') : SMap w' B m := by
  have hl := h.lt
  obtain ⟨es, c, h1, h2⟩ := h
  exact ⟨es, c, (hb.block B hl).trans h1, h2⟩
theorem SMap.block {w w' : World} {B : Nat} {m : List (ByteArray × Value)} (h : SMap w B m) (hb : w'.heap[B]? = w.heap[B]?) : SMap w' B m := by
  obtain ⟨es, c, h1, h2⟩ := h
  exact ⟨es, c, hb.trans h1, h2⟩
theorem findNow_str (s : ByteArray) : ∀ (es : List MapEntry) (m : List (ByteArray × Value)) (i : Nat), es.map (fun e => (e.key, e.val)) = m.map (fun p => (Value.string p.1, p.2)) → Instr.findNow .string (.string s) es i = some (mAt s m i)
  | [], [], _, _ => rfl
  | [], _ :: _, _, h => by simp at h
  | _ :: _, [], _, h => by simp at h
  | e :: es, p :: m, i, h => by
    simp only [List.map_cons, List.cons.injEq, Prod.mk.injEq] at h
    obtain ⟨⟨h1, h2⟩, h3⟩ := h
    unfold Instr.findNow mAt
    rw [h1, h2, findNow_str s es m (i + 1) h3]
    show (match some (s == p.1) with | some true => _ | some false => _ | none => _) = _
    cases s == p.1 <;> rfl
section
variable {P : Program} {w : World} {B : Nat} {m : List (ByteArray × Value)} {t k e : TypeId}
theorem run_findKey_str (s : ByteArray) (hk : P.underlying k = some .string) {es : List MapEntry} (h : es.map (fun e => (e.key, e.val)) = m.map (fun p => (Value.string p.1, p.2))) : (Instr.findKey k (.string s) es).run P w = .ok (mAt s m 0) w := by
  unfold Instr.findKey
  simp [run_underlying hk, findNow_str s es m 0 h, Result.andThen]
theorem run_checkKey_str (s : ByteArray) (b : Bool) (hk : P.underlying k = some .string) : (Instr.checkKey b 10000 k (.string s)).run P w = .ok () w := by
  unfold Instr.checkKey
  simp [run_underlying hk, Result.andThen]
/-- v, ok := m[s]. -/
theorem SMap.look (h : SMap w B m) (s : ByteArray) (ht : P.underlying t = some (.map k e)) (hk : P.underlying k = some .string) {z : Value} (hz : (zeroValue e).run P w = .ok z w) :
    (Instr.lookup t (.map (some B)) (.string s) true).run P w = .ok (.tuple #[((mAt s m 0).map (·.2)).getD z, .bool (mAt s m 0).isSome]) w := by
  obtain ⟨es, c, h1, h2, _⟩ := h
  unfold Instr.lookup
  cases hq : mAt s m 0 with
  | none => simp [run_underlying ht, MapKept.run_getObj_map h1, run_checkKey_str s _ hk, run_findKey_str s hk h2, hq, hz, Result.andThen]
  | some p => simp [run_underlying ht, MapKept.run_getObj_map h1, run_checkKey_str s _ hk, run_findKey_str s hk h2, hq, Result.andThen]
/-- m[s], without ok. -/
theorem SMap.get (h : SMap w B m) (s : ByteArray) (ht : P.underlying t = some (.map k e)) (hk : P.underlying k = some .string) {z : Value} (hz : (zeroValue e).run P w = .ok z w) :
    (Instr.lookup t (.map (some B)) (.string s) false).run P w = .ok (((mAt s m 0).map (·.2)).getD z) w := by
  obtain ⟨es, c, h1, h2, _⟩ := h
  unfold Instr.lookup
  cases hq : mAt s m 0 with
  | none => simp [run_underlying ht, MapKept.run_getObj_map h1, run_checkKey_str s _ hk, run_findKey_str s hk h2, hq, hz, Result.andThen]
  | some p => simp [run_underlying ht, MapKept.run_getObj_map h1, run_checkKey_str s _ hk, run_findKey_str s hk h2, hq, Result.andThen]
/-- A map with one value more, or another one. -/
def mPut (m : List (ByteArray × Value)) (s : ByteArray) (v : Value) : List (ByteArray × Value) := match mAt s m 0 with
  | some (i, _) => m.set i (s, v)
  | none => m ++ [(s, v)]
theorem mAt_some {s : ByteArray} : ∀ {m : List (ByteArray × Value)} {i j : Nat} {v : Value}, mAt s m i = some (j, v) → ∃ n, j = i + n ∧ ∃ q, m[n]? = some (q, v) ∧ (s == q) = true
  | [], _, _, _, h => by cases h
  | p :: m, i, j, v, h => by
    unfold mAt at h
    cases hp : s == p.1 with
    | true => rw [hp] at h; cases h; exact ⟨0, rfl, p.1, rfl, hp⟩
    | false =>
      rw [hp] at h
      obtain ⟨n, h1, q, h2, h3⟩ := mAt_some h
      exact ⟨n + 1, by omega, q, by simpa using h2, h3⟩
theorem run_keyThatStays_str (a b : ByteArray) (h : (a == b) = true) : (Instr.keyThatStays (.string a) (.string b)).run P w = .ok (.string b) w := by
  unfold Instr.keyThatStays
  have : Instr.sameBits 10000 (.string a) (.string b) = true := by unfold Instr.sameBits; exact h
  rw [this]
  rfl
theorem set_map {es : List MapEntry} {m : List (ByteArray × Value)} (h : es.map (fun e => (e.key, e.val)) = m.map (fun p => (Value.string p.1, p.2))) (n : Nat) (s : ByteArray) (v : Value) :
    (es.modify n fun e => { e with key := .string s, val := v }).map (fun e => (e.key, e.val)) = (m.set n (s, v)).map (fun p => (Value.string p.1, p.2)) := by
  rw [List.map_set, ← h]
  apply List.ext_getElem?
  intro i
  rw [List.getElem?_map, List.getElem?_modify, List.getElem?_set, List.getElem?_map, List.length_map]
  by_cases hi : n = i
  · subst hi
    cases hq : es[n]? with
    | none => rw [if_pos rfl, if_neg (by have := List.getElem?_eq_none_iff.1 hq; omega)]; rfl
    | some x => rw [if_pos rfl, if_pos (List.getElem?_eq_some_iff.1 hq).1]; simp
  · rw [if_neg hi]
    cases es[i]? <;> simp [hi]
theorem born_modify (es : List MapEntry) (n : Nat) (s : ByteArray) (v : Value) : (es.modify n fun e => { e with key := .string s, val := v }).map (·.born) = es.map (·.born) := by
  apply List.ext_getElem?
  intro i
  rw [List.getElem?_map, List.getElem?_modify, List.getElem?_map]
  cases es[i]? with
  | none => rfl
  | some x => by_cases h : n = i <;> simp [h]
/-- m[s] = v. -/
theorem SMap.put (h : SMap w B m) (s : ByteArray) (v : Value) (ht : P.underlying t = some (.map k e)) (hk : P.underlying k = some .string) :
    ∃ w', (Instr.mapUpdate t (.map (some B)) (.string s) v).run P w = .ok () w' ∧ SMap w' B (mPut m s v) ∧ w.grownBy w' (some B) := by
  obtain ⟨es, c, h1, h2, h3, h4⟩ := h
  have hgr : ∀ o, w.grownBy (setBlock w B o) (some B) := fun o => ⟨rfl, rfl, rfl, by simp [setBlock], fun i _ hi => heap_setBlock_other h1 _ (fun e => hi (by rw [e]))⟩
  unfold Instr.mapUpdate mPut
  cases hq : mAt s m 0 with
  | none =>
    refine ⟨setBlock w B (.map (es.push { key := .string s, val := v, born := c }) (c + 1)), ?_, ⟨_, _, heap_setBlock_same h1 _, ?_, ?_, ?_⟩, hgr _⟩
    · simp [run_underlying ht, MapKept.run_getObj_map h1, run_checkKey_str s _ hk, run_findKey_str s hk h2, hq, MapKept.run_setObj_map _ h1, Result.andThen, setBlock]
    · rw [Array.toList_push, List.map_append, h2, List.map_append]
      rfl
    · rw [Array.toList_push, List.map_append, List.nodup_append]
      refine ⟨h3, by simp, fun a ha b hb => ?_⟩
      obtain ⟨x, hx, rfl⟩ := List.mem_map.1 ha
      simp at hb
      subst hb
      have := h4 x hx
      omega
    · intro x hx
      rw [Array.toList_push] at hx
      rcases List.mem_append.1 hx with hx | hx
      · have := h4 x hx; omega
      · obtain rfl := List.mem_singleton.1 hx
        show c < c + 1
        omega
  | some p =>
    obtain ⟨n, u⟩ := p
    obtain ⟨n', e1, q, hn, hs⟩ := mAt_some hq
    rw [Nat.zero_add] at e1
    subst e1
    have hlen : es.toList.length = m.length := by have := congrArg List.length h2; simpa using this
    have hnl : n < es.toList.length := by rw [hlen]; exact (List.getElem?_eq_some_iff.1 hn).1
    have hkey : (es[n]?).map (·.key) = some (.string q) := by
      have := congrArg (fun l => (l[n]?).map Prod.fst) h2
      simp only [List.getElem?_map, hn, Option.map_some] at this
      rw [← Array.getElem?_toList]
      cases hx : es.toList[n]? with
      | none => rw [hx] at this; cases this
      | some x => rw [hx] at this; simpa using this
    have hqs : (q == s) = true := by rw [MapKept.bytes_beq] at hs ⊢; exact hs.symm
    refine ⟨setBlock w B (.map (es.modify n fun e => { e with key := .string s, val := v }) c), ?_, ⟨_, _, heap_setBlock_same h1 _, ?_, ?_, ?_⟩, hgr _⟩
    · simp [run_underlying ht, MapKept.run_getObj_map h1, run_checkKey_str s _ hk, run_findKey_str s hk h2, hq, hkey, run_keyThatStays_str q s hqs, MapKept.run_setObj_map _ h1, Result.andThen, setBlock]
    · rw [Array.toList_modify]
      exact set_map h2 n s v
    · rw [Array.toList_modify, born_modify]
      exact h3
    · intro x hx
      rw [Array.toList_modify] at hx
      have hb : x.born ∈ (es.toList.modify n fun e => { e with key := .string s, val := v }).map (·.born) := List.mem_map_of_mem hx
      rw [born_modify] at hb
      obtain ⟨y, hy, e⟩ := List.mem_map.1 hb
      rw [← e]
      exact h4 y hy
end
end Go.Proofs.YthnkehdcolnegaaGreat

namespace Go.Proofs.YthnkehdcolnegaaGreat
open Go.ChangeMaps Go.RowKit

/-- The value of a name. -/
def mVal (s : ByteArray) : List (ByteArray × Value) → Option Value
  | [] => none
  | p :: r => bif s == p.1 then some p.2 else mVal s r
theorem mAt_val (s : ByteArray) : ∀ (m : List (ByteArray × Value)) (i : Nat), (mAt s m i).map (·.2) = mVal s m
  | [], _ => rfl
  | p :: r, i => by
    unfold mAt mVal
    cases s == p.1 with
    | true => rfl
    | false => exact mAt_val s r (i + 1)
theorem beq_self (s : ByteArray) : (s == s) = true := (MapKept.bytes_beq s s).2 rfl
theorem mVal_snoc (t s : ByteArray) (v : Value) : ∀ m : List (ByteArray × Value), mVal s m = none → mVal t (m ++ [(s, v)]) = bif t == s then some v else mVal t m
  | [], _ => by
    show (bif t == s then some v else none) = _
    rfl
  | p :: r, h => by
    unfold mVal at h
    cases hp : s == p.1 with
    | true => rw [hp] at h; cases h
    | false =>
      rw [hp] at h
      have ih := mVal_snoc t s v r h
      show (bif t == p.1 then some p.2 else mVal t (r ++ [(s, v)])) = bif t == s then some v else bif t == p.1 then some p.2 else mVal t r
      rw [ih]
      cases ht : t == s with
      | false => rfl
      | true =>
        obtain rfl := (MapKept.bytes_beq t s).1 ht
        rw [hp]
        rfl
theorem mVal_set (t s : ByteArray) (v : Value) : ∀ (m : List (ByteArray × Value)) (i n : Nat) (u : Value), mAt s m i = some (i + n, u) → mVal t (m.set n (s, v)) = bif t == s then some v else mVal t m
  | [], _, _, _, h => by cases h
  | p :: r, i, n, u, h => by
    unfold mAt at h
    cases hp : s == p.1 with
    | true =>
      rw [hp] at h
      simp only [cond_true, Option.some.injEq, Prod.mk.injEq] at h
      obtain rfl : n = 0 := by omega
      show (bif t == s then some v else mVal t r) = bif t == s then some v else bif t == p.1 then some p.2 else mVal t r
      rw [← (MapKept.bytes_beq _ _).1 hp]
      cases t == s <;> rfl
    | false =>
      rw [hp] at h
      simp only [cond_false] at h
      obtain ⟨k, hk, _⟩ := mAt_some h
      obtain ⟨n', rfl⟩ : ∃ n', n = n' + 1 := ⟨n - 1, by omega⟩
      have ih := mVal_set t s v r (i + 1) n' u (by rw [h, show i + (n' + 1) = i + 1 + n' by omega])
      show (bif t == p.1 then some p.2 else mVal t (r.set n' (s, v))) = bif t == s then some v else bif t == p.1 then some p.2 else mVal t r
      rw [ih]
      cases ht : t == s with
      | false => rfl
      | true =>
        obtain rfl := (MapKept.bytes_beq t s).1 ht
        rw [hp]
        rfl
theorem mVal_put (t s : ByteArray) (v : Value) (m : List (ByteArray × Value)) : mVal t (mPut m s v) = bif t == s then some v else mVal t m := by
  unfold mPut
  cases hq : mAt s m 0 with
  | none => exact mVal_snoc t s v m (by rw [← mAt_val s m 0, hq]; rfl)
  | some x =>
    obtain ⟨n, u⟩ := x
    exact mVal_set t s v m 0 n u (by rw [hq, Nat.zero_add])
section
variable {P : Program}
/-- The step of v, ok := m[s]. -/
theorem wpList_lookup_str_ok (w : World) {ops : Array Oper} {rest : List Oper} {o : Oper} {a : Act} {Q : Exit → Act → World → Prop}
    (hg : o.guard = none) (m x : Operand) (t : TypeId) (hop : o.op = Op.lookup t m x true) (k e : TypeId) (ht : P.underlying t = some (.map k e)) (hk : P.underlying k = some .string) (z : Value) (hz : ∀ w, (zeroValue e).run P w = .ok z w)
    (b : Nat) (ml : List (ByteArray × Value)) (hm : a.eval m = .map (some b)) (h : SMap w b ml) (s : ByteArray) (hx : a.eval x = .string s)
    (hK : wpList P ops Q rest (a.put o.dst (.tuple #[(mVal s ml).getD z, .bool (mVal s ml).isSome])) w) : wpList P ops Q (o :: rest) a w := by
  refine wpList_plain hg fun K' hK' => ?_
  have hrun := h.look s ht hk (hz w)
  rw [mAt_val, show (mAt s ml 0).isSome = (mVal s ml).isSome by rw [← mAt_val s ml 0]; cases mAt s ml 0 <;> rfl] at hrun
  unfold Oper.wp
  simp [execOp, hop, hm, hx, hrun, Result.andThen]
  exact hK' _ _ hK
/-- The step of m[s] = v. -/
theorem wpList_mapUpdate_str (w : World) {ops : Array Oper} {rest : List Oper} {o : Oper} {a : Act} {Q : Exit → Act → World → Prop}
    (hg : o.guard = none) (m x v : Operand) (t : TypeId) (hop : o.op = Op.mapUpdate t m x v) (k e : TypeId) (ht : P.underlying t = some (.map k e)) (hk : P.underlying k = some .string)
    (b : Nat) (ml : List (ByteArray × Value)) (hm : a.eval m = .map (some b)) (h : SMap w b ml) (s : ByteArray) (hx : a.eval x = .string s) (val : Value) (hv : a.eval v = val)
    (hK : ∀ w', SMap w' b (mPut ml s val) → w.grownBy w' (some b) → wpList P ops Q rest (a.put o.dst undef) w') : wpList P ops Q (o :: rest) a w := by
  refine wpList_plain hg fun K' hK' => ?_
  obtain ⟨w', hrun, r1, r2⟩ := h.put s val ht hk
  unfold Oper.wp
  simp [execOp, hop, hm, hx, hv, hrun, Result.andThen]
  exact hK' _ _ (hK w' r1 r2)
end
end Go.Proofs.YthnkehdcolnegaaGreat

namespace Go.Proofs.YthnkehdcolnegaaGreat
open Go.RowKit

/-! ## All of a kind in objects, each with where it is -/
def tagged {α : Type} (f : ObjD → List α) (i : Nat) (o : ObjD) : List (Nat × Nat × α) := (f o).mapIdx fun k x => (i, k, x)
/-- All of the first i objects. -/
def allTo {α : Type} (f : ObjD → List α) (l : List ObjD) : Nat → List (Nat × Nat × α)
  | 0 => []
  | i + 1 => allTo f l i ++ match l[i]? with | some o => tagged f i o | none => []
/-- All of the first i objects, and the first k of the next one. -/
def atTo {α : Type} (f : ObjD → List α) (l : List ObjD) (i k : Nat) : List (Nat × Nat × α) := allTo f l i ++ match l[i]? with | some o => (tagged f i o).take k | none => []
theorem tagged_length {α : Type} (f : ObjD → List α) (i : Nat) (o : ObjD) : (tagged f i o).length = (f o).length := by simp [tagged]
theorem tagged_get {α : Type} {f : ObjD → List α} {i k : Nat} {o : ObjD} {x : α} (h : (f o)[k]? = some x) : (tagged f i o)[k]? = some (i, k, x) := by
  simp [tagged, List.getElem?_mapIdx, h]
theorem atTo_zero {α : Type} (f : ObjD → List α) (l : List ObjD) (i : Nat) : atTo f l i 0 = allTo f l i := by
  unfold atTo
  cases l[i]? <;> simp
theorem atTo_step {α : Type} {f : ObjD → List α} {l : List ObjD} {i k : Nat} {o : ObjD} {x : α} (ho : l[i]? = some o) (hx : (f o)[k]? = some x) : atTo f l i (k + 1) = atTo f l i k ++ [(i, k, x)] := by
  unfold atTo
  rw [ho]
  simp only
  have hk : k < (tagged f i o).length := by rw [tagged_length]; exact (List.getElem?_eq_some_iff.1 hx).1
  have := tagged_get (i := i) hx
  rw [List.take_succ_eq_append_getElem hk, ← List.append_assoc, (List.getElem?_eq_some_iff.1 this).2]
theorem atTo_end {α : Type} {f : ObjD → List α} {l : List ObjD} {i k : Nat} {o : ObjD} (ho : l[i]? = some o) (hk : (f o).length ≤ k) : atTo f l i k = allTo f l (i + 1) := by
  unfold atTo
  conv => rhs; unfold allTo
  rw [ho]
  simp only
  rw [List.take_of_length_le (by rw [tagged_length]; exact hk)]
theorem allTo_mem {α : Type} {f : ObjD → List α} {l : List ObjD} {i k : Nat} {x : α} : ∀ {n : Nat}, (i, k, x) ∈ allTo f l n ↔ i < n ∧ ∃ o, l[i]? = some o ∧ (f o)[k]? = some x
  | 0 => by simp [allTo]
  | n + 1 => by
    unfold allTo
    rw [List.mem_append, allTo_mem]
    constructor
    · rintro (⟨h1, o, h2, h3⟩ | h)
      · exact ⟨by omega, o, h2, h3⟩
      · cases ho : l[n]? with
        | none => rw [ho] at h; cases h
        | some o =>
          rw [ho] at h
          simp only at h
          unfold tagged at h
          rw [List.mem_mapIdx] at h
          obtain ⟨j, hj, e⟩ := h
          cases e
          exact ⟨by omega, o, ho, List.getElem?_eq_getElem hj⟩
    · rintro ⟨h1, o, h2, h3⟩
      rcases Nat.lt_or_ge i n with hlt | hge
      · exact .inl ⟨hlt, o, h2, h3⟩
      · obtain rfl : i = n := by omega
        refine .inr ?_
        rw [h2]
        exact List.mem_of_getElem? (tagged_get h3)

/-! ## Names -/
def sEq (x y : ByteArray) : Bool := x.toList == y.toList
def sLt (x y : ByteArray) : Bool := Op.bytesLess x.toList y.toList
theorem sEq_iff {x y : ByteArray} : sEq x y = true ↔ x = y := by
  unfold sEq
  rw [beq_iff_eq]
  constructor
  · intro h
    rw [ByteArray.toList_eq, ByteArray.toList_eq] at h
    exact ByteArray.ext (Array.ext' h)
  · rintro rfl; rfl
theorem sEq_refl (x : ByteArray) : sEq x x = true := sEq_iff.2 rfl
theorem less_iff : ∀ x y : List UInt8, Op.bytesLess x y = true ↔ x < y := by
  intro x
  induction x with
  | nil => intro y; cases y <;> simp [Op.bytesLess]
  | cons a x ih =>
    intro y
    cases y with
    | nil => simp [Op.bytesLess]
    | cons b y =>
      unfold Op.bytesLess
      rw [List.cons_lt_cons_iff, Bool.or_eq_true, Bool.and_eq_true, decide_eq_true_eq, beq_iff_eq, ih]
theorem sLt_iff {x y : ByteArray} : sLt x y = true ↔ x.data.toList < y.data.toList := by
  unfold sLt
  rw [ByteArray.toList_eq, ByteArray.toList_eq, less_iff]
theorem sLt_irrefl (x : ByteArray) : sLt x x = false := by
  cases h : sLt x x with
  | false => rfl
  | true => exact absurd (sLt_iff.1 h) (List.lt_irrefl _)
theorem sLt_trans {x y z : ByteArray} (h1 : sLt x y = true) (h2 : sLt y z = true) : sLt x z = true := sLt_iff.2 (List.lt_trans (sLt_iff.1 h1) (sLt_iff.1 h2))
theorem sLt_total {x y : ByteArray} (h : sEq x y = false) (h1 : sLt x y = false) : sLt y x = true := by
  have hne : ¬ x = y := fun e => by rw [e, sEq_refl] at h; cases h
  have h2 : ¬ x.data.toList < y.data.toList := fun hh => by rw [sLt_iff.2 hh] at h1; cases h1
  refine sLt_iff.2 ?_
  have h3 : y.data.toList ≤ x.data.toList := List.not_lt.1 h2
  rcases List.le_iff_lt_or_eq.1 h3 with h4 | h4
  · exact h4
  · exact absurd (ByteArray.ext (Array.ext' h4.symm)) hne
/-! ## Groups, and what is dropped -/
def symName (o : ObjD) (n : Int) : ByteArray := match o.syms[n.toNat]? with | some s => s.name | none => ⟨#[]⟩
def gNameAt (l : List ObjD) (x : Nat × Nat × GroupD) : ByteArray := match l[x.1]? with | some o => symName o x.2.2.sym | none => ⟨#[]⟩
/-- Has a group ahead of group k of object i that name? -/
def metB (l : List ObjD) (i k : Nat) (name : ByteArray) : Bool := (atTo ObjD.groups l i k).any fun x => sEq (gNameAt l x) name
def setAll (out : List Bool) (ms : List Int) (b : Bool) : List Bool := ms.foldl (fun acc m => acc.set (m - 1).toNat b) out
theorem setAll_length (ms : List Int) (b : Bool) : ∀ out : List Bool, (setAll out ms b).length = out.length := by
  induction ms with
  | nil => intro out; rfl
  | cons m ms ih => intro out; show (setAll (out.set _ b) ms b).length = _; rw [ih, List.length_set]
theorem setAll_snoc (out : List Bool) (ms : List Int) (m : Int) (b : Bool) : setAll out (ms ++ [m]) b = (setAll out ms b).set (m - 1).toNat b := by
  unfold setAll
  rw [List.foldl_append]
  rfl
/-- What of an object's sections is dropped behind its first k groups, as the reference tells it. -/
def dropTo (l : List ObjD) (i : Nat) (o : ObjD) : Nat → List Bool
  | 0 => List.replicate o.secs.length false
  | k + 1 => match o.groups[k]? with
    | none => dropTo l i o k
    | some g => bif metB l i k (symName o g.sym) then setAll (dropTo l i o k) g.members true else dropTo l i o k
def dropOf (l : List ObjD) (i : Nat) : List Bool := match l[i]? with | some o => dropTo l i o o.groups.length | none => []
/-- .. and as the project tells it. -/
def dropOwnTo (l : List ObjD) (i : Nat) (o : ObjD) : Nat → List Bool
  | 0 => List.replicate o.secs.length false
  | k + 1 => match o.groups[k]? with
    | none => dropOwnTo l i o k
    | some g => setAll (dropOwnTo l i o k) g.members (metB l i k (symName o g.sym))
def dropsOf (l : List ObjD) : List (List Bool) := (List.range l.length).map (dropOf l)
theorem dropTo_length (l : List ObjD) (i : Nat) (o : ObjD) : ∀ k, (dropTo l i o k).length = o.secs.length
  | 0 => by simp [dropTo]
  | k + 1 => by
    unfold dropTo
    cases o.groups[k]? with
    | none => exact dropTo_length l i o k
    | some g =>
      simp only
      cases metB l i k (symName o g.sym) with
      | true => show (setAll _ _ _).length = _; rw [setAll_length]; exact dropTo_length l i o k
      | false => exact dropTo_length l i o k
/-- Each section is in one group at most. -/
def OneGroup (o : ObjD) : Prop := ∀ (a b : Nat) (g h : GroupD), o.groups[a]? = some g → o.groups[b]? = some h → a < b → ∀ m ∈ h.members, ∀ n ∈ g.members, 1 ≤ m ∧ 1 ≤ n → m ≠ n
def MemOK (o : ObjD) : Prop := ∀ g ∈ o.groups, ∀ m ∈ g.members, 1 ≤ m ∧ m ≤ (o.secs.length : Int)
theorem setAll_same : ∀ (ms : List Int) (out : List Bool), (∀ m ∈ ms, out[(m - 1).toNat]?.getD false = false) → setAll out ms false = out
  | [], _, _ => rfl
  | m :: ms, out, h => by
    have h1 : out.set (m - 1).toNat false = out := by
      have h2 := h m (by simp)
      apply List.ext_getElem?
      intro j
      rw [List.getElem?_set]
      split
      · rename_i e
        subst e
        split
        · rename_i hl
          rw [List.getElem?_eq_getElem hl] at h2 ⊢
          simpa using h2.symm
        · rename_i hl
          rw [List.getElem?_eq_none (by omega)]
      · rfl
    show setAll (out.set _ false) ms false = out
    rw [h1]
    exact setAll_same ms out fun x hx => h x (by simp [hx])
theorem setAll_get (j : Nat) (b : Bool) : ∀ (ms : List Int) (out : List Bool), (∀ m ∈ ms, (m - 1).toNat ≠ j) → (setAll out ms b)[j]? = out[j]?
  | [], _, _ => rfl
  | m :: ms, out, h => by
    show (setAll (out.set _ b) ms b)[j]? = _
    rw [setAll_get j b ms _ fun x hx => h x (by simp [hx]), List.getElem?_set_ne (h m (by simp))]
/-- A section that is in none of the first k groups isn't dropped by them. -/
theorem dropTo_out {l : List ObjD} {i : Nat} {o : ObjD} {j : Nat} : ∀ k, (∀ (a : Nat) (g : GroupD), a < k → o.groups[a]? = some g → ∀ m ∈ g.members, (m - 1).toNat ≠ j) → (dropTo l i o k)[j]?.getD false = false
  | 0, _ => by
    unfold dropTo
    rw [List.getElem?_replicate]
    split <;> rfl
  | k + 1, h => by
    have ih := dropTo_out (l := l) (i := i) k fun a g ha => h a g (by omega)
    unfold dropTo
    cases hg : o.groups[k]? with
    | none => exact ih
    | some g =>
      simp only
      cases metB l i k (symName o g.sym) with
      | false => exact ih
      | true =>
        show (setAll _ _ _)[j]?.getD false = false
        rw [setAll_get j true _ _ (h k g (by omega) hg)]
        exact ih
theorem dropOwnTo_eq {l : List ObjD} {i : Nat} {o : ObjD} (h1 : OneGroup o) (h2 : MemOK o) : ∀ k, dropOwnTo l i o k = dropTo l i o k
  | 0 => rfl
  | k + 1 => by
    unfold dropOwnTo dropTo
    rw [dropOwnTo_eq h1 h2 k]
    cases hg : o.groups[k]? with
    | none => rfl
    | some g =>
      simp only
      cases metB l i k (symName o g.sym) with
      | true => rfl
      | false =>
        show setAll _ _ false = _
        refine setAll_same _ _ fun m hm => dropTo_out k fun a g' ha hg' n hn => ?_
        have hm1 := h2 g (List.mem_of_getElem? hg) m hm
        have hn1 := h2 g' (List.mem_of_getElem? hg') n hn
        have := h1 a k g' g hg' hg ha m hm n hn ⟨hm1.1, hn1.1⟩
        omega
end Go.Proofs.YthnkehdcolnegaaGreat
