/-
  Contracts of the project's small readers of an object's bytes: told, isType, isListOf, word, sectionOf.
  What a call leaves as it was: all blocks below N, and all whose elements are of none of some types. A header's row. Nothing here walks the program.
  Contract: the reference's Make: the table of names, and their places.
  Contracts of the library's IndexByte, at strings and at slices of bytes whose cells are known.
-/
import Derived.Test.YtenmcmnhiejbgaaGreatObjMem
import Derived.Test.YtenmcmnhiejbgaaGreatJg02
import Derived.Test.YtenmcmnhiejbgaaGreatJg04
import Derived.Deep.QuietTactic
import Derived.BigQuiet
import Derived.Deep.DeepCutAuto
import Derived.Test.YtenmcmnhiejbgaaGreatJg03
import Derived.Deep.CutBlock
import Derived.Laws.Closers25
import Derived.Test.YtenmcmnhiejbgaaGreatMem
import Derived.Lib.BytesEntry
import Derived.Laws.Externs
namespace Go.Proofs.YtenmcmnhiejbgaaGreat
open Go.RowKit

/-- A section header's ten numbers, at a place of a block. -/
def ETen (w : World) (b o : Nat) (t : Ten) : Prop := w.cell? ⟨b, o, none⟩ = some (.int .i64 t.a) ∧ w.cell? ⟨b, o + 1, none⟩ = some (.int .i64 t.b) ∧ w.cell? ⟨b, o + 2, none⟩ = some (.int .i64 t.c) ∧ w.cell? ⟨b, o + 3, none⟩ = some (.int .i64 t.d) ∧ w.cell? ⟨b, o + 4, none⟩ = some (.int .i64 t.e) ∧
  w.cell? ⟨b, o + 5, none⟩ = some (.int .i64 t.f) ∧ w.cell? ⟨b, o + 6, none⟩ = some (.int .i64 t.g) ∧ w.cell? ⟨b, o + 7, none⟩ = some (.int .i64 t.h) ∧ w.cell? ⟨b, o + 8, none⟩ = some (.int .i64 t.i) ∧ w.cell? ⟨b, o + 9, none⟩ = some (.int .i64 t.j)
theorem ETen.keeps : Keeps ETen := fun _ _ _ _ _ hb ⟨h0, h1, h2, h3, h4, h5, h6, h7, h8, h9⟩ => ⟨keep_cell hb h0, keep_cell hb h1, keep_cell hb h2, keep_cell hb h3, keep_cell hb h4, keep_cell hb h5, keep_cell hb h6, keep_cell hb h7, keep_cell hb h8, keep_cell hb h9⟩
abbrev filP (F : Nat) : Value := .pointer (some ⟨F, 0, none⟩)
/-- Where the bytes from e on stand. -/
def tolP (bp : Option Addr) (bc e : Nat) : Option Addr := if bc = e then bp else bp.map (·.add e)
theorem tol_has {w : World} {bp : Option Addr} {bc e f : Nat} {l : List UInt8} (hl : Has w bp l) (h1 : l.length ≤ bc) (hef : e + f ≤ l.length) : Has w (tolP bp bc e) (win l e f) := hl.cut e (e + f) bc hef h1
theorem tol_none {bp : Option Addr} {bc e : Nat} (h3 : bp = none → bc = 0) (h : tolP bp bc e = none) : bc - e = 0 := by
  unfold tolP at h
  split at h
  · omega
  · rw [Option.map_eq_none_iff] at h
    have := h3 h
    omega
set_option maxRecDepth 100000 in
set_option maxHeartbeats 1000000 in
theorem told_any (F : Nat) (t : Ten) (bp : Option Addr) (bc bl e f : Nat) (w : World) (hc : w.cell? ⟨F, 0, none⟩ = some (.slice bp bl bc)) (h1 : bl ≤ bc) (_h2 : bc ≤ maxLen)
    (he : t.e = (e : Int)) (hf : t.f = (f : Int)) (hef : e + f ≤ bl) (hbig : bl ≤ 100000000) :
    Calls Tryz.prog 87 #[filP F, t.v] w fun e' w' => e' = .returned (.slice (tolP bp bc e) f (bc - e)) ∧ Below w.heap.size w w' := by
  have hb1 : Below w.heap.size w (w.alloc (.cells #[.int .i64 t.a, .int .i64 t.b, .int .i64 t.c, .int .i64 t.d, .int .i64 (e : Int), .int .i64 (f : Int), .int .i64 t.g, .int .i64 t.h, .int .i64 t.i, .int .i64 t.j] 104)) := (Below.refl _ w).alloc (Nat.le_refl _) _
  obtain ⟨_, _, _, _, s4, s5, _⟩ := cells_ten _ _ _ _ _ _ _ _ _ _ _ _ _ (heap_new w (.cells #[.int .i64 t.a, .int .i64 t.b, .int .i64 t.c, .int .i64 t.d, .int .i64 (e : Int), .int .i64 (f : Int), .int .i64 t.g, .int .i64 t.h, .int .i64 t.i, .int .i64 t.j] 104))
  have c0 := cell_later hb1 hc
  have k1 : IntKind.i64.wrap ((e : Int) + (f : Int)) = ((e + f : Nat) : Int) := by rw [show (e : Int) + (f : Int) = ((e + f : Nat) : Int) by omega]; exact IntWalk.i64_in _ (by omega)
  rw [show t.v = .agg #[.int .i64 t.a, .int .i64 t.b, .int .i64 t.c, .int .i64 t.d, .int .i64 (e : Int), .int .i64 (f : Int), .int .i64 t.g, .int .i64 t.h, .int .i64 t.i, .int .i64 t.j] by rw [← he, ← hf]]
  clear he hf hc
  go_enter Tryz.func87, Tryz.ntmps87
  go_upto_region 1 with fail
  generalize w.alloc (.cells #[.int .i64 t.a, .int .i64 t.b, .int .i64 t.c, .int .i64 t.d, .int .i64 (e : Int), .int .i64 (f : Int), .int .i64 t.g, .int .i64 t.h, .int .i64 t.i, .int .i64 t.j] 104) = W1 at *
  have hI1 : (e : Int) ≤ ((e + f : Nat) : Int) := by omega
  have hI2 : ((e + f : Nat) : Int) ≤ (bc : Int) := by omega
  by_cases hbe : bc = e
  · have hP : Hid (tolP bp bc e = bp) := Lib.hid (if_pos hbe)
    subst hbe
    obtain rfl : f = 0 := by omega
    go_quiet (fail)
    go_wp2_with fail
    go_ret
    rw [hP.out]
    exact ⟨by rw [Nat.sub_self]; rfl, below_drewN hb1 _⟩
  · have hP : Hid (tolP bp bc e = bp.map (·.add e)) := Lib.hid (if_neg hbe)
    go_quiet (fail)
    go_wp2_with fail
    go_ret
    rw [hP.out]
    exact ⟨(by show Ending.returned (.slice _ (e + f - e) _) = _; rw [Nat.add_sub_cancel_left]), below_drewN hb1 _⟩

/-- Is header n there, and of a type? -/
def isTy (L : List Ten) (n : Nat) (k : Int) : Bool := match L[n]? with
  | none => false
  | some t => t.b == k
set_option maxRecDepth 100000 in
set_option maxHeartbeats 1000000 in
theorem isType_any (F n : Nat) (k : Int) (hp : Option Addr) (hc : Nat) (L : List Ten) (w : World) (h1 : w.cell? ⟨F, 1, none⟩ = some (.slice hp L.length hc)) (hL : HasL 10 ETen w hp L)  :
    Calls Tryz.prog 85 #[filP F, .int .i64 (n : Int), .int .i64 k] w fun e w' => e = .returned (.bool (isTy L n k)) ∧ w' = w := by
  by_cases hlt : n < L.length
  · obtain ⟨b, off, t, rfl, ht, d0, d1, _⟩ := hL.at_ (i := n) hlt
    have hE : Hid (isTy L n k = (t.b == k)) := Lib.hid (by unfold isTy; rw [ht])
    have hI : (n : Int) < (L.length : Int) := by omega
    have hI0 : (0 : Int) ≤ (n : Int) := by omega
    generalize L.length = ln at *
    clear hL ht hlt
    go_enter Tryz.func85, Tryz.ntmps85
    go_wp2_with fail
    go_ret
    rw [hE.out]
    exact ⟨rfl, rfl⟩
  · have hE : Hid (isTy L n k = false) := Lib.hid (by unfold isTy; rw [List.getElem?_eq_none (by omega)])
    have hI : ¬ (n : Int) < (L.length : Int) := by omega
    generalize L.length = ln at *
    clear hL hlt
    go_enter Tryz.func85, Tryz.ntmps85
    go_wp2_with fail
    go_ret
    rw [hE.out]
    exact ⟨rfl, rfl⟩

set_option maxRecDepth 100000 in
set_option maxHeartbeats 1000000 in
theorem isListOf_any (t : Ten) (z : Int) (w : World) (hz : 0 < z) (hz2 : z ≤ 1000) :
    Calls Tryz.prog 89 #[t.v, .int .i64 z] w fun e w' => e = .returned (.bool ((t.j == z) && (t.f.tmod z == 0))) ∧ Below w.heap.size w w' := by
  have hb1 : Below w.heap.size w (w.alloc (.cells #[.int .i64 t.a, .int .i64 t.b, .int .i64 t.c, .int .i64 t.d, .int .i64 t.e, .int .i64 t.f, .int .i64 t.g, .int .i64 t.h, .int .i64 t.i, .int .i64 t.j] 104)) := (Below.refl _ w).alloc (Nat.le_refl _) _
  obtain ⟨_, _, _, _, _, s5, _, _, _, s9⟩ := cells_ten _ _ _ _ _ _ _ _ _ _ _ _ _ (heap_new w (.cells #[.int .i64 t.a, .int .i64 t.b, .int .i64 t.c, .int .i64 t.d, .int .i64 t.e, .int .i64 t.f, .int .i64 t.g, .int .i64 t.h, .int .i64 t.i, .int .i64 t.j] 104))
  have hz0 : (z == 0) = false := by simp; omega
  have hz1 : ¬ z = 0 := by omega
  go_enter Tryz.func89, Tryz.ntmps89
  go_upto_region 1 with fail
  generalize w.alloc (.cells #[.int .i64 t.a, .int .i64 t.b, .int .i64 t.c, .int .i64 t.d, .int .i64 t.e, .int .i64 t.f, .int .i64 t.g, .int .i64 t.h, .int .i64 t.i, .int .i64 t.j] 104) = W1 at *
  cases h : (t.j == z) with
  | true =>
    go_wp2_with fail
    go_ret
    exact ⟨by rw [h]; rfl, hb1⟩
  | false =>
    go_wp2_with fail
    go_ret
    exact ⟨by rw [h]; rfl, hb1⟩

theorem num_win4 (l : List UInt8) (a : Nat) : num (win l a 4) < 4294967296 := by
  have h := num_lt (win l a 4)
  have h2 : (win l a 4).length ≤ 4 := by simp [win]; omega
  have h3 : 256 ^ (win l a 4).length ≤ 256 ^ 4 := Nat.pow_le_pow_right (by omega) h2
  have e : (256 : Nat) ^ 4 = 4294967296 := by decide
  omega
set_option maxRecDepth 100000 in
set_option maxHeartbeats 1000000 in
theorem word_any (F a : Nat) (bp : Option Addr) (bc : Nat) (l : List UInt8) (w : World) (hc : w.cell? ⟨F, 0, none⟩ = some (.slice bp l.length bc)) (hl : Has w bp l) (h1 : l.length ≤ bc) (h2 : bc ≤ maxLen) (ha : a + 4 ≤ l.length) :
    Calls Tryz.prog 92 #[filP F, .int .i64 (a : Int)] w fun e w' => e = .returned (.int .i64 (num (win l a 4) : Int)) ∧ w = w' := by
  have hg := get_any bp l.length bc l a 4 w hl rfl h1 h2
  have hgb : getB l (a : Int) 4 = num (win l a 4) := by
    unfold getB
    rw [if_pos ((fitB_iff _ _ _).2 ⟨by omega, by omega, by omega⟩)]
    rfl
  rw [hgb] at hg
  have hn := num_win4 l a
  have HG := Lib.hid hg
  have kc : IntKind.i64.wrap (num (win l a 4) : Int) = (num (win l a 4) : Int) := IntWalk.i64_in _ (by omega)
  generalize num (win l a 4) = x at *
  generalize fitB l.length (a : Int) 4 = q at *
  clear hg hl hgb
  go_enter Tryz.func92, Tryz.ntmps92
  go_wp2_with fail
  refine HG.out.mono ?_
  rintro e w' ⟨rfl, rfl⟩
  go_wp2_with fail
  go_ret
  exact ⟨rfl, rfl⟩

set_option maxRecDepth 100000 in
set_option maxHeartbeats 1000000 in
theorem sectionOf_any (F n : Nat) (sp : Option Addr) (sc : Nat) (ns : List Int) (w : World) (h3 : w.cell? ⟨F, 3, none⟩ = some (.slice sp ns.length sc)) (hL : HasL 1 EInt w sp ns)  :
    Calls Tryz.prog 93 #[filP F, .int .i64 (n : Int)] w fun e w' => e = .returned (.int .i64 (ns[n]?.getD 0)) ∧ w = w' := by
  by_cases hlt : n < ns.length
  · obtain ⟨b, off, x, rfl, hx, d0, _⟩ := hL.at_ (i := n) hlt
    have hE : Hid (ns[n]?.getD 0 = x) := Lib.hid (by rw [hx]; rfl)
    have hI : ¬ (ns.length : Int) ≤ (n : Int) := by omega
    have hI2 : (n : Int) < (ns.length : Int) := by omega
    have hI0 : (0 : Int) ≤ (n : Int) := by omega
    rw [Nat.mul_one] at d0
    generalize ns.length = ln at *
    clear hL hx hlt
    go_enter Tryz.func93, Tryz.ntmps93
    go_wp2_with fail
    go_ret
    rw [hE.out]
    exact ⟨rfl, rfl⟩
  · have hE : Hid (ns[n]?.getD 0 = 0) := Lib.hid (by rw [List.getElem?_eq_none (show ns.length ≤ n by omega)]; rfl)
    have hI : (ns.length : Int) ≤ (n : Int) := by omega
    generalize ns.length = ln at *
    clear hL hlt
    go_enter Tryz.func93, Tryz.ntmps93
    go_wp2_with fail
    go_ret
    rw [hE.out]
    exact ⟨rfl, rfl⟩
end Go.Proofs.YtenmcmnhiejbgaaGreat

namespace Go.Proofs.YtenmcmnhiejbgaaGreat
open Go.RowKit

def tyOf : Obj → Option TypeId
  | .cells _ T _ => some T
  | _ => none
/-- What was there stands, but for blocks from N on that are of the types Ts. -/
structure FrT (N : Nat) (Ts : List TypeId) (w w' : World) : Prop where
  os : w'.os = w.os
  tape : w'.tape = w.tape
  output : w'.output = w.output
  size : w.heap.size ≤ w'.heap.size
  block : ∀ k o, w.heap[k]? = some o → (k < N ∨ ∀ T ∈ Ts, tyOf o ≠ some T) → w'.heap[k]? = some o
theorem FrT.refl (N : Nat) (Ts : List TypeId) (w : World) : FrT N Ts w w := ⟨rfl, rfl, rfl, Nat.le_refl _, fun _ _ h _ => h⟩
theorem FrT.trans {N : Nat} {Ts : List TypeId} {a b c : World} (h : FrT N Ts a b) (k : FrT N Ts b c) : FrT N Ts a c :=
  ⟨k.os.trans h.os, k.tape.trans h.tape, k.output.trans h.output, Nat.le_trans h.size k.size, fun i o hi ht => k.block i o (h.block i o hi ht) ht⟩
theorem FrT.mono {N : Nat} {Ts Us : List TypeId} {a b : World} (h : FrT N Ts a b) (hs : ∀ T ∈ Ts, T ∈ Us) : FrT N Us a b :=
  ⟨h.os, h.tape, h.output, h.size, fun i o hi ht => h.block i o hi (ht.imp id fun hu T hT => hu T (hs T hT))⟩
theorem FrT.of_below {N : Nat} {Ts : List TypeId} {w w' : World} (h : Below w.heap.size w w') : FrT N Ts w w' :=
  ⟨h.os, h.tape, h.output, h.size, fun k o hk _ => by rw [h.block k (Array.getElem?_eq_some_iff.1 hk).1]; exact hk⟩
theorem FrT.below {N : Nat} {Ts : List TypeId} {w w' : World} (h : FrT N Ts w w') (hN : N ≤ w.heap.size) : Below N w w' :=
  ⟨h.os, h.tape, h.output, h.size, fun k hk => by
    have hx : w.heap[k]? = some w.heap[k] := Array.getElem?_eq_getElem (by omega)
    rw [hx]
    exact h.block k _ hx (.inl hk)⟩
theorem FrT.heap {N : Nat} {Ts : List TypeId} {w w' : World} {k : Nat} {cs : Array Value} {T : TypeId} {m : Nat × Nat} (h : FrT N Ts w w') (hk : w.heap[k]? = some (.cells cs T m)) (hT : T ∉ Ts) : w'.heap[k]? = some (.cells cs T m) :=
  h.block k _ hk (.inr fun U hU e => by
    simp only [tyOf, Option.some.injEq] at e
    exact hT (e ▸ hU))
theorem FrT.owns {N : Nat} {Ts : List TypeId} {w w' : World} {B : Nat} {T : TypeId} {s n : Nat} {v : Value} {xs : List Value} (h : FrT N Ts w w') (ho : w.ownsRow B T s v n xs) (hT : T ∉ Ts) : w'.ownsRow B T s v n xs := by
  refine ⟨ho.1, ?_⟩
  rcases ho.2 with h0 | ⟨g, cap, cur, hv, hb, hg, rest⟩
  · exact .inl h0
  · exact .inr ⟨g, cap, cur, hv, hb, h.heap hg hT, rest⟩
theorem FrT.grown {N : Nat} {Ts : List TypeId} {w w' : World} {B : Nat} {T : TypeId} {s n : Nat} {v : Value} {xs : List Value} (ho : w.ownsRow B T s v n xs) (hg : w.grownBy w' v.ownBlock) (hT : T ∈ Ts) (hN : N ≤ B) : FrT N Ts w w' := by
  refine ⟨hg.os, hg.tape, hg.output, hg.size, fun k o hk ht => ?_⟩
  rw [hg.block k (Array.getElem?_eq_some_iff.1 hk).1 fun e => ?_]
  · exact hk
  · rcases ho.2 with ⟨rfl, _⟩ | ⟨g, cap, cur, rfl, hb, hg2, _⟩
    · simp [Value.ownBlock] at e
    · simp only [Value.ownBlock, Option.some.injEq] at e
      subst e
      rw [hk] at hg2
      cases hg2
      rcases ht with ht | ht
      · omega
      · exact ht T hT rfl
theorem FrT.set {N : Nat} {Ts : List TypeId} {w : World} {F i : Nat} {cs : Array Value} {T : TypeId} {m : Nat × Nat} (hF : w.heap[F]? = some (.cells cs T m)) (hT : T ∈ Ts) (hN : N ≤ F) (v : Value) : FrT N Ts w (w.setCell ⟨F, i, none⟩ v) := by
  refine ⟨rfl, rfl, rfl, by simp, fun k o hk ht => ?_⟩
  by_cases e : k = F
  · subst e
    rw [hk] at hF
    cases hF
    rcases ht with ht | ht
    · omega
    · exact absurd rfl (ht T hT)
  · rw [heap_setCell_other w ⟨F, i, none⟩ k v e]
    exact hk

/-- A row that was laid since grows: nothing of what was there is touched. -/
theorem FrT.grownNew {N : Nat} {Ts : List TypeId} {w w1 w2 : World} {r : Option Nat} (h : FrT N Ts w w1) (hg : w1.grownBy w2 r) (hr : ∀ k, r = some k → w.heap.size ≤ k) : FrT N Ts w w2 :=
  ⟨hg.os.trans h.os, hg.tape.trans h.tape, hg.output.trans h.output, Nat.le_trans h.size hg.size, fun k o hk ht => by
    have h1 := h.block k o hk ht
    rw [hg.block k (Array.getElem?_eq_some_iff.1 h1).1 fun e => by have := hr k e.symm; have := (Array.getElem?_eq_some_iff.1 hk).1; omega]
    exact h1⟩

/-! ## Rows of headers -/
def tensV (L : List Ten) : List Value := L.flatMap fun t => t.l.map (Value.int .i64)
theorem tensV_snoc (L : List Ten) (t : Ten) : tensV (L ++ [t]) = tensV L ++ t.l.map (Value.int .i64) := by simp [tensV]
theorem tensV_get : ∀ (L : List Ten) (i : Nat) (t : Ten) (c : Nat) (x : Int), L[i]? = some t → t.l[c]? = some x → (tensV L)[i * 10 + c]? = some (.int .i64 x)
  | [], i, t, c, x, h, _ => by simp at h
  | u :: L, 0, t, c, x, h, hc => by
    simp at h
    subst h
    show (u.l.map (Value.int .i64) ++ tensV L)[0 * 10 + c]? = _
    rw [Nat.zero_mul, Nat.zero_add, List.getElem?_append_left (by simpa using (List.getElem?_eq_some_iff.1 hc).1), List.getElem?_map, hc]
    rfl
  | u :: L, i + 1, t, c, x, h, hc => by
    have := tensV_get L i t c x (by simpa using h) hc
    show (u.l.map (Value.int .i64) ++ tensV L)[(i + 1) * 10 + c]? = _
    have hl : (u.l.map (Value.int .i64)).length = 10 := by simp [Ten.l]
    rw [List.getElem?_append_right (by omega), hl, show (i + 1) * 10 + c - 10 = i * 10 + c by omega]
    exact this
/-- A row of headers, as a reader sees it. -/
theorem tens_has {w : World} {B : Nat} {T : TypeId} {v : Value} {L : List Ten} (h : w.ownsRow B T 10 v L.length (tensV L)) : ∃ p c, v = .slice p L.length c ∧ L.length ≤ c ∧ c ≤ maxLen ∧ (p = none → c = 0) ∧ HasL 10 ETen w p L := by
  rcases h.2 with ⟨rfl, h0⟩ | ⟨g, cap, cur, rfl, hb, hg, h1, h2, _⟩
  · refine ⟨none, 0, by rw [h0], by omega, Nat.zero_le _, fun _ => rfl, fun i x hx => ?_⟩
    have := (List.getElem?_eq_some_iff.1 hx).1
    omega
  · refine ⟨some ⟨g, 0, none⟩, cap, rfl, h1, h2, (fun h => by cases h), fun i t ht => ⟨g, 0, rfl, ?_⟩⟩
    have hi := (List.getElem?_eq_some_iff.1 ht).1
    have hc : ∀ (c : Nat) (x : Int), c < 10 → t.l[c]? = some x → w.cell? ⟨g, 0 + i * 10 + c, none⟩ = some (.int .i64 x) := fun c x hc hx => by
      rw [Nat.zero_add, h.cellAt (i * 10 + c) (by omega)]
      exact tensV_get L i t c x ht hx
    exact ⟨hc 0 _ (by omega) rfl, hc 1 _ (by omega) rfl, hc 2 _ (by omega) rfl, hc 3 _ (by omega) rfl, hc 4 _ (by omega) rfl, hc 5 _ (by omega) rfl, hc 6 _ (by omega) rfl, hc 7 _ (by omega) rfl, hc 8 _ (by omega) rfl, hc 9 _ (by omega) rfl⟩
theorem cells5 (w : World) (g : Nat) (v0 v1 v2 v3 v4 : Value) (T : TypeId) (h : w.heap[g]? = some (.cells #[v0, v1, v2, v3, v4] T (0, 0))) :
    (w.cell? ⟨g, 0, none⟩ = some v0 ∧ w.cell? ⟨g, 1, none⟩ = some v1 ∧ w.cell? ⟨g, 2, none⟩ = some v2 ∧ w.cell? ⟨g, 3, none⟩ = some v3 ∧ w.cell? ⟨g, 4, none⟩ = some v4) ∧
    (w.frozen? ⟨g, 0, none⟩ = false ∧ w.frozen? ⟨g, 1, none⟩ = false ∧ w.frozen? ⟨g, 2, none⟩ = false ∧ w.frozen? ⟨g, 3, none⟩ = false ∧ w.frozen? ⟨g, 4, none⟩ = false) := by
  refine ⟨⟨?_, ?_, ?_, ?_, ?_⟩, ?_, ?_, ?_, ?_, ?_⟩
  all_goals first | exact (cell_of_row w g _ _ _ (0, 0) h).trans rfl | exact frozen_of_row w g _ _ _ h | fail
end Go.Proofs.YtenmcmnhiejbgaaGreat

namespace Go.Proofs.YtenmcmnhiejbgaaGreat
open Go.RowKit

/-- The call hands back a table and places, both in memory of its own. -/
def GivesT (ns : List Nm) (w : World) (e : Ending) (w' : World) : Prop :=
  ∃ v1 v2, e = .returned (.tuple #[v1, v2]) ∧ w'.ownsRow w.heap.size 5 1 v1 (tabOf ns).tb.length ((tabOf ns).tb.map u8v) ∧ w'.ownsRow w.heap.size 3 1 v2 (placesOf ns).length (natV (placesOf ns)) ∧ Below w.heap.size w w'

theorem placesOf_length (ns : List Nm) : (placesOf ns).length = ns.length := by simp [placesOf]
theorem zero_row (w : World) : (w.alloc (.cells #[.int .u8 0] 5)).ownsRow w.heap.size 5 1 (.slice (some ⟨w.heap.size, 0, none⟩) 1 1) 1 ([0].map u8v) :=
  World.ownsRow_lit w #[u8v 0] 1 (Nat.le_refl _) (by unfold maxLen; omega) rfl

theorem one_cell_at (w : World) (x : UInt8) : ∀ j z, [u8v x][j]? = some z → (w.alloc (.cells #[.int .u8 (x.toNat : Int)] 5)).cell? ((⟨w.heap.size, 0, none⟩ : Addr).add j) = some z := fun j z hj => by
  match j, hj with
  | 0, hj => simp at hj; subst hj; simp [Addr.add, u8v]
theorem one_cells (x : UInt8) : ∀ u ∈ [u8v x], u.oneCell' = true := fun u hu => by simp at hu; subst hu; rfl
theorem row_snoc2 (out : List UInt8) (d : UInt8) : out.map u8v ++ [u8v d] = (out ++ [d]).map u8v := by simp

end Go.Proofs.YtenmcmnhiejbgaaGreat

namespace Go.Proofs.YtenmcmnhiejbgaaGreat
open Go.RowKit

theorem idx_none {l : List UInt8} {c : UInt8} (h : ∀ (i : Nat) (y : UInt8), l[i]? = some y → y ≠ c) : Lib.indexByte l c = -1 := by
  induction l with
  | nil => rfl
  | cons x r ih =>
    have hx : (x == c) = false := by rw [beq_eq_false_iff_ne]; exact h 0 x rfl
    have := ih fun i y hy => h (i + 1) y (by simpa using hy)
    simp [Lib.indexByte, hx, this]
theorem idx_some {c : UInt8} : ∀ {l : List UInt8} {k : Nat}, (∀ (i : Nat) (y : UInt8), i < k → l[i]? = some y → y ≠ c) → l[k]? = some c → Lib.indexByte l c = k
  | [], _, _, h => by simp at h
  | x :: r, 0, _, h => by
    simp at h
    simp [Lib.indexByte, h]
  | x :: r, k + 1, hb, h => by
    have hx : (x == c) = false := by rw [beq_eq_false_iff_ne]; exact hb 0 x (by omega) rfl
    have := idx_some (c := c) (l := r) (k := k) (fun i y hi hy => hb (i + 1) y (by omega) (by simpa using hy)) (by simpa using h)
    have h2 : ((k : Int) == -1) = false := by rw [beq_eq_false_iff_ne]; omega
    simp [Lib.indexByte, hx, this, h2]
/-- A list has a first such byte, or none. -/
theorem first_of (c : UInt8) : ∀ l : List UInt8, (∃ k : Nat, l[k]? = some c ∧ ∀ (i : Nat) (y : UInt8), i < k → l[i]? = some y → y ≠ c) ∨ ∀ (i : Nat) (y : UInt8), l[i]? = some y → y ≠ c
  | [] => .inr fun i y h => by simp at h
  | x :: r => by
    by_cases hx : x = c
    · exact .inl ⟨0, by simp [hx], fun i y hi => absurd hi (by omega)⟩
    · rcases first_of c r with ⟨k, h1, h2⟩ | h
      · refine .inl ⟨k + 1, by simpa using h1, fun i y hi hy => ?_⟩
        match i, hy with
        | 0, hy => simp at hy; exact hy ▸ hx
        | i + 1, hy => exact h2 i y (by omega) (by simpa using hy)
      · refine .inr fun i y hy => ?_
        match i, hy with
        | 0, hy => simp at hy; exact hy ▸ hx
        | i + 1, hy => exact h i y (by simpa using hy)

theorem bytesOf_nums (l : List UInt8) : Lib.bytesOf (l.map fun x => (x.toNat : Int)) = l := by
  simp [Lib.bytesOf, List.map_map, Function.comp_def]
theorem run_idx {P : Program} {w : World} {b off : Nat} {l : List UInt8} (h : Has w (some ⟨b, off, none⟩) l) (n cap : Nat) (hn : l.length = n) (c : Int) :
    (Extern.BytealgIndexByte.indexByte #[.slice (some ⟨b, off, none⟩) n cap, .int .u8 c]).run P w = .ok (.int .i64 (Lib.indexByte l c.toNat.toUInt8)) w := by
  have := Lib.run_indexByteSlice (P := P) w b off n cap (l.map fun x => (x.toNat : Int)) (by simpa using hn) (fun i hi => by
    obtain ⟨a, e, hc⟩ := h i l[i] (List.getElem?_eq_getElem (by omega))
    cases e
    have ha : (⟨b, off, none⟩ : Addr).add i = ⟨b, off + i, none⟩ := by unfold Addr.add; split <;> simp_all
    rw [ha] at hc
    rw [hc]
    simp [List.getD, List.getElem?_eq_getElem (show i < l.length by omega)]) c
  rwa [bytesOf_nums] at this

set_option maxRecDepth 100000 in
theorem sIdx_any (s : ByteArray) (c : Int) (w : World) :
    Calls Tryz.prog 139 #[.string s, .int .u8 c] w fun e w' => e = .returned (.int .i64 (Lib.indexByte s.data.toList c.toNat.toUInt8)) ∧ w = w' := by
  go_enter Tryz.func139, Tryz.ntmps139
  go_wp2_with fail
  rw [run_callFunc_extern Tryz.func140 (by kernel_rfl) (by kernel_rfl) (by kernel_rfl) (e := Extern.BytealgIndexByte.indexByte) (by kernel_rfl), Lib.run_indexByteString]
  simp only [Result.andThen]
  rw [Oper.upon_value]
  go_wp2_with fail
  go_ret
  exact ⟨rfl, rfl⟩

set_option maxRecDepth 100000 in
theorem strIdx_any (s : ByteArray) (c : Int) (w : World) :
    Calls Tryz.prog 136 #[.string s, .int .u8 c] w fun e w' => e = .returned (.int .i64 (Lib.indexByte s.data.toList c.toNat.toUInt8)) ∧ w = w' := by
  have HC := Lib.hid (sIdx_any s c w)
  go_enter Tryz.func136, Tryz.ntmps136
  go_wp2_with fail
  refine HC.out.mono ?_
  rintro e w' ⟨rfl, rfl⟩
  go_wp2_with fail
  go_ret
  exact ⟨rfl, rfl⟩

set_option maxRecDepth 100000 in
theorem bIdx_any {w : World} {b off : Nat} {l : List UInt8} (h : Has w (some ⟨b, off, none⟩) l) (n cap : Nat) (hn : l.length = n) (c : Int) :
    Calls Tryz.prog 132 #[.slice (some ⟨b, off, none⟩) n cap, .int .u8 c] w fun e w' => e = .returned (.int .i64 (Lib.indexByte l c.toNat.toUInt8)) ∧ w = w' := by
  have hr := run_idx (P := Tryz.prog) h n cap hn c
  go_enter Tryz.func132, Tryz.ntmps132
  go_wp2_with fail
  rw [run_callFunc_extern Tryz.func138 (by kernel_rfl) (by kernel_rfl) (by kernel_rfl) (e := Extern.BytealgIndexByte.indexByte) (by kernel_rfl), hr]
  simp only [Result.andThen]
  rw [Oper.upon_value]
  go_wp2_with fail
  go_ret
  exact ⟨rfl, rfl⟩

end Go.Proofs.YtenmcmnhiejbgaaGreat
