/-
  Parts of a proof.
-/
import Derived.Test.YteopgmieindojaaGreatGW02
import Derived.Test.YteopgmieindojaaGreatShapeA
import Derived.Test.YteopgmieindojaaGreatMem
import Derived.LoopTactic
import Derived.Lib.Hide
import Derived.Outline
import Derived.WalkSpells
import Derived.OwnWalk
import Derived.Deep.RegionHeld3
import Derived.Deep.AppendLies
import Derived.Deep.QuietTactic
import Derived.BigQuiet
namespace Go.Proofs.YteopgmieindojaaGreat
open Go.RowKit
theorem findIn_sym {l : List ObjD} {n : Nat} {D : List (List Bool)} {name : ByteArray} {d : DefD} (h : findIn (allTo ObjD.syms l n) D name = some d) : ∃ ob y, l[d.obj]? = some ob ∧ ob.syms[d.sym]? = some y ∧ definesB y (drAt D d.obj) = true ∧ y.name = name ∧ (y.bind = 1 ∨ y.bind = 2) := by
 have hh : ∀ b, headD name (hitsIn (allTo ObjD.syms l n) D name b) = some d → ∃ ob y, l[d.obj]? = some ob ∧ ob.syms[d.sym]? = some y ∧ definesB y (drAt D d.obj) = true ∧ y.name = name ∧ y.bind = b := fun b h => by
  unfold headD at h
  cases hq : (hitsIn (allTo ObjD.syms l n) D name b).head? with
  | none => rw [hq] at h; cases h
  | some x =>
   rw [hq] at h
   have hm : x ∈ hitsIn (allTo ObjD.syms l n) D name b := List.mem_of_mem_head? hq
   obtain ⟨h1, h2⟩ := List.mem_filter.1 hm
   unfold isHit at h2
   simp only [Bool.and_eq_true, beq_iff_eq] at h2
   obtain ⟨i, k, s⟩ := x
   obtain ⟨_, ob, h3, h4⟩ := allTo_mem.1 h1
   cases h
   exact ⟨ob, s, h3, h4, h2.1, sEq_iff.1 h2.2.1, h2.2.2⟩
 unfold findIn at h
 cases h1 : headD name (hitsIn (allTo ObjD.syms l n) D name 1) with
 | some d' =>
  rw [h1] at h
  cases h
  obtain ⟨ob, y, a, b, c, e, f⟩ := hh 1 h1
  exact ⟨ob, y, a, b, c, e, .inl f⟩
 | none =>
  rw [h1] at h
  obtain ⟨ob, y, a, b, c, e, f⟩ := hh 2 h
  exact ⟨ob, y, a, b, c, e, .inr f⟩
def symAt2 (l : List ObjD) (o s : Nat) : Option SymD := match l[o]? with | some ob => ob.syms[s]? | none => none
def whereIn (l : List ObjD) (D : List (List Bool)) (o : Nat) (x : SymD) : PlaceD × Int := bif x.bind == 0 then ownPl D o x else match findIn (allTo ObjD.syms l l.length) D x.name with
 | some d => (match symAt2 l d.obj d.sym with | some y => ownPl D d.obj y | none => (⟨0, 0, 0⟩, 1))
 | none => bif x.bind == 2 then (⟨0, 0, 0⟩, 0) else (⟨0, 0, 0⟩, 4)
def whereB (l : List ObjD) (D : List (List Bool)) (o s : Int) : PlaceD × Int := if o < 0 ∨ (l.length : Int) ≤ o ∨ s < 0 then (⟨0, 0, 0⟩, 1) else match symAt2 l o.toNat s.toNat with
 | some x => whereIn l D o.toNat x
 | none => (⟨0, 0, 0⟩, 1)
end Go.Proofs.YteopgmieindojaaGreat

namespace Go.Proofs.YteopgmieindojaaGreat
open Go.RowKit
abbrev objV (v0 v1 v2 : Value) (sig : Bool) (v4 : Value) : Value := .agg #[v0, v1, v2, .bool sig, v4]
def memberN (gs : List GroupD) (n : Int) : Nat := (gs.map fun g => g.members.count n).sum
end Go.Proofs.YteopgmieindojaaGreat

namespace Go.Proofs.YteopgmieindojaaGreat
open Go.RowKit
def wid (n : Int) : Bool := n == 1 || n == 2 || n == 4 || n == 8
theorem wid_iff (n : Int) : wid n = true ↔ n = 1 ∨ n = 2 ∨ n = 4 ∨ n = 8 := by simp [wid, or_assoc]
theorem ret_b {a b : Bool} (h : a = b) : Ending.returned (.bool a) = .returned (.bool b) := by rw [h]
def win (l : List UInt8) (at_ n : Nat) : List UInt8 := (l.take (at_ + n)).drop at_
theorem win_length (l : List UInt8) (at_ n : Nat) (h : at_ + n ≤ l.length) : (win l at_ n).length = n := by simp [win]; omega
theorem win_get (l : List UInt8) (at_ n i : Nat) (hi : i < n) : (win l at_ n)[i]? = l[at_ + i]? := by
 simp only [win, List.getElem?_drop, List.getElem?_take]
 rw [if_pos (by omega)]
theorem has_win {w : World} {b off : Nat} {l : List UInt8} (h : Has w (some ⟨b, off, none⟩) l) (j k : Nat) (hj : j + k ≤ l.length) : Has w (some ⟨b, off + j, none⟩) (win l j k) := Has.of_plain fun i x hx => by
 have hi : i < k := by
  have := (List.getElem?_eq_some_iff.1 hx).1
  rwa [win_length l j k hj] at this
 rw [win_get l j k i hi] at hx
 have hl : 0 < l.length := by have := (List.getElem?_eq_some_iff.1 hx).1; omega
 obtain ⟨b', off', e, hcell⟩ := h.plain hl
 simp only [Option.some.injEq, Addr.mk.injEq, and_true] at e
 obtain ⟨rfl, rfl⟩ := e
 rw [Nat.add_assoc]
 exact hcell _ _ hx
end Go.Proofs.YteopgmieindojaaGreat

namespace Go.Proofs.YteopgmieindojaaGreat
open Go.RowKit
def fitsB (n : Int) : Bool := decide (0 ≤ n) && decide (n ≤ 2147483647)
theorem fitsB_iff (n : Int) : fitsB n = true ↔ 0 ≤ n ∧ n ≤ 2147483647 := by simp [fitsB]
def u64n (v : Int) : Nat := (v % 18446744073709551616).toNat
theorem u64n_nat (v : Nat) (h : v < 18446744073709551616) : u64n v = v := by unfold u64n; omega
theorem u64n_lt (v : Int) : u64n v < 18446744073709551616 := by unfold u64n; omega
def numsB : List Int → List UInt8
 | v :: n :: r => leB n.toNat (u64n v) ++ numsB r
 | _ => []
theorem numsB_append : ∀ a b : List Int, a.length % 2 = 0 → numsB (a ++ b) = numsB a ++ numsB b
 | [], _, _ => rfl
 | [x], _, h => by simp at h
 | v :: n :: r, b, h => by
  have ih := numsB_append r b (by simp at h; omega)
  simp [numsB, ih]
theorem numsB_two {xs : List Int} {k : Nat} {v n : Int} (hv : xs[2 * k]? = some v) (hn : xs[2 * k + 1]? = some n) : numsB (xs.take (2 * (k + 1))) = numsB (xs.take (2 * k)) ++ leB n.toNat (u64n v) := by
 have hl : 2 * k < xs.length := (List.getElem?_eq_some_iff.1 hv).1
 have e : xs.take (2 * (k + 1)) = xs.take (2 * k) ++ [v, n] := by
  rw [show 2 * (k + 1) = 2 * k + 1 + 1 by omega, List.take_add_one, List.take_add_one, hv, hn]
  simp
 rw [e, numsB_append _ _ (by simp; omega)]
 simp [numsB]
theorem apart_own {w : World} {base b : Nat} {e : TypeId} {s n : Nat} {v : Value} {xs : List Value} (h : w.ownsRow base e s v n xs) (hb : b < base) : some b ≠ v.ownBlock := fun e => by
 have := (h.lt _ e.symm).1
 omega
theorem conv_u64 (v : Int) : IntKind.u64.wrap v = (u64n v : Int) := by
 have h : IntKind.u64.wrap v = v % 18446744073709551616 := by simp [IntKind.wrap, IntKind.signed, IntKind.bits]
 rw [h]
 unfold u64n
 omega
end Go.Proofs.YteopgmieindojaaGreat

namespace Go.Proofs.YteopgmieindojaaGreat
open Go.RowKit
def ident : List UInt8 := [127, 69, 76, 70, 2, 1, 1, 0, 0, 0, 0, 0, 0, 0, 0, 0]
def hdrL (a m n : Int) : List Int := [1, 2, 62, 2, 1, 4, 0, 8, 0, 8, a, 8, 0, 4, 64, 2, 0, 2, 0, 2, 64, 2, m, 2, n, 2]
def hdrB (a m n : Nat) : List UInt8 := ident ++ numsB (hdrL a m n)
def mayH (a m n : Int) : Prop := 0 ≤ a ∧ a ≤ 2147483647 ∧ 1 ≤ m ∧ m ≤ 65535 ∧ 1 ≤ n ∧ n < m
theorem hdrB_length (a m n : Nat) : (hdrB a m n).length = 64 := rfl
instance (a m n : Int) : Decidable (mayH a m n) := by unfold mayH; infer_instance
theorem lit_owns (w : World) (l : List UInt8) (n : Nat) (cs : Array Value) (h : cs = (l.map u8v).toArray) (hn : l.length = n) (hm : n ≤ maxLen) :
  (w.alloc (.cells cs 5)).ownsRow w.heap.size 5 1 (.slice (some ⟨w.heap.size, 0, none⟩) n n) n (l.map u8v) := by
 subst hn
 have hs : cs.size = l.length * 1 := by rw [h]; simp
 have := World.ownsRow_lit (base := w.heap.size) (e := 5) (size := 1) w cs l.length (Nat.le_refl _) hm hs
 rw [h] at this ⊢
 exact this
theorem hdr_wid (a m n : Int) : ∀ (i : Nat) (x : Int), (hdrL a m n)[2 * i + 1]? = some x → wid x = true := fun i x hx => by
 have hi : i < 13 := by have := (List.getElem?_eq_some_iff.1 hx).1; simp [hdrL] at this; omega
 match i, hi, hx with
 | 0, _, hx | 1, _, hx | 2, _, hx | 3, _, hx | 4, _, hx | 5, _, hx | 6, _, hx | 7, _, hx | 8, _, hx | 9, _, hx | 10, _, hx | 11, _, hx | 12, _, hx => simp [hdrL] at hx; subst hx; rfl
theorem hdr_bd {a m n : Int} (h1 : 0 ≤ a ∧ a ≤ 2147483647) (h2 : 0 ≤ m ∧ m ≤ 2147483647) (h3 : 0 ≤ n ∧ n ≤ 2147483647) : ∀ (i : Nat) (x : Int), (hdrL a m n)[i]? = some x → -9223372036854775808 ≤ x ∧ x ≤ 9223372036854775807 := fun i x hx => by
 have := List.mem_of_getElem? hx
 simp only [hdrL, List.mem_cons, List.not_mem_nil, or_false] at this
 omega
end Go.Proofs.YteopgmieindojaaGreat

namespace Go.Proofs.YteopgmieindojaaGreat
open Go.RowKit
def numI (l : List UInt8) (at_ n : Nat) : Int := if num (win l at_ n) ≤ 2147483647 then (num (win l at_ n) : Int) else -1
structure Ten where
 (a b c d e f g h i j : Int)
def Ten.l (t : Ten) : List Int := [t.a, t.b, t.c, t.d, t.e, t.f, t.g, t.h, t.i, t.j]
abbrev Ten.v (t : Ten) : Value := .agg #[.int .i64 t.a, .int .i64 t.b, .int .i64 t.c, .int .i64 t.d, .int .i64 t.e, .int .i64 t.f, .int .i64 t.g, .int .i64 t.h, .int .i64 t.i, .int .i64 t.j]
def Ten.nums (t : Ten) : List Int := [t.a, 4, t.b, 4, t.c, 8, t.d, 8, t.e, 8, t.f, 8, t.g, 4, t.h, 4, t.i, 8, t.j, 8]
def sectB (t : Ten) : List UInt8 := numsB t.nums
def Ten.may (t : Ten) : Prop := ∀ x ∈ t.l, fitsB x = true
instance (t : Ten) : Decidable t.may := by unfold Ten.may; infer_instance
end Go.Proofs.YteopgmieindojaaGreat
