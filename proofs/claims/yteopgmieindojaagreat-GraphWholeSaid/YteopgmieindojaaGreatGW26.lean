/-
  Parts of a proof.
-/
import Derived.Test.YteopgmieindojaaGreatGW06
namespace Go.Proofs.YteopgmieindojaaGreat
open Go.RowKit
def eachB {α : Type} (f : Nat → α → Bool) (l : List α) : Bool := l.zipIdx.all fun p => f p.2 p.1
theorem eachB_no {α : Type} {f : Nat → α → Bool} {l : List α} {i : Nat} {x : α} (h : l[i]? = some x) (hf : f i x = false) : eachB f l = false := by
 unfold eachB
 rw [Bool.eq_false_iff]
 intro hc
 have := List.all_eq_true.1 hc (x, i) (List.mem_zipIdx_iff_getElem?.2 h)
 simp only at this
 rw [hf] at this
 cases this
theorem eachB_take {α : Type} {f : Nat → α → Bool} {l : List α} {i : Nat} {x : α} (h : l[i]? = some x) : eachB f (l.take (i + 1)) = (eachB f (l.take i) && f i x) := by
 have hi := (List.getElem?_eq_some_iff.1 h).1
 have e0 : (l.take i).length = i := by simp; omega
 unfold eachB
 rw [List.take_add_one, h]
 simp [List.zipIdx_append, e0]
theorem eachB_all {α : Type} {f : Nat → α → Bool} {l : List α} : eachB f (l.take l.length) = eachB f l := by rw [List.take_length]
def memPrev (ms : List Int) (k : Nat) (x : Int) : Bool := match k with
 | 0 => true
 | j + 1 => decide (ms.getD j 0 < x)
def memOK (ql : Nat) (ms : List Int) (k : Nat) (x : Int) : Bool := decide (1 ≤ x) && decide (x ≤ (ql : Int)) && memPrev ms k x
def grpOK (ql yl : Nat) (g : GroupD) : Bool := decide (1 ≤ g.sym) && decide (g.sym < (yl : Int)) && decide (0 < g.members.length) && eachB (memOK ql g.members) g.members
def symOK (o : ObjD) (k : Nat) (s : SymD) : Bool := match k with
 | 0 => sym0B s
 | j + 1 => match o.syms[j]? with
  | none => true
  | some p => symNB o.secs p.bind s
def sigOK (yl : Nat) (x : Int) : Bool := decide (0 ≤ x) && decide (x < (yl : Int))
def headOK (o : ObjD) : Bool := decide (o.secs.length ≤ 32) && decide (1 ≤ o.syms.length) && decide (o.syms.length ≤ 128) && (o.hasSig || o.sig.length == 0)
def shapeB (o : ObjD) : Bool := headOK o && eachB (fun _ => grpOK o.secs.length o.syms.length) o.groups && eachB (secOK o.secs.length o.syms.length o.groups) o.secs && eachB (symOK o) o.syms && eachB (fun _ => sigOK o.syms.length) o.sig
end Go.Proofs.YteopgmieindojaaGreat
