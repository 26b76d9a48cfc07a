/-
  Parts of a proof.
-/
import Derived.Test.YteopgmieindojaaGreatGW10
import Derived.Test.YteopgmieindojaaGreatGW06
namespace Go.Proofs.YteopgmieindojaaGreat
open Go.RowKit
def NRel (N : Nat) (w : World) (v : Value) (ys : List NodeD) : Prop := ∃ ns : List NodeV, w.ownsRow N 86 14 v ys.length (ns.flatMap NodeV.cells) ∧ (∀ n ∈ ns, n.ok N w ∧ n.e = .slice none 0 0 ∧ n.x.edges = []) ∧ ns.map NodeV.x = ys
theorem NRel.below {N : Nat} {w w' : World} {v : Value} {ys : List NodeD} (h : NRel N w v ys) (hb : Below w.heap.size w w') : NRel N w' v ys := by
 obtain ⟨ns, h1, h2, h3⟩ := h
 exact ⟨ns, owns_belowN h1 hb, fun n hn => ⟨(h2 n hn).1.below hb, (h2 n hn).2⟩, h3⟩
theorem NRel.nil (N : Nat) (w : World) : NRel N w (.slice none 0 0) [] := ⟨[], World.ownsRow_nil _ _ _ _, (fun n hn => absurd hn (by simp)), rfl⟩
theorem Tryz.infoNode : (Tryz.prog.info? 86).map (fun i => (i.zero, i.size, i.bytes)) = some (some (.agg #[.int .i64 0, .int .i64 0, .int .i64 0, .string ⟨#[]⟩, .int .i64 0, .int .i64 0, .int .i64 0, .int .i64 0, .int .i64 0, .slice none 0 0, .slice none 0 0, .bool false, .int .i64 0, .int .i64 0]), 14, 152) := by kernel_rfl
theorem take_snocQ {α : Type} {l : List α} {k : Nat} {x : α} (h : l[k]? = some x) : l.take (k + 1) = l.take k ++ [x] := by
 rw [List.take_succ_eq_append_getElem (List.getElem?_eq_some_iff.1 h).1, (List.getElem?_eq_some_iff.1 h).2]
theorem flat_le {α β : Type} {f : α → List β} {M : Nat} : ∀ {l : List α}, (∀ x ∈ l, (f x).length ≤ M) → (l.flatMap f).length ≤ l.length * M
 | [], _ => by simp
 | x :: l, h => by
  have ih := flat_le (l := l) fun y hy => h y (by simp [hy])
  have := h x (by simp)
  rw [List.flatMap_cons, List.length_append, List.length_cons, Nat.succ_mul]
  omega
set_option maxRecDepth 100000 in
theorem pieces_few {l : List ObjD} {D : List (List Bool)} (hs : SecsG l) (hok : ∀ o ∈ l, OkD o) (i k : Nat) : (nodesOf l D (atTo ObjD.secs l i k)).length ≤ (i + 1) * 16384000 := by
 rw [nodesOf_length]
 have h1 : (atTo ObjD.secs l i k).length ≤ (i + 1) * 1000 := by
  unfold atTo
  rw [List.length_append, Nat.succ_mul]
  have h2 := allTo_len (f := ObjD.secs) (l := l) (M := 1000) (fun o ho => (hok o ho).few.1) i
  cases ho : l[i]? with
  | none => simp; omega
  | some o =>
   simp only
   have h3 := (hok o (List.mem_of_getElem? ho)).few.1
   have h4 : ((tagged ObjD.secs i o).take k).length ≤ o.secs.length := by rw [List.length_take, tagged_length]; omega
   omega
 have h5 := flat_le (f := pcsAt D) (M := 16384) (l := atTo ObjD.secs l i k) fun x hx => by
  obtain ⟨_, o, ho, hx2⟩ := atTo_mem.1 (show (x.1, x.2.1, x.2.2) ∈ _ from hx)
  unfold pcsAt
  cases hasN D x with
  | false => simp
  | true => exact (pieces_facts (hs o (List.mem_of_getElem? ho) x.2.2 (List.mem_of_getElem? hx2)).facts).2.1
 have h6 : (atTo ObjD.secs l i k).length * 16384 ≤ (i + 1) * 1000 * 16384 := Nat.mul_le_mul_right _ h1
 omega
theorem cells_new (w : World) (l : List Value) (T : TypeId) : ∀ j u, l[j]? = some u → (w.alloc (.cells l.toArray T)).cell? ((⟨w.heap.size, 0, none⟩ : Addr).add j) = some u := fun j u h => by
 have ha : (⟨w.heap.size, 0, none⟩ : Addr).add j = ⟨w.heap.size, j, none⟩ := by unfold Addr.add; split <;> simp_all
 rw [ha, cell_of_row _ w.heap.size j l.toArray T (0, 0) (heap_alloc_new w _)]
 simpa using h
theorem fourteen_one (a0 a1 a2 a4 a5 a6 a7 a8 a12 a13 : Int) (a3 : ByteArray) (p9 p10 : Option Addr) (n9 c9 n10 c10 : Nat) (a11 : Bool) : ∀ u ∈ [Value.int .i64 a0, .int .i64 a1, .int .i64 a2, .string a3, .int .i64 a4, .int .i64 a5, .int .i64 a6, .int .i64 a7, .int .i64 a8, .slice p9 n9 c9, .slice p10 n10 c10, .bool a11, .int .i64 a12, .int .i64 a13], u.oneCell' = true := fun u hu => by
 simp only [List.mem_cons, List.not_mem_nil, or_false] at hu
 rcases hu with rfl | rfl | rfl | rfl | rfl | rfl | rfl | rfl | rfl | rfl | rfl | rfl | rfl | rfl <;> rfl
set_option maxRecDepth 100000 in
theorem group_bd {l : List ObjD} (hok : ∀ o ∈ l, OkD o) (i : Nat) (hlc : i ≤ 1000) (n : Int) : i64bd (groupB l i n) := by
 have h1 : (allTo ObjD.groups l i).length ≤ 1000 * 100000 := Nat.le_trans (allTo_len (fun o ho => (hok o ho).few.2.2.1) i) (Nat.mul_le_mul_right _ hlc)
 have h2 : ∀ k, 0 ≤ groupTo l i (obAt l i) n k ∧ groupTo l i (obAt l i) n k ≤ 100000000 + (k : Int) := fun k => by
  induction k with
  | zero => simp [groupTo]
  | succ k ih =>
   unfold groupTo
   cases (obAt l i).groups[k]? with
   | none => simp only; omega
   | some g =>
    simp only
    cases g.members.contains n <;> simp only [cond_true, cond_false] <;> omega
 have h3 : (obAt l i).groups.length ≤ 100000 := by
  unfold obAt
  cases hq : l[i]? with
  | none => simp
  | some o => exact (hok o (List.mem_of_getElem? hq)).few.2.2.1
 have := h2 (obAt l i).groups.length
 unfold i64bd groupB
 omega
theorem lit0_q (w : World) (T : TypeId) : (w.alloc (.cells #[] T)).ownsRow w.heap.size T 1 (.slice (some ⟨w.heap.size, 0, none⟩) 0 0) 0 (([] : List UInt8).map u8v) :=
 ⟨rfl, .inr ⟨w.heap.size, 0, #[], rfl, Nat.le_refl _, heap_alloc_new w _, Nat.le_refl _, Nat.zero_le _, rfl, rfl⟩⟩
theorem has_slice {w : World} {ad : Addr} {l : List UInt8} {A Z : Nat} (h : HasL 1 EByte w (some ad) l) (hl : A + Z ≤ l.length) : Has w (some (ad.add A)) (win l A Z) := by
 by_cases hz : Z = 0
 ·subst hz
  have : win l A 0 = [] := List.eq_nil_of_length_eq_zero (win_length l A 0 hl)
  rw [this]
  exact fun i x hx => by simp at hx
 ·obtain ⟨b, off, x, e, _⟩ := h.at_ (i := 0) (by omega)
  cases e
  have := has_win h.has A Z hl
  unfold Addr.add
  split
  ·rename_i hA
   subst hA
   simpa using this
  ·exact this
end Go.Proofs.YteopgmieindojaaGreat
