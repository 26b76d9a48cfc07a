/-
  Words on append to a full slice of bytes (its capacity is its length): the bytes behind each other, what was there stands. They name types of the program, none of its functions.
-/
import Derived.Test.YtbedbkifdhjdfaaDoorMem
import Derived.Maps.AppendAt
namespace Go.Proofs.YtbedbkifdhjdfaaDoor
open Go.RowKit

theorem below_grow (w : World) (o : Obj) : Below w.heap.size w (w.drew.alloc o) := (Below.refl _ w).drew.alloc (by simp) o

/-- append(s, x...), s full and not empty, x nil or not. -/
theorem run_append_full {P : Program} (w : World) (t ty e : TypeId) (i : TypeInfo) (z : Value) (ht : P.underlying t = some (.slice e)) (hi : P.info? e = some i) (hz : i.zero = some z) (hs : i.size = 1) (hb : i.bytes = 1)
    (p q : Option Addr) (n m c : Nat) (l r : List UInt8) (hp : Has w p l) (hq : Has w q r) (hl : l.length = n) (hr : r.length = m) (hn : 0 < n) (hcq : q = none → c = 0 ∧ m = 0) (hbig : n + m ≤ 1000000000) :
    ∃ v' w', (Builtin.append_ #[t, t] ty #[.slice p n n, .slice q m c]).run P w = .ok v' w' ∧ (∃ p' c', v' = .slice p' (n + m) c' ∧ n + m ≤ c' ∧ Has w' p' (l ++ r) ∧ Below w.heap.size w w') := by
  obtain ⟨b, off, rfl, hcell⟩ := hp.plain (by omega)
  rcases Nat.eq_zero_or_pos m with h0 | h0
  · subst h0
    obtain rfl : r = [] := List.eq_nil_of_length_eq_zero hr
    refine ⟨.slice (some ⟨b, off, none⟩) n n, w, ?_, _, _, rfl, Nat.le_refl _, by simpa using hp, Below.refl _ _⟩
    rcases q with _ | q
    · simp [Builtin.append_, run_underlying ht, sizeOf, typeInfo, hi, Builtin.lenOf, Builtin.firstCells, storeCells]
    · simp [Builtin.append_, run_underlying ht, sizeOf, typeInfo, hi, Builtin.lenOf, Builtin.firstCells, storeCells, loadCells, loadCellsFrom]
  · obtain ⟨b2, off2, rfl, _⟩ := hq.plain (by omega)
    have hg := run_append_grow (P := P) (w := w) t ty e i z ht hi hz ⟨b, off, none⟩ n n (l.map u8v) (by simp [hs, hl]) hp.cells ⟨b2, off2, none⟩ m c (r.map u8v) (by simp [hs, hr]) hq.cells (by omega) (by omega) (by rw [hb]; have := nextslicecap_le (need := n + m) (old := n) (by omega); omega)
    refine ⟨_, _, hg, _, _, rfl, grownCap_ge w (n + m) n e, ?_, below_grow w _⟩
    refine Has.of_plain fun j x hx => ?_
    have hx' : (l.map u8v ++ r.map u8v)[j]? = some (u8v x) := by rw [← List.map_append, List.getElem?_map, hx]; rfl
    have hj : j < (l.map u8v ++ r.map u8v).length := (List.getElem?_eq_some_iff.1 hx').1
    refine (cell_of_row _ w.heap.size (0 + j) _ e (0, 0) (heap_alloc_new w.drew _)).trans ?_
    rw [Nat.zero_add, ← Array.getElem?_toList, Array.toList_append, Array.toList_append, List.getElem?_append_left (by simpa using hj)]
    exact hx'

theorem wpList_append_full {P : Program} (w : World) {ops : Array Oper} {rest : List Oper} {o : Oper} {a : Act} {Q : Exit → Act → World → Prop} (hgd : o.guard = none) (s x : Operand) (t : TypeId)
    (ho : o.op = .call { callee := .builtin .append, args := #[s, x], argTypes := #[t, t] })
    (e : TypeId) (i : TypeInfo) (z : Value) (ht : P.underlying t = some (.slice e)) (hi : P.info? e = some i) (hz : i.zero = some z) (hs : i.size = 1) (hb : i.bytes = 1)
    (p q : Option Addr) (n m c : Nat) (l r : List UInt8) (hes : a.eval s = .slice p n n) (hex : a.eval x = .slice q m c) (hp : Has w p l) (hq : Has w q r) (hl : l.length = n) (hr : r.length = m) (hn : 0 < n) (hcq : q = none → c = 0 ∧ m = 0) (hbig : n + m ≤ 1000000000)
    (h : ∀ p' c' w', n + m ≤ c' → Has w' p' (l ++ r) → Below w.heap.size w w' → wpList P ops Q rest (a.put o.dst (.slice p' (n + m) c')) w') : wpList P ops Q (o :: rest) a w := by
  refine wpList_plain hgd fun K hK => ?_
  obtain ⟨v', w', hrun, p', c', rfl, h1, h2, h3⟩ := run_append_full (P := P) w t o.type e i z ht hi hz hs hb p q n m c l r hp hq hl hr hn hcq hbig
  unfold Oper.wp execOp
  simp only [ho, resolve, invoke, builtin, Sem.run_bind, Sem.run_pure, Result.andThen_ok, List.map_toArray, List.map_cons, List.map_nil, hes, hex, hrun]
  exact hK _ _ (h p' c' w' h1 h2 h3)

/-- append to a row of the call's own, of a slice that came in or was made: nil or not. -/
theorem wpList_append_bytes {P : Program} (w : World) {ops : Array Oper} {rest : List Oper} {o : Oper} {a : Act} {Q : Exit → Act → World → Prop} (hgd : o.guard = none) (s x : Operand) (t : TypeId)
    (ho : o.op = .call { callee := .builtin .append, args := #[s, x], argTypes := #[t, t] })
    (base : Nat) (e : TypeId) (i : TypeInfo) (ht : P.underlying t = some (.slice e)) (hi : P.info? e = some i) (hz : i.zero = some (.int .u8 0)) (hs : i.size = 1) (hb : i.bytes = 1)
    (v : Value) (n : Nat) (l : List UInt8) (hes : a.eval s = v) (hown : w.ownsRow base e 1 v n (l.map u8v)) (q : Option Addr) (m c : Nat) (r : List UInt8) (hex : a.eval x = .slice q m c) (hq : Has w q r) (hr : r.length = m) (hcq : q = none → c = 0)
    (hbig : n + m ≤ 1000000000) (hbase : base ≤ w.heap.size)
    (h : ∀ v' w', w'.ownsRow base e 1 v' (n + m) ((l ++ r).map u8v) → w.grownBy w' v.ownBlock → (v'.ownBlock = v.ownBlock ∨ v'.ownBlock = some w.heap.size) → wpList P ops Q rest (a.put o.dst v') w') : wpList P ops Q (o :: rest) a w := by
  rcases q with _ | ad
  · have hr0 : r = [] := by
      cases r with
      | nil => rfl
      | cons y r => obtain ⟨a, e, _⟩ := hq 0 y rfl; cases e
    subst hr0
    have hm : m = 0 := hr.symm
    subst hm
    rw [hcq rfl] at hex
    exact wpList_append_own_none hgd s x t ho base e i 1 ht hi v n _ hes hown hex (h v w (by simpa using hown) (World.grownBy.refl w _) (.inl rfl))
  · exact wpList_append_own_at w hgd s x t ho base e i (.int .u8 0) 1 1 ht hi hz hs hb rfl (by decide) v n _ hes hown ad m c (r.map u8v) hex (by simp [hr]) hq.cells (map_oneCell _) (by unfold maxLen; omega) (by omega) hbase
      fun v' w' h1 h2 _ h4 => h v' w' (by rw [List.map_append]; exact h1) h2 h4

end Go.Proofs.YtbedbkifdhjdfaaDoor
