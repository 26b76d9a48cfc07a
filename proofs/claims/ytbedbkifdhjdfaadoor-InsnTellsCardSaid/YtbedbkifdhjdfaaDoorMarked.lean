/-
  A row of bytes that the call owns and that bears the run-time's mark behind its last cell ('[]byte(s)'), and what is appended to it. It names nothing of the program.
-/
import Derived.Test.YtbedbkifdhjdfaaDoorAppend
import Derived.Laws.IdiomStrings
import Derived.Laws.CopyRow
namespace Go.Proofs.YtbedbkifdhjdfaaDoor
open Go.RowKit

def OwnsM (w : World) (base : Nat) (e : TypeId) (v : Value) (n : Nat) (xs : List Value) : Prop :=
  xs.length = n ∧ ∃ g cap cur fz, v = .slice (some ⟨g, 0, none⟩) n cap ∧ base ≤ g ∧ w.heap[g]? = some (.cells cur e fz) ∧ (fz.2 = 0 ∨ cur.size ≤ fz.1) ∧ n ≤ cap ∧ cap ≤ maxLen ∧ cur.size = cap ∧ cur.toList.take n = xs

theorem OwnsM.below {w w' : World} {base : Nat} {e : TypeId} {v : Value} {n : Nat} {xs : List Value} (h : OwnsM w base e v n xs) (hb : Below w.heap.size w w') : OwnsM w' base e v n xs := by
  obtain ⟨h1, g, cap, cur, fz, h2, h3, h4, rest⟩ := h
  refine ⟨h1, g, cap, cur, fz, h2, h3, ?_, rest⟩
  rw [hb.block g (Array.getElem?_eq_some_iff.1 h4).1]
  exact h4
theorem OwnsM.has {w : World} {base : Nat} {e : TypeId} {v : Value} {n : Nat} {l : List UInt8} (h : OwnsM w base e v n (l.map u8v)) : ∃ g c, v = .slice (some ⟨g, 0, none⟩) n c ∧ base ≤ g ∧ g < w.heap.size ∧ l.length = n ∧ n ≤ c ∧ c ≤ maxLen ∧ Has w (some ⟨g, 0, none⟩) l := by
  obtain ⟨h1, g, cap, cur, fz, rfl, h3, h4, _, h6, h7, _, h8⟩ := h
  refine ⟨g, cap, rfl, h3, (Array.getElem?_eq_some_iff.1 h4).1, by simpa using h1, h6, h7, Has.of_plain fun i x hx => ?_⟩
  rw [Nat.zero_add, cell_of_row w g i cur e fz h4]
  have h9 : (l.map u8v)[i]? = some (u8v x) := by rw [List.getElem?_map, hx]; rfl
  rw [← h8, List.getElem?_take] at h9
  split at h9
  · simpa [u8v] using h9
  · cases h9

/-- '[]byte(s)': the new row. -/
theorem owns_bytes (w : World) (e : TypeId) (l : List UInt8) (hl : l.length ≤ 1000) :
    OwnsM (w.drew.alloc (.cells (bytesRow (str l) (grownCap w (str l).size 0 e)) e ((bytesRow (str l) (grownCap w (str l).size 0 e)).size, (bytesRow (str l) (grownCap w (str l).size 0 e)).size + 1))) w.heap.size e
      (.slice (some ⟨w.heap.size, 0, none⟩) (str l).size (grownCap w (str l).size 0 e)) l.length (l.map u8v) := by
  have hsz : (str l).size = l.length := rfl
  have hge := grownCap_ge w (str l).size 0 e
  have hle := grownCap_le_maxLen w (str l).size 0 e (by rw [hsz]; unfold maxLen; omega)
  generalize grownCap w (str l).size 0 e = c at *
  rw [hsz] at *
  have hrow : (bytesRow (str l) c).size = c := by
    simp [bytesRow, str]
    rw [show ByteArray.size ⟨l.toArray⟩ = l.length from rfl]
    omega
  refine ⟨by simp, w.heap.size, c, bytesRow (str l) c, _, rfl, Nat.le_refl _, heap_alloc_new w.drew _, .inr (Nat.le_refl _), hge, hle, hrow, ?_⟩
  simp [bytesRow, str, u8v]

theorem storeCells_marked (P : Program) (g o : Nat) (t : TypeId) (fz : Nat × Nat) : ∀ (vs : List Value) (i : Nat) (cur : Array Value) (w : World), w.heap[g]? = some (.cells cur t fz) → (fz.2 = 0 ∨ cur.size ≤ fz.1) → o + i + vs.length ≤ cur.size → (∀ v ∈ vs, v.oneCell' = true) →
    (storeCells ⟨g, o, none⟩ vs i).run P w = .ok () (w.setRow g (cur.toList.take (o + i) ++ vs ++ cur.toList.drop (o + i + vs.length)).toArray)
  | [], i, cur, w, hg, _, _, _ => by
    simp only [storeCells, List.append_nil, List.length_nil, Nat.add_zero, List.take_append_drop, Array.toArray_toList]
    rw [setRow_self w g cur t fz hg]
    rfl
  | v :: rest, i, cur, w, hg, hfz, hl, h1 => by
    have hi : o + i < cur.size := by simp at hl; omega
    have hadd : (⟨g, o, none⟩ : Addr).add i = ⟨g, o + i, none⟩ := by unfold Addr.add; split <;> simp_all
    have hcell : w.cell? ⟨g, o + i, none⟩ = some cur[o + i] := by simp [World.cell?, hg, hi]
    have hfro : w.frozen? ⟨g, o + i, none⟩ = false := by
      obtain ⟨lo, hi'⟩ := fz
      simp only [World.frozen?, hg, Bool.and_eq_false_iff, decide_eq_false_iff_not]
      simp only at hfz
      omega
    have hst : (store ((⟨g, o, none⟩ : Addr).add i) v).run P w = .ok () (w.setRow g (cur.setIfInBounds (o + i) v)) := by
      rw [hadd, run_store P w _ v _ (h1 v (by simp)), hcell]
      simp [hfro, setCell_eq_setRow w g (o + i) cur t fz v hg]
    have ih := storeCells_marked P g o t fz rest (i + 1) (cur.setIfInBounds (o + i) v) (w.setRow g (cur.setIfInBounds (o + i) v)) (setRow_heap w g cur _ t _ hg) (by simpa using hfz) (by simp at hl ⊢; omega) (fun x hx => h1 x (by simp [hx]))
    simp only [storeCells, Sem.run_bind, hst, Result.andThen_ok, ih, setRow_setRow]
    congr 3
    have e := list_seg_step cur.toList (o + i) v rest (by simp at hl ⊢; omega)
    simpa [Array.toList_setIfInBounds, Nat.add_assoc] using e

theorem run_append_marked {P : Program} (w : World) (base : Nat) (t ty e : TypeId) (i : TypeInfo) (ht : P.underlying t = some (.slice e)) (hi : P.info? e = some i) (hz : i.zero = some (.int .u8 0)) (hs : i.size = 1) (hb : i.bytes = 1)
    (v : Value) (n : Nat) (xs : List Value) (hown : OwnsM w base e v n xs) (q : Option Addr) (m c : Nat) (news : List Value) (hl : news.length = m) (hnews : ∀ j u, news[j]? = some u → ∃ a, q = some a ∧ w.cell? (a.add j) = some u) (h1 : ∀ u ∈ news, u.oneCell' = true) (hbig : n + m ≤ 1000000000) (hbase : base ≤ w.heap.size) :
    ∃ v' w', (Builtin.append_ #[t, t] ty #[v, .slice q m c]).run P w = .ok v' w' ∧ OwnsM w' base e v' (n + m) (xs ++ news) ∧ w.grownBy w' v.ownBlock ∧ (v'.ownBlock = v.ownBlock ∨ v'.ownBlock = some w.heap.size) := by
  obtain ⟨hxl, g, cap, cur, fz, rfl, hbg, hg, hfz, hnc, hcm, hcs, htake⟩ := hown
  have hlen : (xs ++ news).length = n + m := by rw [List.length_append, hxl, hl]
  have hm63 : n + m ≤ 9223372036854775807 := by omega
  by_cases hroom : n + m ≤ cap
  · have hrun : (Builtin.append_ #[t, t] ty #[.slice (some ⟨g, 0, none⟩) n cap, .slice q m c]).run P w =
        .ok (.slice (some ⟨g, 0, none⟩) (n + m) cap) (w.setRow g (cur.toList.take n ++ news ++ cur.toList.drop (n + news.length)).toArray) := by
      have hst := storeCells_marked P g n e fz news 0 cur w hg hfz (by omega) h1
      simp only [Nat.add_zero] at hst
      rcases q with _ | a
      · have hn0 : news = [] := by
          cases news with
          | nil => rfl
          | cons y r => obtain ⟨a, e, _⟩ := hnews 0 y rfl; cases e
        subst hn0
        have hm0 : m = 0 := hl.symm
        subst hm0
        simp only [List.length_nil, Nat.add_zero, List.append_nil] at hst ⊢
        simp [Builtin.append_, run_underlying ht, sizeOf, typeInfo, hi, hs, Builtin.lenOf, hnc, Addr.add_lit, Builtin.firstCells, loadCells, hst]
      · have hf := run_firstCells_some (P := P) w 1 m a m c news (by simpa using hl) (fun j u hu => by obtain ⟨a', e', h'⟩ := hnews j u hu; cases e'; exact h')
        simp [Builtin.append_, run_underlying ht, sizeOf, typeInfo, hi, hs, Builtin.lenOf, hroom, hf, Addr.add_lit, hst]
    refine ⟨_, _, hrun, ⟨hlen, g, cap, _, fz, rfl, hbg, setRow_heap w g cur _ e _ hg, ?_, hroom, hcm, ?_, ?_⟩, ⟨rfl, rfl, rfl, by simp, fun k _ hk => setRow_other w g k _ (fun e => hk (by simp [Value.ownBlock, e]))⟩, .inl (by simp [Value.ownBlock])⟩
    · rcases hfz with h | h
      · exact .inl h
      · refine .inr ?_
        simp only [List.size_toArray, List.length_append, List.length_take, List.length_drop, Array.length_toList]
        omega
    · simp only [List.size_toArray, List.length_append, List.length_take, List.length_drop, Array.length_toList]
      omega
    · rw [htake, ← hlen]
      exact List.take_left
  · have holds : ∀ j u, xs[j]? = some u → w.cell? ((⟨g, 0, none⟩ : Addr).add j) = some u := fun j u hu => by
      have hadd : (⟨g, 0, none⟩ : Addr).add j = ⟨g, j, none⟩ := by unfold Addr.add; split <;> simp_all
      rw [hadd, cell_of_row w g j cur e fz hg]
      rw [← htake, List.getElem?_take] at hu
      split at hu
      · simpa using hu
      · cases hu
    rcases q with _ | a
    · have hn0 : news = [] := by
        cases news with
        | nil => rfl
        | cons y r => obtain ⟨a, e, _⟩ := hnews 0 y rfl; cases e
      subst hn0
      simp at hl
      omega
    · have hr := run_append_grow (P := P) w t ty e i (.int .u8 0) ht hi hz ⟨g, 0, none⟩ n cap xs (by rw [hs]; omega) holds a m c news (by rw [hs]; omega) (fun j u hu => by obtain ⟨a', e', h'⟩ := hnews j u hu; cases e'; exact h') (by omega) (by omega) (growslice_fits (by omega) (by rw [hb]; omega))
      have hge := grownCap_ge w (n + m) cap e
      have hcm2 := grownCap_le_maxLen w (n + m) cap e (by unfold maxLen; omega)
      have hz1 : (Value.int IntKind.u8 0).cells.size = 1 := rfl
      refine ⟨_, _, hr, ⟨hlen, w.heap.size, _, _, (0, 0), rfl, hbase, heap_alloc_new w.drew _, .inl rfl, hge, hcm2, ?_, ?_⟩, ⟨rfl, rfl, rfl, by simp, fun k hk _ => heap_alloc_old w.drew _ hk⟩, .inr (by simp [Value.ownBlock])⟩
      · simp only [Array.size_append, List.size_toArray, size_zeroCells, hz1, hxl, hl]
        omega
      · simp only [Array.toList_append, List.append_assoc]
        rw [← List.append_assoc, ← hlen]
        exact List.take_left

theorem wpList_append_marked {P : Program} (w : World) {ops : Array Oper} {rest : List Oper} {o : Oper} {a : Act} {Q : Exit → Act → World → Prop} (hgd : o.guard = none) (s x : Operand) (t : TypeId)
    (ho : o.op = .call { callee := .builtin .append, args := #[s, x], argTypes := #[t, t] })
    (base : Nat) (e : TypeId) (i : TypeInfo) (ht : P.underlying t = some (.slice e)) (hi : P.info? e = some i) (hz : i.zero = some (.int .u8 0)) (hs : i.size = 1) (hb : i.bytes = 1)
    (v : Value) (n : Nat) (l : List UInt8) (hes : a.eval s = v) (hown : OwnsM w base e v n (l.map u8v)) (q : Option Addr) (m c : Nat) (r : List UInt8) (hex : a.eval x = .slice q m c) (hq : Has w q r) (hr : r.length = m)
    (hbig : n + m ≤ 1000000000) (hbase : base ≤ w.heap.size)
    (h : ∀ v' w', OwnsM w' base e v' (n + m) ((l ++ r).map u8v) → w.grownBy w' v.ownBlock → wpList P ops Q rest (a.put o.dst v') w') : wpList P ops Q (o :: rest) a w := by
  refine wpList_plain hgd fun K hK => ?_
  obtain ⟨v', w', hrun, h2, h3, _⟩ := run_append_marked (P := P) w base t o.type e i ht hi hz hs hb v n _ hown q m c (r.map u8v) (by simpa using hr) (fun j u hu => by
    rw [List.getElem?_map] at hu
    obtain ⟨y, hy, rfl⟩ := Option.map_eq_some_iff.1 hu
    exact hq j y hy) (map_oneCell r) hbig hbase
  unfold Oper.wp execOp
  simp only [ho, resolve, invoke, builtin, Sem.run_bind, Sem.run_pure, Result.andThen_ok, List.map_toArray, List.map_cons, List.map_nil, hes, hex, hrun]
  exact hK _ _ (h v' w' (by rw [List.map_append]; exact h2) h3)
end Go.Proofs.YtbedbkifdhjdfaaDoor
