/-
  Contract of the project's read.
-/
import Derived.Test.YtenmcmnhiejbgaaGreatJg21
import Derived.Test.YtenmcmnhiejbgaaGreatJg32
namespace Go.Proofs.YtenmcmnhiejbgaaGreat
open Go.RowKit

/-- What read gives. -/
def GivesRead (r : Option ObjD) (w : World) (e : Ending) (w' : World) : Prop := Below w.heap.size w w' ∧ ∃ (v0 v1 v2 v4 : Value) (o : ObjD), e = .returned (.tuple #[objV v0 v1 v2 o.hasSig v4, .bool r.isSome]) ∧ (∀ W, FrT 0 [27] w' W → ObjParts W v0 v1 v2 v4 o) ∧ FewD o ∧ (r = none ∧ o = ⟨[], [], [], false, []⟩ ∨ r = some o)
theorem FrT.zero {N : Nat} {Ts : List TypeId} {w w' : World} (h : FrT N Ts w w') : FrT 0 Ts w w' := ⟨h.os, h.tape, h.output, h.size, fun k o hk ht => h.block k o hk (ht.imp (fun h => absurd h (Nat.not_lt_zero _)) id)⟩
theorem zero_few : FewD ⟨[], [], [], false, []⟩ := ⟨Nat.zero_le _, Nat.zero_le _, Nat.zero_le _, (fun _ h => by cases h), (fun _ h => by cases h)⟩
theorem zero_parts (w : World) : ObjParts w (.slice none 0 0) (.slice none 0 0) (.slice none 0 0) (.slice none 0 0) ⟨[], [], [], false, []⟩ :=
  ⟨⟨none, 0, rfl, Nat.le_refl _, Nat.zero_le _, fun _ => rfl, fun i x hx => by simp at hx⟩, ⟨none, 0, rfl, Nat.le_refl _, Nat.zero_le _, fun _ => rfl, fun i x hx => by simp at hx⟩, ⟨none, 0, rfl, Nat.le_refl _, Nat.zero_le _, fun _ => rfl, fun i x hx => by simp at hx⟩, ⟨none, 0, rfl, Nat.le_refl _, Nat.zero_le _, fun _ => rfl, fun i x hx => by simp at hx⟩⟩
theorem five_set {w : World} {g N : Nat} {v0 v1 v2 v3 v4 : Value} {T : TypeId} (u0 u1 u2 u3 u4 : Value) (hN : N ≤ g) (h : w.heap[g]? = some (.cells #[v0, v1, v2, v3, v4] T (0, 0))) :
    (((((w.setCell ⟨g, 0, none⟩ u0).setCell ⟨g, 1, none⟩ u1).setCell ⟨g, 2, none⟩ u2).setCell ⟨g, 3, none⟩ u3).setCell ⟨g, 4, none⟩ u4).heap[g]? = some (.cells #[u0, u1, u2, u3, u4] T (0, 0)) ∧
    FrT N [T] w (((((w.setCell ⟨g, 0, none⟩ u0).setCell ⟨g, 1, none⟩ u1).setCell ⟨g, 2, none⟩ u2).setCell ⟨g, 3, none⟩ u3).setCell ⟨g, 4, none⟩ u4) := by
  have h0 := set_row #[u0, v1, v2, v3, v4] 0 u0 hN ⟨h, FrT.refl N [T] w⟩ rfl
  have h1 := set_row #[u0, u1, v2, v3, v4] 1 u1 hN h0 rfl
  have h2 := set_row #[u0, u1, u2, v3, v4] 2 u2 hN h1 rfl
  have h3 := set_row #[u0, u1, u2, u3, v4] 3 u3 hN h2 rfl
  exact set_row #[u0, u1, u2, u3, u4] 4 u4 hN h3 rfl
theorem results_obj {fn : Func} {p u : Tmp} (h : fn.results = #[.cell p 27, .tmp u]) (tmps : Array Value) (w : World) (g : Nat) (v0 v1 v2 v3 v4 b : Value) (hp : tmps.getD p undef = .pointer (some ⟨g, 0, none⟩)) (hu : tmps.getD u undef = b)
    (hg : w.heap[g]? = some (.cells #[v0, v1, v2, v3, v4] 27 (0, 0))) : (results fn tmps).run Tryz.prog w = .ok (.tuple #[.agg #[v0, v1, v2, v3, v4], b]) w := by
  obtain ⟨⟨r0, r1, r2, r3, r4⟩, _⟩ := cells5 _ _ _ _ _ _ _ _ hg
  rw [results_cell_tmp h, hp, hu]
  go_simp
theorem nmGo_size {tb : List UInt8} {L : List Ten} : ∀ {acc ns : List ByteArray}, (∀ n ∈ acc, n.size ≤ maxLen) → nmGo tb acc L = some ns → ∀ n ∈ ns, n.size ≤ maxLen := by
  induction L with
  | nil => intro acc ns ha h; cases h; exact ha
  | cons t r ih =>
    intro acc ns ha h
    unfold nmGo at h
    cases hs : strAt tb t.a with
    | none => rw [hs] at h; cases h
    | some n =>
      rw [hs] at h
      refine ih (fun m hm => ?_) h
      rcases List.mem_append.1 hm with hm | hm
      · exact ha m hm
      · obtain rfl := List.mem_singleton.1 hm
        unfold strAt at hs
        split at hs
        · unfold nameB at hs
          split at hs
          · rename_i hc
            cases hs
            have := hc.2
            show ((List.drop t.a.toNat tb).takeWhile _).toArray.size ≤ maxLen
            rw [List.size_toArray]
            unfold maxLen
            omega
          · cases hs
        · cases hs
theorem filB_names {l : List UInt8} {L : List Ten} {ns : List ByteArray} (h : filB l = some (L, ns)) : ∀ n ∈ ns, n.size ≤ maxLen := by
  unfold filB at h
  split at h
  · cases h
  · cases hb : begunB l with
    | none => rw [hb] at h; cases h
    | some x =>
      obtain ⟨a, m, n⟩ := x
      rw [hb] at h
      simp only at h
      cases hh : hdGo l a 0 m [] with
      | none => rw [hh] at h; cases h
      | some L' =>
        rw [hh] at h
        simp only at h
        cases hi : isTy L' n 3 with
        | false => rw [hi] at h; cases h
        | true =>
          rw [hi] at h
          simp only [cond_true] at h
          cases ht : L'[n]? with
          | none => rw [ht] at h; cases h
          | some t =>
            rw [ht] at h
            simp only at h
            cases hn : nmGo (win l t.e.toNat t.f.toNat) [str []] (L'.drop 1) with
            | none => rw [hn] at h; cases h
            | some ns' =>
              rw [hn] at h
              cases h
              refine nmGo_size (fun n hn => ?_) hn
              obtain rfl := List.mem_singleton.1 hn
              exact Nat.zero_le _
theorem listB_bd : ∀ (f : Nat) (l : List UInt8) (r : List Nat), listB f l = some r → ∀ x ∈ r, x ≤ 2147483647
  | _, [], r, h, x, hx => by
    unfold listB at h
    cases h
    cases hx
  | 0, _ :: _, r, h, x, hx => by unfold listB at h; cases h
  | f + 1, y :: l, r, h, x, hx => by
    unfold listB at h
    cases hd : digs5 (y :: l) with
    | none => rw [hd] at h; cases h
    | some p =>
      obtain ⟨v, u⟩ := p
      rw [hd] at h
      simp only at h
      cases hr : listB f ((y :: l).drop u) with
      | none => rw [hr] at h; cases h
      | some r' =>
        rw [hr] at h
        simp only [Option.map_some, Option.some.injEq] at h
        subst h
        rcases List.mem_cons.1 hx with rfl | hx
        · exact (digs5_used _ _ _ hd).2.2.2
        · exact listB_bd f _ r' hr x hx
theorem listA_bd {l : List UInt8} {r : List Nat} (h : listA l = some r) : ∀ x ∈ r.map (fun (n : Nat) => (n : Int)), i64bd x := fun x hx => by
  obtain ⟨n, hn, rfl⟩ := List.mem_map.1 hx
  have := listB_bd _ _ _ h n hn
  exact ⟨by omega, by omega⟩
theorem symGo_len {l : List UInt8} {ns : List Int} {tb : List UInt8} {a : Int} : ∀ (m i : Nat) (acc ys : List SymD), symGo l ns tb a i m acc = some ys → ys.length = acc.length + m ∧ (0 < m → 0 ≤ a + 24 * (i : Int) ∧ a + 24 * ((i : Int) + (m : Int)) ≤ (l.length : Int))
  | 0, _, acc, ys, h => by cases h; exact ⟨rfl, fun h => absurd h (by omega)⟩
  | m + 1, i, acc, ys, h => by
    rw [symGo_step] at h
    cases hs : symB l ns tb (a + 24 * (i : Int)) with
    | none => rw [hs] at h; cases h
    | some s =>
      rw [hs] at h
      obtain ⟨h1, h2⟩ := symGo_len m (i + 1) (acc ++ [s]) ys h
      have hat : 0 ≤ a + 24 * (i : Int) ∧ a + 24 * (i : Int) + 24 ≤ (l.length : Int) := by
        unfold symB at hs
        cases hy : symAt l (a + 24 * (i : Int)) with
        | none => rw [hy] at hs; cases hs
        | some t =>
          unfold symAt at hy
          split at hy
          · rename_i hc; exact ⟨hc.1, hc.2.1⟩
          · cases hy
      refine ⟨by rw [h1, List.length_append]; simp; omega, fun _ => ⟨hat.1, ?_⟩⟩
      rcases Nat.eq_zero_or_pos m with rfl | hm
      · simp; omega
      · have := (h2 hm).2
        simp only [Int.natCast_add, Int.natCast_one] at this ⊢
        omega
theorem symsB_len {l : List UInt8} {L : List Ten} {ns : List Int} {ys : List SymD} (h : symsB l L ns = some ys) : ys.length ≤ l.length := by
  unfold symsB at h
  cases h1 : (cnt2 L L.length == 1) with
  | false => rw [h1] at h; cases h
  | true =>
    rw [h1] at h
    cases h2 : L[last2 L L.length]? with
    | none => simp [h2] at h
    | some t =>
      simp only [h2, cond_true] at h
      unfold symsAt at h
      cases h3 : (t.j == 24) && (t.f.tmod 24 == 0) with
      | false => rw [h3] at h; cases h
      | true =>
        rw [h3] at h
        cases h4 : isTy L t.g.toNat 3 with
        | false => rw [h4] at h; cases h
        | true =>
          rw [h4] at h
          cases h5 : L[t.g.toNat]? with
          | none => simp [h5] at h
          | some u =>
            simp only [h5, cond_true] at h
            cases h6 : symGo l ns (win l u.e.toNat u.f.toNat) t.e 0 (t.f.toNat / 24) [] with
            | none => simp [h6] at h
            | some zs =>
              simp only [h6] at h
              cases h7 : (((cntL zs : Nat) : Int) == t.h) with
              | false => rw [h7] at h; cases h
              | true =>
                rw [h7] at h
                cases h
                obtain ⟨e1, e2⟩ := symGo_len _ _ _ _ h6
                simp at e1
                rcases Nat.eq_zero_or_pos (t.f.toNat / 24) with hz | hp
                · omega
                · have := e2 hp
                  simp at this
                  omega
theorem mbrGo_len {l : List UInt8} {L : List Ten} {ns : List Int} {a : Nat} : ∀ (m i : Nat) (acc r : List Int), mbrGo l L ns a i m acc = some r → r.length ≤ acc.length + m
  | 0, _, acc, r, h => by cases h; exact Nat.le_refl _
  | m + 1, i, acc, r, h => by
    rw [mbrGo_step] at h
    cases h1 : isTy L (num (win l (a + 4 * i) 4)) 4 with
    | true =>
      rw [h1] at h
      have := mbrGo_len m (i + 1) acc r h
      omega
    | false =>
      rw [h1] at h
      cases h2 : (ns[num (win l (a + 4 * i) 4)]?.getD 0 == 0) with
      | true => rw [h2] at h; cases h
      | false =>
        rw [h2] at h
        have := mbrGo_len m (i + 1) _ r h
        simp at this
        omega
theorem groupAt_len {l : List UInt8} {L : List Ten} {ns : List Int} {sy : Int} {h : Ten} {g : GroupD} (hg : groupAt l L ns sy h = some g) : g.members.length ≤ h.f.toNat := by
  unfold groupAt at hg
  cases h1 : (h.j == 4) && (h.f.tmod 4 == 0) with
  | false => rw [h1] at hg; cases hg
  | true =>
    rw [h1] at hg
    cases h2 : (h.g != sy) with
    | true => rw [h2] at hg; cases hg
    | false =>
      rw [h2] at hg
      cases h3 : (h.f == 0) with
      | true => rw [h3] at hg; cases hg
      | false =>
        rw [h3] at hg
        cases h4 : (((num (win l h.e.toNat 4) : Nat) : Int) != 1) with
        | true => rw [h4] at hg; cases hg
        | false =>
          rw [h4] at hg
          cases h5 : mbrGo l L ns (h.e.toNat + 4) 0 (h.f.toNat / 4 - 1) [] with
          | none => simp [h5] at hg
          | some r =>
            simp only [h5, cond_true, cond_false, Option.map_some, Option.some.injEq] at hg
            subst hg
            have := mbrGo_len _ _ _ _ h5
            simp at this
            show r.length ≤ _
            omega
theorem secB_data {l : List UInt8} {ns : List Int} {t : Ten} {s : SecD} (h : secB l ns t = some s) : s.data.length ≤ l.length := by
  have hd : (dataB l t).length ≤ l.length := by
    unfold dataB
    cases t.b == 1 with
    | false => exact Nat.zero_le _
    | true => show (win l _ _).length ≤ _; unfold win; rw [List.length_drop, List.length_take]; omega
  unfold secB at h
  cases h1 : (t.h != 0) with
  | true => rw [h1] at h; cases h
  | false =>
    rw [h1] at h
    cases h2 : hasF t.c 128 with
    | true =>
      rw [h2] at h
      cases h3 : (ns[t.g.toNat]?.getD 0 != 0) with
      | false => rw [h3] at h; cases h
      | true => rw [h3] at h; cases h; exact hd
    | false =>
      rw [h2] at h
      cases h3 : (t.g == 0) with
      | false => rw [h3] at h; cases h
      | true => rw [h3] at h; cases h; exact hd
theorem secGo_data {l : List UInt8} {ns : List Int} {names : List ByteArray} : ∀ (L : List Ten) (i : Nat) (acc ss : List SecD), (∀ s ∈ acc, s.data.length ≤ l.length) → secGo l ns names i L acc = some ss → ∀ s ∈ ss, s.data.length ≤ l.length
  | [], _, acc, ss, ha, h => by cases h; exact ha
  | t :: r, i, acc, ss, ha, h => by
    unfold secGo at h
    cases h1 : (ns[i]?.getD 0 == 0) with
    | true => rw [h1] at h; exact secGo_data r (i + 1) acc ss ha h
    | false =>
      rw [h1] at h
      cases h2 : secB l ns t with
      | none => simp only [h2, cond_false] at h; cases h
      | some s =>
        simp only [h2, cond_false] at h
        refine secGo_data r (i + 1) _ ss (fun y hy => ?_) h
        rcases List.mem_append.1 hy with hy | hy
        · exact ha y hy
        · obtain rfl := List.mem_singleton.1 hy
          exact (show s.data.length ≤ l.length from secB_data h2)
theorem secsB_data {l : List UInt8} {L : List Ten} {names : List ByteArray} {ss : List SecD} (h : secsB l L names = some ss) : ∀ s ∈ ss, s.data.length ≤ l.length := secGo_data L 0 [] ss (fun _ h => by cases h) h
theorem relsAt_head {l : List UInt8} {L : List Ten} {sy : Int} {nm : List Bool} {h : Ten} {rs : List RelD} (hr : relsAt l L sy nm h = some rs) : ∃ t, L[h.h.toNat]? = some t ∧ t.b = 1 := by
  unfold relsAt at hr
  cases h1 : (h.j == 24) && (h.f.tmod 24 == 0) with
  | false => rw [h1] at hr; cases hr
  | true =>
    rw [h1] at hr
    cases h2 : (h.g != sy) with
    | true => rw [h2] at hr; cases hr
    | false =>
      rw [h2] at hr
      cases h3 : isTy L h.h.toNat 1 with
      | false => rw [h3] at hr; cases hr
      | true =>
        unfold isTy at h3
        cases hq : L[h.h.toNat]? with
        | none => rw [hq] at h3; cases h3
        | some t => rw [hq] at h3; exact ⟨t, rfl, by simpa using h3⟩
theorem sigGo_bd {l : List UInt8} {hs : Bool} {sy : Int} {t : Ten} {xs : List Int} (h : sigGo l hs sy t = some xs) : ∀ x ∈ xs, i64bd x := by
  unfold sigGo at h
  cases hb : (hs || (t.g != sy)) with
  | true => rw [hb] at h; cases h
  | false =>
    rw [hb] at h
    cases hl : listA (win l t.e.toNat t.f.toNat) with
    | none => simp [hl] at h
    | some r =>
      simp only [hl, cond_false, Option.map_some, Option.some.injEq] at h
      subst h
      exact listA_bd hl

set_option maxRecDepth 100000 in
theorem read_end {tmps : Array Value} {W w : World} {res : Option ObjD} {v0 v1 v2 v4 : Value} {b : Bool} {o : ObjD} (h2 : tmps.getD 2 undef = .pointer (some ⟨w.heap.size, 0, none⟩)) (h3 : tmps.getD 3 undef = .bool b)
    (hR : W.heap[w.heap.size]? = some (.cells #[v0, v1, v2, .bool o.hasSig, v4] 27 (0, 0))) (hb : Below w.heap.size w W) (hp : ∀ W', FrT 0 [27] W W' → ObjParts W' v0 v1 v2 v4 o) (hfw : FewD o) (hE : b = res.isSome) (ho : res = none ∧ o = ⟨[], [], [], false, []⟩ ∨ res = some o) : bodyPost Tryz.prog Tryz.f22 (GivesRead res w) Exit.ret ⟨tmps, []⟩ W := by
  subst hE
  exact bodyPost_ret (results_obj rfl _ _ _ _ _ _ _ _ _ h2 h3 hR) rfl ⟨hb, v0, v1, v2, v4, o, rfl, hp, hfw, ho⟩
theorem read_none {tmps : Array Value} {W W' w : World} {res : Option ObjD} (h2 : tmps.getD 2 undef = .pointer (some ⟨w.heap.size, 0, none⟩)) (h3 : tmps.getD 3 undef = .bool false)
    (hR : W.heap[w.heap.size]? = some (.cells #[.slice none 0 0, .slice none 0 0, .slice none 0 0, .bool false, .slice none 0 0] 27 (0, 0))) (hb : Below w.heap.size w W) (hE : res = none)
    (hW : W' = ((((W.setCell ⟨w.heap.size, 0, none⟩ (.slice none 0 0)).setCell ⟨w.heap.size, 1, none⟩ (.slice none 0 0)).setCell ⟨w.heap.size, 2, none⟩ (.slice none 0 0)).setCell ⟨w.heap.size, 3, none⟩ (.bool false)).setCell ⟨w.heap.size, 4, none⟩ (.slice none 0 0)) : bodyPost Tryz.prog Tryz.f22 (GivesRead res w) Exit.ret ⟨tmps, []⟩ W' := by
  subst hW
  obtain ⟨x1, x2⟩ := five_set (.slice none 0 0) (.slice none 0 0) (.slice none 0 0) (.bool false) (.slice none 0 0) (Nat.le_refl w.heap.size) hR
  exact read_end (o := ⟨[], [], [], false, []⟩) h2 h3 x1 (hb.trans (x2.below hb.size)) (fun _ _ => zero_parts _) zero_few (by rw [hE]; rfl) (.inl ⟨hE, rfl⟩)

set_option maxRecDepth 100000 in
set_option maxHeartbeats 4000000 in
theorem gotRead_any (bp : Option Addr) (bc : Nat) (l : List UInt8) (w : World) (ht : Has w bp l) (h1 : l.length ≤ bc) (h2 : bc ≤ maxLen) (h3 : bp = none → bc = 0) (hbig : l.length ≤ 100000) :
    Calls Tryz.prog 22 #[.slice bp l.length bc] w (GivesRead (readB l) w) := by
  have hres : readB l = match filB l with
    | none => none
    | some (L, names) => match secsB l L names with
      | none => none
      | some ss => match symsB l L (numGo 0 L) with
        | none => none
        | some ys => match restGo l L (numGo 0 L) ((last2 L L.length : Nat) : Int) L ⟨ss, [], false, [], List.replicate L.length false⟩ with
          | none => none
          | some st => some ⟨st.secs, ys, st.groups, st.hasSig, st.sig⟩ := rfl
  generalize readB l = res at *
  have HRES := Lib.hid hres
  obtain ⟨i0, hi, hz0, hz1, hz2⟩ := info_parts Tryz.infoBoolB
  have HI := Lib.hid hi
  have H0 := Lib.hid hz0
  have H1 := Lib.hid hz1
  have H2 := Lib.hid hz2
  obtain ⟨w0, hw0⟩ : ∃ w0, w0 = w.alloc (.cells #[.slice none 0 0, .slice none 0 0, .slice none 0 0, .bool false, .slice none 0 0] 27) := ⟨_, rfl⟩
  obtain ⟨w1, hw1⟩ : ∃ w1, w1 = w0.alloc (.cells #[.slice bp l.length bc, .slice none 0 0, .slice none 0 0, .slice none 0 0, .int .i64 0] 100) := ⟨_, rfl⟩
  have hb0 : Below w.heap.size w w0 := by rw [hw0]; exact (Below.refl _ w).alloc (Nat.le_refl _) _
  have hs0 : w0.heap.size = w.heap.size + 1 := by rw [hw0]; simp
  have hs1 : w1.heap.size = w.heap.size + 2 := by rw [hw1]; simp [hs0]
  have hR : w0.heap[w.heap.size]? = some (.cells #[.slice none 0 0, .slice none 0 0, .slice none 0 0, .bool false, .slice none 0 0] 27 (0, 0)) := by rw [hw0]; exact heap_alloc_new w _
  have hF1 : w1.heap[w.heap.size + 1]? = some (.cells #[.slice bp l.length bc, .slice none 0 0, .slice none 0 0, .slice none 0 0, .int .i64 0] 100 (0, 0)) := by rw [hw1, ← hs0]; exact heap_alloc_new w0 _
  have hb1 : Below w0.heap.size w0 w1 := by rw [hw1]; exact (Below.refl _ w0).alloc (Nat.le_refl _) _
  have HB0 := Lib.hid hb0
  have HB1 := Lib.hid hb1
  have HRR := Lib.hid hR
  have HF1 := Lib.hid hF1
  have HHAS := Lib.hid (ht.below hb0)
  have HS0 := Lib.hid hs0
  have HS1 := Lib.hid hs1
  have HW0 := Lib.hid hw0
  have HW1 := Lib.hid hw1
  clear hi hz0 hz1 hz2 hb0 hb1 hR hF1 hs0 hs1 ht hres hw0 hw1
  go_enter Tryz.func22, Tryz.ntmps22
  go_upto_region 3 with fail
  rw [← HW0.out, ← HW1.out]
  have hG2 : (w1.alloc (.cells #[.slice none 0 0, .slice none 0 0, .slice none 0 0, .bool false, .slice none 0 0] 27)).heap[w.heap.size + 1 + 1]? = some (.cells #[.slice none 0 0, .slice none 0 0, .slice none 0 0, .bool false, .slice none 0 0] 27 (0, 0)) := by
    rw [show w.heap.size + 1 + 1 = w1.heap.size from HS1.out.symm]
    exact heap_alloc_new w1 _
  have hb2 : Below w1.heap.size w1 (w1.alloc (.cells #[.slice none 0 0, .slice none 0 0, .slice none 0 0, .bool false, .slice none 0 0] 27)) := (Below.refl _ w1).alloc (Nat.le_refl _) _
  have hF2 := (hb2.block _ (Array.getElem?_eq_some_iff.1 HF1.out).1).trans HF1.out
  have hw2 : Below w0.heap.size w0 (w1.alloc (.cells #[.slice none 0 0, .slice none 0 0, .slice none 0 0, .bool false, .slice none 0 0] 27)) := HB1.out.trans (hb2.mono HB1.out.size)
  generalize w1.alloc (.cells #[.slice none 0 0, .slice none 0 0, .slice none 0 0, .bool false, .slice none 0 0] 27) = W2 at *
  have HN0 : Hid (w0.heap.size ≤ w.heap.size + 1) := Lib.hid (Nat.le_of_eq HS0.out)
  have HN1 : Hid (w0.heap.size ≤ w.heap.size + 1 + 1) := Lib.hid (by have := HS0.out; omega)
  have HRH := Lib.hid (readHeads_any w0.heap.size (w.heap.size + 1) w0 bp bc l (.slice none 0 0) 0 W2 rfl hw2 HN0.out hF2 HHAS.out h1 h2 hbig)
  have HG2 := Lib.hid hG2
  have HWW2 := Lib.hid hw2
  have HRO : Hid (∀ W, Below w0.heap.size w0 W → W.heap[w.heap.size]? = some (.cells #[.slice none 0 0, .slice none 0 0, .slice none 0 0, .bool false, .slice none 0 0] 27 (0, 0)) ∧ Below w.heap.size w W) := Lib.hid fun W hW => ⟨(hW.block _ (Array.getElem?_eq_some_iff.1 HRR.out).1).trans HRR.out, HB0.out.trans (hW.mono (by have := HS0.out; omega))⟩
  clear hG2 hb2 hF2 hw2 HW0 HW1 HF1 HB1
  unfold GivesHeads at HRH
  have hR1 := HRES.out
  cases hfb : filB l with
  | none =>
    rw [hfb] at HRH hR1
    have hE : Hid (res = none) := Lib.hid hR1
    clear hfb hR1
    go_upto_region 4 with (first | (go_at_call 45; refine HRH.out.mono ?_; rintro e w3 ⟨rfl, hf3, _⟩) | fail)
    obtain ⟨r1, r2⟩ := HRO.out w3 (HWW2.out.trans (hf3.below HWW2.out.size))
    obtain ⟨⟨c0, c1, c2, c3, c4⟩, f0, f1, f2, f3, f4⟩ := cells5 _ _ _ _ _ _ _ _ r1
    go_wp2_with fail
    exact read_none (by rfl) (by rfl) r1 r2 hE.out rfl
  | some x =>
    obtain ⟨L, names⟩ := x
    have HNMS := Lib.hid (filB_names hfb)
    rw [hfb] at HRH hR1
    have HR1 := Lib.hid hR1
    clear hfb hR1
    go_wp2_with fail
    refine HRH.out.mono ?_
    rintro e w3 ⟨rfl, hf3, hall⟩
    obtain ⟨vh, vn, hF3, hh3, hn3, hok, hnl, hL1, hL2⟩ := hall L names rfl
    have hw3 : Below w0.heap.size w0 w3 := HWW2.out.trans (hf3.below HWW2.out.size)
    have hG3 := hf3.heap HG2.out (by decide)
    have HRS := Lib.hid (readSecs_any w0.heap.size (w.heap.size + 1) (w.heap.size + 1 + 1) W2.heap.size w0 l bp bc vh vn (.slice none 0 0) (.slice none 0 0) (.slice none 0 0) (.bool false) (.slice none 0 0) 0 L names w3 rfl hw3 HN0.out HN1.out hF3 hG3 hh3 hn3 hok hnl hL1 hL2 HHAS.out h1 h2 h3 hbig HNMS.out)
    have HOK := Lib.hid hok
    have HH3 := Lib.hid hh3
    have HL1 := Lib.hid hL1
    have HL2 := Lib.hid hL2
    have HW3 := Lib.hid hw3
    have hs23 : w0.heap.size ≤ W2.heap.size := HWW2.out.size
    unfold GivesSecs at HRS
    have hR2 : res = match secsB l L names with
      | none => none
      | some ss => match symsB l L (numGo 0 L) with
        | none => none
        | some ys => match restGo l L (numGo 0 L) ((last2 L L.length : Nat) : Int) L ⟨ss, [], false, [], List.replicate L.length false⟩ with
          | none => none
          | some st => some ⟨st.secs, ys, st.groups, st.hasSig, st.sig⟩ := HR1.out
    clear hf3 hall hF3 hh3 hn3 hok hnl hL1 hL2 hw3 hG3 HRH HG2 HNMS HR1
    cases hsb : secsB l L names with
    | none =>
      rw [hsb] at HRS hR2
      have hE : Hid (res = none) := Lib.hid hR2
      clear hsb hR2
      go_upto_region 4 with (first | (go_at_call 46; refine HRS.out.mono ?_; rintro e w4 ⟨rfl, hf4, _⟩) | fail)
      obtain ⟨r1, r2⟩ := HRO.out w4 (HW3.out.trans (hf4.below HW3.out.size))
      obtain ⟨⟨c0, c1, c2, c3, c4⟩, f0, f1, f2, f3, f4⟩ := cells5 _ _ _ _ _ _ _ _ r1
      go_wp2_with fail
      exact read_none (by rfl) (by rfl) r1 r2 hE.out rfl
    | some ss =>
      have HSL := Lib.hid (secsB_len hsb)
      have HSDD := Lib.hid (secsB_data hsb)
      rw [hsb] at HRS hR2
      have HR2 := Lib.hid hR2
      clear hsb hR2
      go_wp2_with fail
      refine HRS.out.mono ?_
      rintro e w4 ⟨rfl, hf4, hall⟩
      obtain ⟨vs, v0, svs, hF4, hn4, hG4, hs4, hss, hsv⟩ := hall ss rfl
      have hw4 : Below w0.heap.size w0 w4 := HW3.out.trans (hf4.below HW3.out.size)
      have hh4 := hf4.owns HH3.out (by decide)
      have hnl : (numGo 0 L).length = L.length := numGo_length 0 L
      have hnb : ∀ n ∈ numGo 0 L, 0 ≤ n ∧ n ≤ 100000 := fun n hn => by have := numGo_bd 0 n hn; have := HL2.out; omega
      rw [← hnl] at hn4
      have HRY := Lib.hid (readSyms_any w0.heap.size (w.heap.size + 1) (w.heap.size + 1 + 1) W2.heap.size w3.heap.size w0 l bp bc vh vn vs v0 (.slice none 0 0) (.bool false) (.slice none 0 0) L (numGo 0 L) w4 rfl hw4 HN0.out HN1.out hF4 hG4 hh4 hn4 HOK.out hnb HL1.out HL2.out HHAS.out h1 h2 hbig)
      have HH4 := Lib.hid hh4
      have HN4 := Lib.hid hn4
      have HS4 := Lib.hid hs4
      have HSS := Lib.hid hss
      have HSV := Lib.hid hsv
      have HW4 := Lib.hid hw4
      have HNB := Lib.hid hnb
      have HNSL := Lib.hid hnl
      have hs34 : w0.heap.size ≤ w3.heap.size := HW3.out.size
      unfold GivesSyms at HRY
      have hR3 : res = match symsB l L (numGo 0 L) with
        | none => none
        | some ys => match restGo l L (numGo 0 L) ((last2 L L.length : Nat) : Int) L ⟨ss, [], false, [], List.replicate L.length false⟩ with
          | none => none
          | some st => some ⟨st.secs, ys, st.groups, st.hasSig, st.sig⟩ := HR2.out
      clear hf4 hall hF4 hn4 hG4 hs4 hss hsv hw4 hh4 hnl hnb HRS HH3 HR2
      cases hyb : symsB l L (numGo 0 L) with
      | none =>
        rw [hyb] at HRY hR3
        have hE : Hid (res = none) := Lib.hid hR3
        clear hyb hR3
        go_upto_region 4 with (first | (go_at_call 47; refine HRY.out.mono ?_; rintro e w5 ⟨rfl, hf5, _⟩) | fail)
        obtain ⟨r1, r2⟩ := HRO.out w5 (HW4.out.trans (hf5.below HW4.out.size))
        obtain ⟨⟨c0, c1, c2, c3, c4⟩, f0, f1, f2, f3, f4⟩ := cells5 _ _ _ _ _ _ _ _ r1
        go_wp2_with fail
        exact read_none (by rfl) (by rfl) r1 r2 hE.out rfl
      | some ys =>
        rw [hyb] at HRY hR3
        have HYL := Lib.hid (symsB_len hyb)
        have HR3 : Hid (res = match restGo l L (numGo 0 L) ((last2 L L.length : Nat) : Int) L ⟨ss, [], false, [], List.replicate L.length false⟩ with
          | none => none
          | some st => some ⟨st.secs, ys, st.groups, st.hasSig, st.sig⟩) := Lib.hid hR3
        clear hyb hR3
        go_upto_region 5 with (first | (go_at_call 47; refine HRY.out.mono ?_; rintro e w5 ⟨rfl, hf5, hall⟩) | fail)
        obtain ⟨v1, hF5, hG5, hy5, hyb⟩ := hall ys rfl
        have hw5 : Below w0.heap.size w0 w5 := HW4.out.trans (hf5.below HW4.out.size)
        have hs45 : w0.heap.size ≤ w4.heap.size := HW4.out.size
        have hh5 := owns_lower (hf5.owns HH4.out (by decide)) hs23
        have hn5 := owns_lower (hf5.owns HN4.out (by decide)) hs34
        have hs5 := owns_lower (hf5.owns HS4.out (by decide)) hs34
        have hok5 : ∀ x ∈ svs, x.ok w0.heap.size w5 ∧ x.r = .slice none 0 0 ∧ x.s.rels = [] := fun x hx => ⟨((HSV.out x hx).1.fr hf5 (by decide) (by decide)).lower hs34, (HSV.out x hx).2⟩
        have hy5' := owns_lower hy5 hs45
        have hsvl : svs.length = cntS L := by rw [← List.length_map (f := SecV.s), HSS.out, HSL.out]
        have hsv65 : svs.length ≤ 65535 := by rw [hsvl]; exact Nat.le_trans (cntS_le L) HL2.out
        have hb8 : i0.bytes * L.length ≤ 281474976710656 := by rw [H2.out]; have := HL2.out; omega
        obtain ⟨hp, hc, rfl, _, _, _, _⟩ := tens_has hh5
        obtain ⟨⟨c0, c1, c2, c3, c4⟩, f0, f1, f2, f3, f4⟩ := cells5 _ _ _ _ _ _ _ _ hF5
        have HL1' := HL1.out
        have HL2' := HL2.out
        go_wp2_with (at_make; refine wpList_make_full _ rfl _ _ 103 rfl w5.heap.size 4 i0 (.bool false) 1 Tryz.underlying103 HI.out H0.out H1.out _ _ _ _ L.length rfl rfl rfl rfl hb8 (by unfold maxLen; omega) (Nat.le_refl _) ?_)
        intro w6 hown hgrow
        have hb6 : Below w5.heap.size w5 w6 := (Below.refl _ w5).grown hgrow (Nat.le_refl _) (fun k h => by cases h)
        have hown6 : w6.ownsRow w0.heap.size 4 1 (.slice (some ⟨w5.heap.size, 0, none⟩) L.length L.length) L.length ((List.replicate L.length false).map Value.bool) := by
          rw [List.map_replicate, ← toList_madeCells_one]
          exact owns_lower hown hw5.size
        have hf6 : FrT w0.heap.size [] w5 w6 := FrT.of_below hb6
        have hrd : Rd w0.heap.size (w.heap.size + 1) (w.heap.size + 1 + 1) w5.heap.size (.slice bp l.length bc) (.slice hp L.length hc) vn vs v0 v1 (.slice none 0 0) (.slice none 0 0) ((last2 L L.length : Nat) : Int) false L (numGo 0 L) ys svs [] [] (List.replicate L.length false) w6 :=
          ⟨hf6.heap hF5 (by simp), hf6.heap hG5 (by simp), hf6.owns hh5 (by simp), hf6.owns hn5 (by simp), hown6, hf6.owns hs5 (by simp), fun x hx => (hok5 x hx).1.fr hf6 (by simp) (by simp), hf6.owns hy5' (by simp), World.ownsRow_nil _ _ _ _, (fun x hx => by cases hx), World.ownsRow_nil _ _ _ _⟩
        have hw6 : Below w0.heap.size w0 w6 := hw5.trans (hb6.mono hw5.size)
        have hfs : Fresh L (numGo 0 L) (List.replicate L.length false) svs := fresh_start hsvl (fun x hx => (hok5 x hx).2)
        have HRD := Lib.hid hrd
        have HW6 := Lib.hid hw6
        have HFS := Lib.hid hfs
        have HSD : Hid (∀ y ∈ svs, y.s.data.length ≤ 100000) := Lib.hid (fun y hy => by
          have := HSDD.out y.s (by rw [← HSS.out]; exact List.mem_map_of_mem hy)
          omega)
        have HYB := Lib.hid hyb
        have HSV65 := Lib.hid hsv65
        clear c0 c1 c2 c3 c4 f0 f1 f2 f3 f4 hown hgrow hb6 hown6 hf6 hrd hw6 hfs hF5 hG5 hy5 hyb hf5 hall hh5 hn5 hs5 hok5 hy5' hsvl hsv65 hw5 hb8 HSV HS4 HN4 HH4
        generalize w5.heap.size = nb at *
        generalize last2 L L.length = sy at *
        generalize hnsd : numGo 0 L = ns at *
        generalize hln : L.length = ln at *
        have HNSD := Lib.hid hnsd
        have HLN := Lib.hid hln
        have hcntl : cntS L ≤ ln := by rw [← hln]; exact cntS_le L
        clear hnsd hln
        have HRN : Hid (restGo l L ns ((sy : Nat) : Int) L ⟨ss, [], false, [], List.replicate ln false⟩ = restGo l L ns ((sy : Nat) : Int) (L.drop 0) ⟨svs.map SecV.s, [], false, [], List.replicate ln false⟩) := Lib.hid (by rw [HSS.out]; rfl)
        obtain ⟨⟨c0, c1, c2, c3, c4⟩, f0, f1, f2, f3, f4⟩ := cells5 _ _ _ _ _ _ _ _ HRD.out.f
        go_wp2_with fail
        go_loopw [30] (fun r30 wr => ∃ (k : Nat) (u2 u4 : Value) (hs : Bool) (vv : List SecV) (gv : List GroupV) (sg : List Int) (nm : List Bool), k ≤ ln ∧ r30 = .int .i64 (k : Int) ∧ Rd w0.heap.size (w.heap.size + 1) (w.heap.size + 1 + 1) nb (.slice bp l.length bc) (.slice hp ln hc) vn vs v0 v1 u2 u4 ((sy : Nat) : Int) hs L ns ys vv gv sg nm wr ∧ Below w0.heap.size w0 wr ∧ Fresh L ns nm vv ∧
          restGo l L ns ((sy : Nat) : Int) L ⟨ss, [], false, [], List.replicate ln false⟩ = restGo l L ns ((sy : Nat) : Int) (L.drop k) ⟨vv.map SecV.s, gv.map GroupV.g, hs, sg, nm⟩ ∧ vv.length ≤ 65535 ∧ gv.length ≤ k ∧ nm.length = ln ∧ (∀ x ∈ sg, i64bd x) ∧ (∀ y ∈ vv, y.s.data.length ≤ 100000) ∧ ∀ y ∈ gv, y.g.members.length ≤ 100000) (fun r30 _ => ln - (intOf r30).toNat)
        case atStart => exact ⟨0, _, _, false, svs, [], [], _, Nat.zero_le _, rfl, HRD.out, HW6.out, HFS.out, HRN.out, HSV65.out, Nat.le_refl _, List.length_replicate, (fun x hx => by cases hx), HSD.out, (fun x hx => by cases hx)⟩
        case round =>
          obtain ⟨k, u2, u4, hs, vv, gv, sg, nm, hk, rfl, hrd, hbw, hfs, hgo, hvl, hgl, hnml, hsb, hvd, hgm⟩ := hrel
          have HRDK := Lib.hid hrd
          have HBW := Lib.hid hbw
          have HFSK := Lib.hid hfs
          have HGO := Lib.hid hgo
          have HVL := Lib.hid hvl
          have HNML := Lib.hid hnml
          have HSBD := Lib.hid hsb
          have HVD := Lib.hid hvd
          have HGM := Lib.hid hgm
          clear c0 c1 c2 c3 c4 f0 f1 f2 f3 f4 hrd hbw hfs hgo hvl hnml hsb hvd hgm
          by_cases hlt : k < ln
          · obtain ⟨x, hx⟩ : ∃ x, L[k]? = some x := ⟨_, List.getElem?_eq_getElem (by rw [HLN.out]; exact hlt)⟩
            have hheads := HRDK.out.heads
            rw [HLN.out] at hheads
            obtain ⟨p', c2, e, _, _, _, hh⟩ := tens_has (by rw [HLN.out]; exact hheads)
            rw [HLN.out] at e
            injection e with e1 e2 e3
            subst e1
            obtain ⟨b, off, e, hE⟩ := hh k x hx
            obtain ⟨d0, d1, d2, d3, d4, d5, d6, d7, d8, d9⟩ := hE
            obtain ⟨hmx, _⟩ := HOK.out k x hx
            have hin := fun h8 => heads_in HOK.out hx h8
            have hba : Below wr.heap.size wr (wr.alloc (.cells #[.int .i64 x.a, .int .i64 x.b, .int .i64 x.c, .int .i64 x.d, .int .i64 x.e, .int .i64 x.f, .int .i64 x.g, .int .i64 x.h, .int .i64 x.i, .int .i64 x.j] 104)) := (Below.refl _ wr).alloc (Nat.le_refl _) _
            have hha := heap_new wr (.cells #[.int .i64 x.a, .int .i64 x.b, .int .i64 x.c, .int .i64 x.d, .int .i64 x.e, .int .i64 x.f, .int .i64 x.g, .int .i64 x.h, .int .i64 x.i, .int .i64 x.j] 104)
            have hrs : Hid (restGo l L ns ((sy : Nat) : Int) L ⟨ss, [], false, [], List.replicate ln false⟩ = match stepB l L ns ((sy : Nat) : Int) x ⟨vv.map SecV.s, gv.map GroupV.g, hs, sg, nm⟩ with
              | none => none
              | some st' => restGo l L ns ((sy : Nat) : Int) (L.drop (k + 1)) st') := Lib.hid (by rw [HGO.out, restGo_step hx]; rfl)
            have hJ : (k : Int) < (ln : Int) := by omega
            have k2 : (0 : Int) ≤ (k : Int) := by omega
            subst e
            have HMX := Lib.hid hmx
            have HIN := Lib.hid hin
            clear hx hh hheads hmx hin e2 e3 HGO
            go_upto_region 9 with fail
            have hrd2 := HRDK.out.below hba
            have hbw2 := HBW.out.trans (hba.mono HBW.out.size)
            generalize wr.alloc (.cells #[.int .i64 x.a, .int .i64 x.b, .int .i64 x.c, .int .i64 x.d, .int .i64 x.e, .int .i64 x.f, .int .i64 x.g, .int .i64 x.h, .int .i64 x.i, .int .i64 x.j] 104) = ws at *
            obtain ⟨s0, s1, s2, s3, s4, s5, s6, s7, s8, s9⟩ := cells_ten _ _ _ _ _ _ _ _ _ _ _ _ _ hha
            have HRDS := Lib.hid hrd2
            have hhds := hrd2.heads
            rw [HLN.out] at hhds
            have HRDSH := Lib.hid hhds
            clear hhds
            have HWS := Lib.hid hbw2
            have hNs : w0.heap.size ≤ ws.heap.size := hbw2.size
            clear d0 d1 d2 d3 d4 d5 d6 d7 d8 d9 hba hha hrd2 hbw2 HRDK HBW
            cases h4 : (x.b == 4) with
            | true =>
              have hth := (fitsB_iff _).1 (HMX.out x.h (by simp [Ten.l]))
              have hsv := HRDS.out
              have hRL := readRels_any w0.heap.size (w.heap.size + 1) (w.heap.size + 1 + 1) w0.heap.size w0.heap.size nb w0 l bp bc (.slice (some ⟨b, off, none⟩) ln hc) vn vs v0 v1 u2 (.bool hs) u4 sy L ns nm vv x ws rfl HWS.out hsv.f hsv.g (by rw [HLN.out]; exact HRDSH.out) hsv.ints hsv.named hsv.secs (by rw [HNML.out, HLN.out]) (by rw [HNSL.out, HLN.out]) (by rw [HLN.out]; exact HL2') HVL.out (fun t h1 h2 h3 => HFSK.out x.h.toNat t h1 h2 h3) HMX.out HHAS.out h1 h2 hbig
              have HRL := Lib.hid hRL
              clear hRL hsv
              unfold GivesRels at HRL
              rw [HLN.out] at HRL
              cases hra : relsAt l L ((sy : Nat) : Int) nm x with
              | none =>
                rw [hra] at HRL
                have hE : Hid (res = none) := Lib.hid (by rw [HR3.out, hrs.out]; unfold stepB; rw [h4]; simp only [cond_true, hra]; rfl)
                clear hra
                go_upto_region 18 with (first | (go_at_call 48; refine HRL.out.mono ?_; rintro e w7 ⟨rfl, hf7, _⟩) | fail)
                obtain ⟨r1, r2⟩ := HRO.out w7 (HWS.out.trans (hf7.below HWS.out.size))
                obtain ⟨⟨c0, c1, c2, c3, c4⟩, f0, f1, f2, f3, f4⟩ := cells5 _ _ _ _ _ _ _ _ r1
                go_wp2_with fail
                exact read_none (by rfl) (by rfl) r1 r2 hE.out rfl
              | some rs =>
                rw [hra] at HRL
                have hst0 : Hid (restGo l L ns ((sy : Nat) : Int) L ⟨ss, [], false, [], List.replicate ln false⟩ = restGo l L ns ((sy : Nat) : Int) (L.drop (k + 1)) ⟨setRels (vv.map SecV.s) (ns[x.h.toNat]?.getD 0 - 1).toNat rs, gv.map GroupV.g, hs, sg, nm.set x.h.toNat true⟩) := Lib.hid (by rw [hrs.out]; unfold stepB; rw [h4]; simp only [cond_true, hra]; rfl)
                have HTB : Hid (∃ t, L[x.h.toNat]? = some t ∧ t.b = 1) := Lib.hid (relsAt_head hra)
                clear hra
                go_upto_region 17 with (first | (go_at_call 48; refine HRL.out.mono ?_; rintro e w7 ⟨rfl, hf7, hall⟩) | fail)
                obtain ⟨xi, sv, vr, e1, e2, e3, e4, e5, e6⟩ := hall rs rfl
                obtain ⟨t, ht1, ht2⟩ := HTB.out
                have hrd7 := HRDS.out.rels hf7 e2 HWS.out.size (by rw [HLN.out]; exact e3) e4 e5 e6
                have hfs7 : Fresh L ns (nm.set x.h.toNat true) (vv.set xi (sv.withRels rs vr)) := by
                  have h5 := HFSK.out
                  rw [← HNSD.out] at h5 e1 ⊢
                  exact fresh_set h5 ht1 ht2 e1
                have hst : Hid (restGo l L ns ((sy : Nat) : Int) L ⟨ss, [], false, [], List.replicate ln false⟩ = restGo l L ns ((sy : Nat) : Int) (L.drop (k + 1)) ⟨(vv.set xi (sv.withRels rs vr)).map SecV.s, gv.map GroupV.g, hs, sg, nm.set x.h.toNat true⟩) := Lib.hid (by
                  rw [hst0.out, map_setRels e2, e1]
                  show _ = restGo l L ns ((sy : Nat) : Int) (L.drop (k + 1)) ⟨setRels (vv.map SecV.s) xi rs, gv.map GroupV.g, hs, sg, nm.set x.h.toNat true⟩
                  rw [show ((some ((xi + 1 : Nat) : Int)).getD 0 - 1).toNat = xi by show (((xi + 1 : Nat) : Int) - 1).toNat = xi; omega])
                have HRD7 := Lib.hid hrd7
                have HSVM := Lib.hid (List.mem_of_getElem? e2)
                have HFS7 := Lib.hid hfs7
                have HW7 := Lib.hid (HWS.out.trans (hf7.below HWS.out.size))
                clear hrd7 hfs7 hall hf7 e3 e4 e5 e6 e1 e2 ht1 ht2
                go_wp2_with fail
                go_roundw
                case rel => exact ⟨k + 1, u2, u4, hs, _, gv, sg, _, hlt, by go_num, HRD7.out, HW7.out, HFS7.out, hst.out, by rw [List.length_set]; exact HVL.out, by omega, by rw [List.length_set]; exact HNML.out, HSBD.out, (fun y hy => by
                  rcases List.mem_or_eq_of_mem_set hy with hy | rfl
                  · exact HVD.out y hy
                  · exact HVD.out sv HSVM.out), HGM.out⟩
                case measure => simp [intOf]; omega
            | false =>
              cases h17 : (x.b == 17) with
              | true =>
                have hb8 : x.b ≠ 8 := by simp only [beq_iff_eq] at h17; omega
                have hRL := readGroup_any w0.heap.size (w.heap.size + 1) (w.heap.size + 1 + 1) w0.heap.size w0.heap.size w0 l bp bc (.slice (some ⟨b, off, none⟩) ln hc) vn vs v0 v1 u2 (.bool hs) u4 sy L ns gv x ws rfl HWS.out HN1.out HRDS.out.f HRDS.out.g (by rw [HLN.out]; exact HRDSH.out) HRDS.out.ints HRDS.out.grps (by omega) HNB.out HMX.out (HIN.out hb8) HHAS.out h1 h2 hbig
                have HRL := Lib.hid hRL
                clear hRL
                unfold GivesGroup at HRL
                cases hra : groupAt l L ns ((sy : Nat) : Int) x with
                | none =>
                  rw [hra] at HRL
                  have hE : Hid (res = none) := Lib.hid (by rw [HR3.out, hrs.out]; unfold stepB; rw [h4, h17]; simp only [cond_true, cond_false, hra]; rfl)
                  clear hra
                  go_upto_region 18 with (first | (go_at_call 49; refine HRL.out.mono ?_; rintro e w7 ⟨rfl, hf7, _⟩) | fail)
                  obtain ⟨r1, r2⟩ := HRO.out w7 (HWS.out.trans (hf7.below HWS.out.size))
                  obtain ⟨⟨c0, c1, c2, c3, c4⟩, f0, f1, f2, f3, f4⟩ := cells5 _ _ _ _ _ _ _ _ r1
                  go_wp2_with fail
                  exact read_none (by rfl) (by rfl) r1 r2 hE.out rfl
                | some g =>
                  rw [hra] at HRL
                  have hst : Hid (∀ m, restGo l L ns ((sy : Nat) : Int) L ⟨ss, [], false, [], List.replicate ln false⟩ = restGo l L ns ((sy : Nat) : Int) (L.drop (k + 1)) ⟨vv.map SecV.s, (gv ++ [(⟨g, m⟩ : GroupV)]).map GroupV.g, hs, sg, nm⟩) := Lib.hid (fun m => by rw [hrs.out, List.map_append]; unfold stepB; rw [h4, h17]; simp only [cond_true, cond_false, hra]; rfl)
                  have HGML : Hid (g.members.length ≤ 100000) := Lib.hid (by have := groupAt_len hra; have := HIN.out hb8; have := (fitsB_iff _).1 (HMX.out x.e (by simp [Ten.l])); omega)
                  clear hra
                  go_upto_region 17 with (first | (go_at_call 49; refine HRL.out.mono ?_; rintro e w7 ⟨rfl, hf7, hall⟩) | fail)
                  obtain ⟨v2', m, e1, e2, e3, e4, e5⟩ := hall g rfl
                  have HRD7 := Lib.hid (HRDS.out.group hf7 HWS.out.size e1 e2 e3 e4 e5)
                  have HW7 := Lib.hid (HWS.out.trans (hf7.below HWS.out.size))
                  clear hall hf7 e1 e2 e3 e4 e5
                  go_wp2_with fail
                  go_roundw
                  case rel => exact ⟨k + 1, v2', u4, hs, vv, _, sg, nm, hlt, by go_num, HRD7.out, HW7.out, HFSK.out, hst.out m, HVL.out, by rw [List.length_append]; simp; omega, HNML.out, HSBD.out, HVD.out, (fun y hy => by
                    rcases List.mem_append.1 hy with hy | hy
                    · exact HGM.out y hy
                    · obtain rfl := List.mem_singleton.1 hy
                      exact HGML.out)⟩
                  case measure => simp [intOf]; omega
              | false =>
                cases h18 : (x.b == 1879002115) with
                | true =>
                  have hb8 : x.b ≠ 8 := by simp only [beq_iff_eq] at h18; omega
                  have hRL := readSig_any w0.heap.size (w.heap.size + 1) (w.heap.size + 1 + 1) w0 x bp bc l (.slice (some ⟨b, off, none⟩) ln hc) vn vs v0 v1 u2 u4 ((sy : Nat) : Int) hs ws rfl HWS.out HN1.out HRDS.out.f HRDS.out.g HHAS.out h1 h2 hbig HMX.out (HIN.out hb8)
                  have HRL := Lib.hid hRL
                  clear hRL hb8
                  unfold GivesSig at HRL
                  cases hra : sigGo l hs ((sy : Nat) : Int) x with
                  | none =>
                    rw [hra] at HRL
                    have hE : Hid (res = none) := Lib.hid (by rw [HR3.out, hrs.out]; unfold stepB; rw [h4, h17, h18]; simp only [cond_true, cond_false, hra]; rfl)
                    clear hra
                    go_upto_region 18 with (first | (go_at_call 50; refine HRL.out.mono ?_; rintro e w7 ⟨rfl, hf7, _⟩) | fail)
                    obtain ⟨r1, r2⟩ := HRO.out w7 (HWS.out.trans (hf7.below HWS.out.size))
                    obtain ⟨⟨c0, c1, c2, c3, c4⟩, f0, f1, f2, f3, f4⟩ := cells5 _ _ _ _ _ _ _ _ r1
                    go_wp2_with fail
                    exact read_none (by rfl) (by rfl) r1 r2 hE.out rfl
                  | some xs =>
                    rw [hra] at HRL
                    have hst : Hid (restGo l L ns ((sy : Nat) : Int) L ⟨ss, [], false, [], List.replicate ln false⟩ = restGo l L ns ((sy : Nat) : Int) (L.drop (k + 1)) ⟨vv.map SecV.s, gv.map GroupV.g, true, xs, nm⟩) := Lib.hid (by rw [hrs.out]; unfold stepB; rw [h4, h17, h18]; simp only [cond_true, cond_false, hra]; rfl)
                    have HXB := Lib.hid (sigGo_bd hra)
                    clear hra
                    go_upto_region 17 with (first | (go_at_call 50; refine HRL.out.mono ?_; rintro e w7 ⟨rfl, hf7, hall⟩) | fail)
                    obtain ⟨v, e1, e2⟩ := hall xs rfl
                    have HRD7 := Lib.hid (HRDS.out.sigs hf7 HWS.out.size e1 e2)
                    have HW7 := Lib.hid (HWS.out.trans (hf7.below HWS.out.size))
                    clear hall hf7 e1 e2
                    go_wp2_with fail
                    go_roundw
                    case rel => exact ⟨k + 1, u2, v, true, vv, gv, xs, nm, hlt, by go_num, HRD7.out, HW7.out, HFSK.out, hst.out, HVL.out, by omega, HNML.out, HXB.out, HVD.out, HGM.out⟩
                    case measure => simp [intOf]; omega
                | false =>
                  have hst : Hid (restGo l L ns ((sy : Nat) : Int) L ⟨ss, [], false, [], List.replicate ln false⟩ = restGo l L ns ((sy : Nat) : Int) (L.drop (k + 1)) ⟨vv.map SecV.s, gv.map GroupV.g, hs, sg, nm⟩) := Lib.hid (by rw [hrs.out]; unfold stepB; rw [h4, h17, h18]; rfl)
                  go_wp2_with fail
                  go_roundw
                  case rel => exact ⟨k + 1, u2, u4, hs, vv, gv, sg, nm, hlt, by go_num, HRDS.out, HWS.out, HFSK.out, hst.out, HVL.out, by omega, HNML.out, HSBD.out, HVD.out, HGM.out⟩
                  case measure => simp [intOf]; omega
          · obtain rfl : k = ln := by omega
            have hJ : ¬ (k : Int) < (k : Int) := by omega
            have hE : Hid (res = some ⟨vv.map SecV.s, ys, gv.map GroupV.g, hs, sg⟩) := Lib.hid (by rw [HR3.out, HGO.out, List.drop_eq_nil_of_le (by rw [HLN.out]; exact Nat.le_refl _)]; rfl)
            obtain ⟨r1, r2⟩ := HRO.out wr HBW.out
            obtain ⟨⟨c0, c1, c2, c3, c4⟩, f0, f1, f2, f3, f4⟩ := cells5 _ _ _ _ _ _ _ _ r1
            obtain ⟨⟨g0, g1, g2, g3, g4⟩, _⟩ := cells5 _ _ _ _ _ _ _ _ HRDK.out.g
            obtain ⟨q0, z0, rfl, _, _, _⟩ := slice_form HRDK.out.secs
            obtain ⟨q1, z1, rfl, _, _, _⟩ := slice_form HRDK.out.syms
            obtain ⟨q2, z2, rfl, _, _, _⟩ := slice_form HRDK.out.grps
            obtain ⟨q4, z4, rfl, _, _, _⟩ := slice_form HRDK.out.sg
            have hf5 := five_set (.slice q0 vv.length z0) (.slice q1 ys.length z1) (.slice q2 gv.length z2) (.bool hs) (.slice q4 sg.length z4) (Nat.le_refl w.heap.size) r1
            have HF5 := Lib.hid hf5
            have hrr : ∀ W, FrT 0 [27] wr W → ObjParts W (.slice q0 vv.length z0) (.slice q1 ys.length z1) (.slice q2 gv.length z2) (.slice q4 sg.length z4) ⟨vv.map SecV.s, ys, gv.map GroupV.g, hs, sg⟩ := fun W hW =>
              ⟨isL_secs (hW.owns HRDK.out.secs (by decide)) (fun y hy => (HRDK.out.secok y hy).fr hW (by decide) (by decide)), isL_syms (hW.owns HRDK.out.syms (by decide)) HYB.out, isL_groups (hW.owns HRDK.out.grps (by decide)) (fun y hy => (HRDK.out.grpok y hy).fr hW (by decide)), isL_ints (hW.owns HRDK.out.sg (by decide)) HSBD.out⟩
            have HPP := Lib.hid hrr
            clear hf5 hrr
            go_wp2_with fail
            exact read_end (o := ⟨vv.map SecV.s, ys, gv.map GroupV.g, hs, sg⟩) (by rfl) (by rfl) HF5.out.1 (r2.trans (HF5.out.2.below r2.size)) (fun W' hW' => HPP.out W' (HF5.out.2.zero.trans hW')) ⟨by rw [List.length_map]; have := HVL.out; omega, by show ys.length ≤ _; have := HYL.out; omega, by rw [List.length_map]; omega, fun s hs => (by
              obtain ⟨y, hy, rfl⟩ := List.mem_map.1 hs
              have := HVD.out y hy
              omega), fun g hg => (by
              obtain ⟨y, hy, rfl⟩ := List.mem_map.1 hg
              have := HGM.out y hy
              omega)⟩ (by rw [hE.out]; rfl) (.inr hE.out)
end Go.Proofs.YtenmcmnhiejbgaaGreat
