/-
  Contracts of the project's strtab: May, At, Make.
  Contract of the project's readNames.
-/
import Derived.Test.YtenmcmnhiejbgaaGreatJg05
import Derived.Maps.OwnSet
import Derived.Maps.OwnOps
import Derived.Test.YtenmcmnhiejbgaaGreatJg04
namespace Go.Proofs.YtenmcmnhiejbgaaGreat
open Go.RowKit Go.Maps Go.WideMaps

theorem may_idx (l : List UInt8) : mayB l = (decide (l.length ≤ 32) && decide (Lib.indexByte l 0 < 0)) := by
  rcases first_of 0 l with ⟨k, h1, h2⟩ | h
  · rw [mayB_zero h1, idx_some h2 h1]
    simp
  · rw [idx_none h]
    by_cases hl : l.length ≤ 32
    · rw [mayB_yes hl fun i y _ hy => h i y hy]
      simp [hl]
    · rw [mayB_long (by omega)]
      simp [hl]

set_option maxRecDepth 100000 in
theorem sMay_any (s : ByteArray) (w : World) : Calls Tryz.prog 124 #[.string s] w fun e w' => e = .returned (.bool (mayB (lst s))) ∧ w = w' := by
  have HN := Lib.hid (strIdx_any s 0 w)
  have hz : (lst s).length = s.size := by simp
  have hm : mayB (lst s) = (decide (s.size ≤ 32) && decide (Lib.indexByte (lst s) 0 < 0)) := by rw [may_idx, hz]
  clear hz
  by_cases h32 : s.size ≤ 32
  · have hI : (s.size : Int) ≤ 32 := by omega
    by_cases h0 : Lib.indexByte (lst s) 0 < 0
    · have HM : Hid (mayB (lst s) = true) := Lib.hid (by rw [hm]; simp [h32, h0])
      have hd : decide (Lib.indexByte s.data.toList (Int.toNat 0).toUInt8 < 0) = true := decide_eq_true h0
      clear hm h0
      generalize Lib.indexByte s.data.toList (Int.toNat 0).toUInt8 = r at *
      have hr : r < 0 := of_decide_eq_true hd
      clear hd
      go_enter Tryz.func124, Tryz.ntmps124
      go_wp2_with fail
      refine HN.out.mono ?_
      rintro e w' ⟨rfl, rfl⟩
      go_wp2_with fail
      go_ret
      exact ⟨by rw [HM.out]; first | rfl | (simp; omega) | fail, rfl⟩
    · have HM : Hid (mayB (lst s) = false) := Lib.hid (by rw [hm]; simp [h0])
      have hd : ¬ Lib.indexByte s.data.toList (Int.toNat 0).toUInt8 < 0 := h0
      clear hm h0
      generalize Lib.indexByte s.data.toList (Int.toNat 0).toUInt8 = r at *
      go_enter Tryz.func124, Tryz.ntmps124
      go_wp2_with fail
      refine HN.out.mono ?_
      rintro e w' ⟨rfl, rfl⟩
      go_wp2_with fail
      go_ret
      exact ⟨by rw [HM.out]; first | rfl | (simp; omega) | fail, rfl⟩
  · have HM : Hid (mayB (lst s) = false) := Lib.hid (by rw [hm]; simp [h32])
    have hI : ¬ (s.size : Int) ≤ 32 := by omega
    clear hm
    go_enter Tryz.func124, Tryz.ntmps124
    go_wp2_with fail
    go_ret
    exact ⟨by rw [HM.out]; first | rfl | (simp; omega) | fail, rfl⟩

set_option maxRecDepth 100000 in
theorem sAt_out (p : Option Addr) (len cap : Nat) (at_ : Int) (w : World) (h : at_ < 0 ∨ (len : Int) ≤ at_) :
    Calls Tryz.prog 119 #[.slice p len cap, .int .i64 at_] w fun e w' => e = .returned (.tuple #[.string (str []), .bool false]) ∧ w = w' := by
  by_cases h0 : at_ < 0
  · clear h
    go_enter Tryz.func119, Tryz.ntmps119
    go_wp2
    go_ret2
    exact ⟨rfl, rfl⟩
  · have h1 : (len : Int) ≤ at_ := h.resolve_left h0
    clear h
    go_enter Tryz.func119, Tryz.ntmps119
    go_wp2
    go_ret2
    exact ⟨rfl, rfl⟩

/-- What the search among the first 33 bytes, or all, tells. -/
theorem at_idx (d : List UInt8) (n : Nat) (hn : n = d.length ∨ 33 = n ∧ n ≤ d.length) (hn2 : n ≤ 33) :
    (Lib.indexByte (d.take n) 0 = -1 ∧ atOut d = .returned (.tuple #[.string (str []), .bool false])) ∨
    ∃ k : Nat, Lib.indexByte (d.take n) 0 = k ∧ k < n ∧ atOut d = .returned (.tuple #[.string (str (d.take k)), .bool true]) := by
  rcases first_of 0 d with ⟨k, h1, h2⟩ | h
  · have hkd : k < d.length := (List.getElem?_eq_some_iff.1 h1).1
    by_cases hk : k < n
    · refine .inr ⟨k, idx_some (fun i y hi hy => ?_) ?_, hk, atOut_hit h2 h1 (by omega)⟩
      · rw [List.getElem?_take] at hy
        split at hy
        · exact h2 i y hi hy
        · cases hy
      · rw [List.getElem?_take, if_pos hk]; exact h1
    · refine .inl ⟨idx_none fun i y hy => ?_, atOut_miss (k := k) h2 (.inr (by omega))⟩
      rw [List.getElem?_take] at hy
      split at hy
      · exact h2 i y (by omega) hy
      · cases hy
  · refine .inl ⟨idx_none fun i y hy => ?_, atOut_miss (k := d.length) (fun i y _ => h i y) (.inl rfl)⟩
    rw [List.getElem?_take] at hy
    split at hy
    · exact h i y hy
    · cases hy

set_option maxRecDepth 100000 in
set_option maxHeartbeats 1000000 in
theorem sAt_in (p : Option Addr) (len cap : Nat) (l : List UInt8) (a : Nat) (w : World) (h : Has w p l) (hlen : l.length = len) (ha : a < len) (hcap : len ≤ cap) (hbig : len ≤ 1000000000) :
    Calls Tryz.prog 119 #[.slice p len cap, .int .i64 a] w fun e w' => e = atOut (l.drop a) ∧ w = w' := by
  obtain ⟨b, off, rfl, hcell⟩ := h.plain (by omega)
  have hca : ¬ cap = a := by omega
  obtain ⟨d, hd⟩ : ∃ d, d = l.drop a := ⟨_, rfl⟩
  rw [← hd]
  have hdl : d.length = len - a := by rw [hd, List.length_drop, hlen]
  have hH : Has w (some ⟨b, off + a, none⟩) d := Has.of_plain fun i x hx => by
    rw [hd, List.getElem?_drop] at hx
    rw [Nat.add_assoc]
    exact hcell _ _ hx
  have hHt : ∀ n, Has w (some ⟨b, off + a, none⟩) (d.take n) := fun n i x hx => by
    rw [List.getElem?_take] at hx
    split at hx
    · exact hH i x hx
    · cases hx
  clear h hcell hd hlen
  obtain ⟨n, hn, hnl, hn2⟩ : ∃ n, (n = len - a ∧ len - a ≤ 33 ∨ n = 33 ∧ 33 < len - a) ∧ n ≤ 33 ∧ n ≤ len - a := by
    by_cases h : len - a ≤ 33
    · exact ⟨len - a, .inl ⟨rfl, h⟩, h, Nat.le_refl _⟩
    · exact ⟨33, .inr ⟨rfl, by omega⟩, Nat.le_refl _, by omega⟩
  have hB := bIdx_any (hHt n) n (cap - a) (by simp; omega) 0
  have hA := at_idx d n (by omega) hnl
  have HT := Lib.hid hHt
  clear hHt hH
  rcases hA with ⟨hi, ho⟩ | ⟨k, hi, hk, ho⟩
  · have hB2 : Calls Tryz.prog 132 #[.slice (some ⟨b, off + a, none⟩) n (cap - a), .int .u8 0] w fun e w' => e = .returned (.int .i64 (-1)) ∧ w = w' := by
      have e : (Int.toNat 0).toUInt8 = 0 := rfl
      rw [e, hi] at hB
      exact hB
    have HB := Lib.hid hB2
    have HO := Lib.hid ho
    clear hB hB2 hi ho
    rcases hn with ⟨rfl, h33⟩ | ⟨rfl, h33⟩
    · have hI : (len : Int) - a ≤ 33 := by omega
      go_enter Tryz.func119, Tryz.ntmps119
      go_wp2_with fail
      all_goals first
        | omega
        | (refine HB.out.mono ?_
           rintro e w' ⟨rfl, rfl⟩
           go_wp2_with fail
           go_ret2
           exact ⟨HO.out.symm, rfl⟩)
        | fail
    · have hI : 33 < (len : Int) - a := by omega
      go_enter Tryz.func119, Tryz.ntmps119
      go_wp2_with fail
      all_goals first
        | omega
        | (refine HB.out.mono ?_
           rintro e w' ⟨rfl, rfl⟩
           go_wp2_with fail
           go_ret2
           exact ⟨HO.out.symm, rfl⟩)
        | fail
  · have hB2 : Calls Tryz.prog 132 #[.slice (some ⟨b, off + a, none⟩) n (cap - a), .int .u8 0] w fun e w' => e = .returned (.int .i64 k) ∧ w = w' := by
      have e : (Int.toNat 0).toUInt8 = 0 := rfl
      rw [e, hi] at hB
      exact hB
    have HB := Lib.hid hB2
    have HO := Lib.hid ho
    have hcv := conv_now (cap := cap - a) (HT.out k) (n := k) (by simp; omega)
    clear hB hB2 hi ho
    rcases hn with ⟨rfl, h33⟩ | ⟨rfl, h33⟩
    · have hI : (len : Int) - a ≤ 33 := by omega
      go_enter Tryz.func119, Tryz.ntmps119
      go_wp2_with fail
      all_goals first
        | omega
        | (refine HB.out.mono ?_
           rintro e w' ⟨rfl, rfl⟩
           go_wp2_with fail
           go_ret2
           exact ⟨HO.out.symm, rfl⟩)
        | fail
    · have hI : 33 < (len : Int) - a := by omega
      go_enter Tryz.func119, Tryz.ntmps119
      go_wp2_with fail
      all_goals first
        | omega
        | (refine HB.out.mono ?_
           rintro e w' ⟨rfl, rfl⟩
           go_wp2_with fail
           go_ret2
           exact ⟨HO.out.symm, rfl⟩)
        | fail

theorem sAt_any (p : Option Addr) (len cap : Nat) (l : List UInt8) (at_ : Int) (w : World) (h : Has w p l) (hlen : l.length = len) (hcap : len ≤ cap) (hbig : len ≤ 1000000000) :
    Calls Tryz.prog 119 #[.slice p len cap, .int .i64 at_] w fun e w' => e = atAny l at_ ∧ w = w' := by
  by_cases hin : 0 ≤ at_ ∧ at_ < len
  · obtain ⟨a, rfl⟩ := Int.eq_ofNat_of_zero_le hin.1
    have := sAt_in p len cap l a w h hlen (by omega) hcap hbig
    have e : atAny l a = atOut (l.drop a) := by unfold atAny; rw [if_pos (by omega)]; rfl
    rwa [e]
  · have := sAt_out p len cap at_ w (by omega)
    have e : atAny l at_ = .returned (.tuple #[.string (str []), .bool false]) := by unfold atAny; rw [if_neg (by omega)]
    rwa [e]

/-! ## Make: a map tells what stands -/
/-- A literal's entry, at the operation. -/
theorem wpList_insert_own {H : Type} {P : Program} (w : World) {ops : Array Oper} {rest : List Oper} {o : Oper} {a : Act} {Q : Exit → Act → World → Prop}
    (hg : o.guard = none) (m x v : Operand) (t : TypeId) (hop : o.op = Op.insert t m x v)
    (k e : TypeId) (K : Keyed P k) (ht : P.underlying t = some (.map k e)) (R : Value → Option (DataW H × List MemPlace)) (b n : Nat) (D : DataW H)
    (hm : a.eval m = .map (some b)) (hown : w.ownsMap P k R b n D) (hn : n < maxLen) (key val : Value) (kl : Lit) (hx : a.eval x = key) (hv : a.eval v = val) (hkey : keyOf P k key = some kl)
    (d : DataW H) (ps : List MemPlace) (hval : R val = some (d, ps))
    (hK : ∀ w', w'.ownsMap P k R b (n + 1) (D.put kl d) → w.grownBy w' (some b) → wpList P ops Q rest (a.put o.dst undef) w') :
    wpList P ops Q (o :: rest) a w := by
  refine wpList_plain hg fun K' hK' => ?_
  obtain ⟨w', hrun, r1, r2⟩ := hown.update K ht hn hkey hval
  unfold Oper.wp
  simp [execOp, hop, hm, hx, hv, hrun, Result.andThen]
  exact hK' _ _ (hK w' r1 r2)

theorem map_apart {H : Type} {P : Program} {w : World} {b1 b : Nat} {e1 k : TypeId} {s1 : Nat} {v1 : Value} {n1 n : Nat} {xs1 : List Value} {R : Value → Option (DataW H × List MemPlace)} {D : DataW H} (h1 : w.ownsRow b1 e1 s1 v1 n1 xs1) (h2 : w.ownsMap P k R b n D) :
    v1.ownBlock = none ∨ v1.ownBlock ≠ some b := by
  obtain ⟨es, clock, hb, _⟩ := h2
  rcases h1.2 with ⟨rfl, _⟩ | ⟨g, cap, cur, rfl, _, hg, _⟩
  · exact .inl rfl
  · right
    simp only [Value.ownBlock, ne_eq, Option.some.injEq]
    intro e
    subst e
    rw [hg] at hb
    cases hb
theorem map_apart2 {H : Type} {P : Program} {w : World} {b1 b : Nat} {e1 k : TypeId} {s1 : Nat} {v1 : Value} {n1 n : Nat} {xs1 : List Value} {R : Value → Option (DataW H × List MemPlace)} {D : DataW H} (h1 : w.ownsRow b1 e1 s1 v1 n1 xs1) (h2 : w.ownsMap P k R b n D) :
    some b ≠ v1.ownBlock := by
  rcases map_apart h1 h2 with h | h
  · rw [h]; simp
  · exact fun e => h e.symm

theorem keyLaw : Keyed Tryz.prog 9 := string_keyed Tryz.underlying9
theorem zeroInt (w : World) : (zeroValue 3).run Tryz.prog w = .ok (.int .i64 0) w := by kernel_rfl
/-- The map in block b knows who stands, and where. -/
def Knows (wr : World) (b k : Nat) (ns : List Nm) : Prop :=
  ∃ D : DataW Unit, wr.ownsMap Tryz.prog 9 (plainElem Tryz.prog 3) b k D ∧ ∀ n : Nm, ((n = [] ∨ n ∈ ns) ∧ Maps.has D (.string n) = true ∧ D.atKey (.string n) (.lit (.int .i64 0)) = .lit (.int .i64 (placeOf ns n : Int))) ∨ (¬ (n = [] ∨ n ∈ ns) ∧ Maps.has D (.string n) = false)
theorem isKey (n : Nm) : WideAt.IsKeyLit (.string n) := trivial
theorem knows_start {wr : World} {b : Nat} (h : wr.ownsMap Tryz.prog 9 (plainElem (H := Unit) Tryz.prog 3) b 1 ((DataW.map []).put (.string []) (.lit (.int .i64 0)))) : Knows wr b 1 [] := by
  refine ⟨_, h, fun n => ?_⟩
  by_cases hn : n = []
  · subst hn
    refine .inl ⟨.inl rfl, has_put_same isMap_empty (isKey _) _, ?_⟩
    rw [atKey_put_same isMap_empty (isKey _)]
    rfl
  · refine .inr ⟨by simp [hn], ?_⟩
    rw [has_put_other (by simpa using hn)]
    rfl
theorem knows_old {wr : World} {b k : Nat} {ns : List Nm} {x : Nm} (h : Knows wr b k ns) (hx : x = [] ∨ x ∈ ns) : Knows wr b (k + 1) (ns ++ [x]) := by
  obtain ⟨D, hD, hn⟩ := h
  refine ⟨D, hD.mono (Nat.le_succ _), fun n => ?_⟩
  rcases hn n with ⟨h1, h2, h3⟩ | ⟨h1, h2⟩
  · refine .inl ⟨?_, h2, by rw [placeOf_old x h1]; exact h3⟩
    rcases h1 with h1 | h1
    · exact .inl h1
    · exact .inr (List.mem_append_left _ h1)
  · refine .inr ⟨fun hc => ?_, h2⟩
    rcases hc with hc | hc
    · exact h1 (.inl hc)
    · rcases List.mem_append.1 hc with hc | hc
      · exact h1 (.inr hc)
      · simp at hc
        subst hc
        exact h1 hx
theorem knows_new {D : DataW Unit} {wr : World} {b k : Nat} {ns : List Nm} {x : Nm} {p : Nat} (hn : ∀ n : Nm, ((n = [] ∨ n ∈ ns) ∧ Maps.has D (.string n) = true ∧ D.atKey (.string n) (.lit (.int .i64 0)) = .lit (.int .i64 (placeOf ns n : Int))) ∨ (¬ (n = [] ∨ n ∈ ns) ∧ Maps.has D (.string n) = false))
    (hD : IsMap D) (h : wr.ownsMap Tryz.prog 9 (plainElem Tryz.prog 3) b (k + 1) (D.put (.string x) (.lit (.int .i64 (p : Int))))) (h0 : x ≠ []) (hx : x ∉ ns) (hp : p = (tabOf ns).tb.length) : Knows wr b (k + 1) (ns ++ [x]) := by
  subst hp
  refine ⟨_, h, fun n => ?_⟩
  by_cases e : n = x
  · subst e
    refine .inl ⟨.inr (by simp), has_put_same hD (isKey _) _, ?_⟩
    rw [atKey_put_same hD (isKey _), (tab_new h0 hx).2]
  · rw [has_put_other (by simpa using e), atKey_put_other (by simpa using e)]
    rcases hn n with ⟨h1, h2, h3⟩ | ⟨h1, h2⟩
    · refine .inl ⟨?_, h2, by rw [placeOf_old x h1]; exact h3⟩
      rcases h1 with h1 | h1
      · exact .inl h1
      · exact .inr (List.mem_append_left _ h1)
    · refine .inr ⟨fun hc => ?_, h2⟩
      rcases hc with hc | hc
      · exact h1 (.inl hc)
      · rcases List.mem_append.1 hc with hc | hc
        · exact h1 (.inr hc)
        · simp at hc
          exact e hc

/-- The places behind k rounds: zeros behind them. -/
def plRow (ns : List Nm) (len : Nat) : List Value := natV (placesOf ns) ++ List.replicate (len - ns.length) (.int .i64 0)
theorem plRow_zero (len : Nat) : plRow [] len = List.replicate len (.int .i64 0) := by simp [plRow, placesOf, natV]
theorem plRow_full {ns : List Nm} {len : Nat} (h : ns.length = len) : plRow ns len = natV (placesOf ns) := by simp [plRow, h]
theorem natV_length (l : List Nat) : (natV l).length = l.length := by simp [natV]
theorem plRow_step {ns : List Nm} {x : Nm} {len q : Nat} (h : ns.length < len) (hq : q = placeOf (ns ++ [x]) x) : (plRow ns len).set ns.length (.int .i64 (q : Int)) = plRow (ns ++ [x]) len := by
  have hl : (natV (placesOf ns)).length = ns.length := by rw [natV_length, placesOf_length]
  unfold plRow
  rw [List.set_append_right _ _ (by omega), hl, Nat.sub_self, show len - ns.length = (len - (ns ++ [x]).length) + 1 by simp; omega, List.replicate_succ, List.set_cons_zero, placesOf_snoc, ← hq, ← natV_snoc]
  simp
theorem plRow_length {ns : List Nm} {len : Nat} (h : ns.length ≤ len) : (plRow ns len).length = len := by
  unfold plRow
  rw [List.length_append, natV_length, placesOf_length, List.length_replicate]
  omega

set_option maxRecDepth 100000 in
set_option maxHeartbeats 2000000 in
theorem sMake_wide (p : Option Addr) (len cap : Nat) (ss : List ByteArray) (w : World) (h : HasS w p ss) (hlen : ss.length = len) (hl100 : len ≤ 1000) (hs : ∀ s ∈ ss, mayB (lst s) = true) :
    Calls Tryz.prog 68 #[.slice p len cap] w (GivesT (ss.map lst) w) := by
  obtain ⟨i0, hi, hz0, hz1, hz2⟩ := info_parts Tryz.infoU8
  obtain ⟨i1, gi, gz0, gz1, gz2⟩ := info_parts Tryz.infoInt
  have HI := Lib.hid hi
  have H0 := Lib.hid hz0
  have H1 := Lib.hid hz1
  have H2 := Lib.hid hz2
  have GI := Lib.hid gi
  have G0 := Lib.hid gz0
  have G1 := Lib.hid gz1
  have G2 := Lib.hid gz2
  have HS := Lib.hid hs
  have HM := Lib.hid h
  have HL := Lib.hid hlen
  have gb8 : i1.bytes * len ≤ 281474976710656 := by rw [gz2]; omega
  clear hs h hlen hi hz0 hz1 hz2 gi gz0 gz1 gz2
  have hmm := @run_makeMap Tryz.prog
  go_enter Tryz.func68, Tryz.ntmps68
  go_wp2_with (refine wpList_insert_own (H := Unit) _ rfl (.tmp 12) _ _ 156 rfl 9 3 keyLaw Tryz.underlying156 (plainElem Tryz.prog 3) (w.heap.size + 1) 0 _ rfl (by simpa using World.ownsMap_made (w.alloc (.cells #[.int .u8 0] 5)) _ _ _) (by unfold maxLen; omega) _ _ _ rfl rfl (keyOf_string_mk Tryz.underlying9 (by decide)) _ [] (plainElem_int Tryz.underlying3 (by decide)) ?_)
  intro w1 hm1 hg1
  have hk1 : Knows w1 (w.heap.size + 1) 1 [] := knows_start hm1
  have ht1 : w1.ownsRow w.heap.size 5 1 (.slice (some ⟨w.heap.size, 0, none⟩) 1 1) 1 ([0].map u8v) := ((zero_row w).alloc (.map #[] 0)).kept hg1 (.inr (by simp [Value.ownBlock]))
  have hb1 : Below w.heap.size w w1 := (((Below.refl _ w).alloc (Nat.le_refl _) _).alloc (by simp) _).grown hg1 (by simp; omega) (fun g hg => by simp at hg; omega)
  clear hm1 hg1
  go_wp2_with (at_make; refine wpList_make_full _ rfl _ _ 25 rfl w.heap.size 3 i1 (.int .i64 0) 1 Tryz.underlying25 GI.out G0.out G1.out _ _ _ _ len rfl rfl rfl rfl gb8 (by unfold maxLen; omega) hb1.size ?_)
  intro w2 hp2 hg2
  have hk2 : Knows w2 (w.heap.size + 1) 1 [] := let ⟨D, hD, hn⟩ := hk1; ⟨D, hD.kept hg2 (by simp), hn⟩
  have ht2 := ht1.kept hg2 (.inr (by simp [Value.ownBlock]))
  have hb2 : Below w.heap.size w w2 := hb1.grown hg2 hb1.size (fun g hg => by cases hg)
  have hp3 : w2.ownsRow w.heap.size 3 1 (.slice (some ⟨w1.heap.size, 0, none⟩) len len) len (plRow [] len) := by
    rw [plRow_zero, ← toList_madeCells_one]
    exact hp2
  clear hp2 hg2 hk1 ht1 hb1
  generalize w1.heap.size = gp at *
  go_wp2_with fail
  go_loopw [4, 19] (fun out ii wr => ∃ (k n : Nat) (ns : List Nm), k ≤ len ∧ n ≤ 33 * k + 1 ∧ ns = (ss.take k).map lst ∧ ii = .int .i64 (k : Int) ∧ wr.ownsRow w.heap.size 5 1 out n ((tabOf ns).tb.map u8v) ∧ wr.ownsRow w.heap.size 3 1 (.slice (some ⟨gp, 0, none⟩) len len) len (plRow ns len) ∧ Knows wr (w.heap.size + 1) (k + 1) ns ∧ Below w.heap.size w wr) (fun _ ii _ => len - (intOf ii).toNat)
  case atStart => exact ⟨0, 1, [], Nat.zero_le _, Nat.le_refl _, rfl, rfl, ht2, hp3, hk2, hb2⟩
  case round =>
    obtain ⟨k, n, ns, hk, hn, hns, rfl, hown, hpl, hkn, hb⟩ := hrel
    have HN := Lib.hid hns
    clear hns ht2 hp3 hk2 hb2
    by_cases hlt : k < len
    · obtain ⟨b, off, x, rfl, hx, hc0⟩ := HM.out.at_ (i := k) (by rw [HL.out]; exact hlt)
      have hc := cell_later hb hc0
      have HX := Lib.hid hx
      have hI1 : (k : Int) < (len : Int) := by omega
      have hI0 : (0 : Int) ≤ (k : Int) := by omega
      have hnsl : ns.length = k := by rw [HN.out]; simp; have := HL.out; omega
      have HNL := Lib.hid hnsl
      have hx32 := (all_ne (HS.out x (List.mem_of_getElem? HX.out))).1
      have hxs : (lst x).length = x.size := by simp
      have hsz : x.size ≤ 32 := by omega
      have hn1 : (ss.take (k + 1)).map lst = ns ++ [lst x] := by
        rw [List.take_add_one, HX.out, HN.out]
        simp
      have HN1 := Lib.hid hn1
      obtain ⟨D, hD, hwho⟩ := hkn
      have hkey : keyOf Tryz.prog 9 (.string x) = some (.string (lst x)) := keyOf_string_mk Tryz.underlying9 (by unfold maxLen; omega)
      have HW := Lib.hid hwho
      have HK := Lib.hid hkey
      clear hc0 hx hnsl hx32 hxs hn1 hwho hkey
      rcases HW.out (lst x) with ⟨hold, hhas, hatk⟩ | ⟨hnew, hhas⟩
      · have HT := Lib.hid (tab_old hold)
        have HO := Lib.hid hold
        have HAT := Lib.hid hatk
        have HAS := Lib.hid hhas
        clear hold hatk hhas
        go_wp2_with (at_lookup; refine wpList_lookup_own_ok_int wr rfl (.tmp 25) (.tmp 26) 156 rfl 9 3 .i64 keyLaw Tryz.underlying156 Tryz.underlying3 (zeroInt _) (w.heap.size + 1) (k + 1) D rfl hD _ _ rfl HK.out ?_)
        intro c hat _
        have hcq : c = (placeOf ns (lst x) : Int) := by rw [HAT.out] at hat; simpa using hat.symm
        have HQ : Hid (placeOf ns (lst x) = placeOf (ns ++ [lst x]) (lst x)) := Lib.hid HT.out.2.symm
        rw [HAS.out]
        clear hat
        obtain ⟨q, hq⟩ : ∃ q, q = placeOf ns (lst x) := ⟨_, rfl⟩
        rw [← hq] at hcq HQ
        subst hcq
        clear hq
        have hcp : wr.cell? ⟨gp, k, none⟩ = some ((plRow ns len)[k]'(by rw [plRow_length (by have := HNL.out; omega)]; exact hlt)) := by
          rw [hpl.cellAt k (by omega)]
          exact List.getElem?_eq_getElem _
        generalize (plRow ns len)[k]'(by rw [plRow_length (by have := HNL.out; omega)]; exact hlt) = u0 at hcp
        have hf := hpl.frozenAt k
        have hst := hpl.stored k (.int .i64 (q : Int))
        rw [show k = ns.length from HNL.out.symm, plRow_step (by have := HNL.out; omega) HQ.out, HNL.out] at hst
        have HST := Lib.hid hst
        have hap := owns_apart hown hpl (by decide)
        have HTB : Hid ((wr.setCell ⟨gp, k, none⟩ (.int .i64 (q : Int))).ownsRow w.heap.size 5 1 u4 n ((tabOf (ns ++ [lst x])).tb.map u8v)) := Lib.hid (by rw [HT.out.1]; exact hown.kept hst.2 hap)
        have HKN : Hid (Knows (wr.setCell ⟨gp, k, none⟩ (.int .i64 (q : Int))) (w.heap.size + 1) (k + 1 + 1) (ns ++ [lst x])) := Lib.hid (knows_old ⟨D, hD.kept hst.2 (map_apart2 hpl hD), HW.out⟩ HO.out)
        have HBL : Hid (Below w.heap.size w (wr.setCell ⟨gp, k, none⟩ (.int .i64 (q : Int)))) := Lib.hid (hb.setCell (hpl.lt gp rfl).1 _)
        clear hst hap hD hown hpl hb
        go_wp2_with fail
        go_roundw
        case rel => exact ⟨k + 1, n, ns ++ [lst x], hlt, by omega, HN1.out.symm, by go_num, HTB.out, HST.out.1, HKN.out, HBL.out⟩
        case measure => simp [intOf]; omega
      · have HNW : Hid (lst x ≠ [] ∧ lst x ∉ ns) := Lib.hid (not_or.1 hnew)
        have HT := Lib.hid (tab_new (not_or.1 hnew).1 (not_or.1 hnew).2)
        have HAS := Lib.hid hhas
        have hnt : (tabOf ns).tb.length = n := by have := hown.1; simpa using this
        have HNT := Lib.hid hnt
        obtain ⟨p4, c4, rfl, _, _, _, _⟩ := Has.of_owns hown
        clear hnew hhas hnt
        go_wp2_with (at_lookup; refine wpList_lookup_own_ok_int wr rfl (.tmp 25) (.tmp 26) 156 rfl 9 3 .i64 keyLaw Tryz.underlying156 Tryz.underlying3 (zeroInt _) (w.heap.size + 1) (k + 1) D rfl hD _ _ rfl HK.out ?_)
        intro c _ _
        rw [HAS.out]
        go_wp2_with (at_mapUpdate; refine wpList_mapUpdate_own wr rfl (.tmp 34) (.tmp 35) (.tmp 36) 156 rfl 9 3 keyLaw Tryz.underlying156 (plainElem Tryz.prog 3) (w.heap.size + 1) (k + 1) D rfl hD (by unfold maxLen; omega) _ _ _ rfl rfl HK.out _ [] (plainElem_int Tryz.underlying3 (WalkArith.wf_i64 (by omega))) ?_)
        intro w3 hD3 hg3
        have hkn3 : Knows w3 (w.heap.size + 1) (k + 1 + 1) (ns ++ [lst x]) := knows_new HW.out hD.isMap hD3 HNW.out.1 HNW.out.2 HNT.out.symm
        have hown3 := hown.kept hg3 (map_apart hown hD)
        have hpl3 := hpl.kept hg3 (map_apart hpl hD)
        have hb3 : Below w.heap.size w w3 := hb.grown hg3 hb.size (fun g hg => by simp at hg; omega)
        clear hD3 hg3 hown hpl hD hb
        have hap := owns_apart hpl3 hown3 (by decide)
        go_wp2_with (at_builtin; refine Lib.wpList_append_own_string w3 rfl (.tmp 37) (.tmp 38) 31 9 rfl w.heap.size 5 i0 Tryz.underlying31 Tryz.underlying9 HI.out H0.out H1.out H2.out _ n _ rfl hown3 x rfl (by unfold maxLen; omega) (by omega) hb3.size ?_)
        intro v5 w5 hown5 hgrow5 _
        have hpl5 := hpl3.kept hgrow5 hap
        have hb5 : Below w.heap.size w w5 := hb3.grown hgrow5 hb3.size (fun g hg => (hown3.lt g hg).1)
        have hkn5 : Knows w5 (w.heap.size + 1) (k + 1 + 1) (ns ++ [lst x]) := let ⟨D3, hD3, hn3⟩ := hkn3; ⟨D3, hD3.kept hgrow5 (map_apart2 hown3 hD3), hn3⟩
        rw [strCells_lst, ← List.map_append] at hown5
        clear hgrow5 hpl3 hap hown3 hb3 hkn3
        go_wp2_with (at_builtin; refine wpList_append_own _ rfl (.tmp 40) (.tmp 41) 31 rfl w.heap.size 5 i0 (.int .u8 0) 1 1 Tryz.underlying31 HI.out H0.out H1.out H2.out rfl (by decide) _ _ _ rfl (hown5.alloc _) ⟨w5.heap.size, 0, none⟩ 1 1 [u8v 0] rfl rfl (one_cell_at w5 0) (one_cells 0) (by unfold maxLen; omega) (by omega) (by have := hb5.size; simp; omega) ?_)
        intro v6 w6 hown6 hgrow6 _
        have hap6 := owns_apart (hpl5.alloc (.cells #[.int .u8 0] 5)) (hown5.alloc (.cells #[.int .u8 0] 5)) (by decide)
        have hpl6 := (hpl5.alloc (.cells #[.int .u8 0] 5)).kept hgrow6 hap6
        have hb6 : Below w.heap.size w w6 := (hb5.alloc hb5.size _).grown hgrow6 (by have := hb5.size; simp; omega) (fun g hg => (hown5.lt g hg).1)
        have hkn6 : Knows w6 (w.heap.size + 1) (k + 1 + 1) (ns ++ [lst x]) := let ⟨D5, hD5, hn5⟩ := hkn5; ⟨D5, (hD5.alloc (.cells #[.int .u8 0] 5)).kept hgrow6 (map_apart2 (hown5.alloc (.cells #[.int .u8 0] 5)) (hD5.alloc (.cells #[.int .u8 0] 5))), hn5⟩
        rw [row_snoc2] at hown6
        clear hgrow6 hpl5 hap6 hown5 hb5 hkn5
        have hcp : w6.cell? ⟨gp, k, none⟩ = some ((plRow ns len)[k]'(by rw [plRow_length (by have := HNL.out; omega)]; exact hlt)) := by
          rw [hpl6.cellAt k (by omega)]
          exact List.getElem?_eq_getElem _
        generalize (plRow ns len)[k]'(by rw [plRow_length (by have := HNL.out; omega)]; exact hlt) = u0 at hcp
        have hf := hpl6.frozenAt k
        have hst := hpl6.stored k (.int .i64 (n : Int))
        rw [show k = ns.length from HNL.out.symm, plRow_step (q := n) (by have := HNL.out; omega) (by rw [HT.out.2, HNT.out]), HNL.out] at hst
        have HST := Lib.hid hst
        have hap7 := owns_apart hown6 hpl6 (by decide)
        have hlen6 : n + x.size + 1 ≤ 33 * (k + 1) + 1 := by omega
        have HTB : Hid ((w6.setCell ⟨gp, k, none⟩ (.int .i64 (n : Int))).ownsRow w.heap.size 5 1 v6 (n + x.size + 1) ((tabOf (ns ++ [lst x])).tb.map u8v)) := Lib.hid (by rw [HT.out.1, List.map_append]; exact hown6.kept hst.2 hap7)
        have HKN : Hid (Knows (w6.setCell ⟨gp, k, none⟩ (.int .i64 (n : Int))) (w.heap.size + 1) (k + 1 + 1) (ns ++ [lst x])) := Lib.hid (let ⟨D5, hD5, hn5⟩ := hkn6; ⟨D5, hD5.kept hst.2 (map_apart2 hpl6 hD5), hn5⟩)
        have HBL : Hid (Below w.heap.size w (w6.setCell ⟨gp, k, none⟩ (.int .i64 (n : Int)))) := Lib.hid (hb6.setCell (hpl6.lt gp rfl).1 _)
        clear hst hap7 hown6 hpl6 hb6 hkn6
        go_wp2_with fail
        go_roundw
        case rel => exact ⟨k + 1, n + x.size + 1, ns ++ [lst x], hlt, hlen6, HN1.out.symm, by go_num, HTB.out, HST.out.1, HKN.out, HBL.out⟩
        case measure => simp [intOf]; omega
    · obtain rfl : k = len := by omega
      have ht : ss.take k = ss := List.take_of_length_le (by rw [HL.out]; exact Nat.le_refl _)
      have HNS : Hid (ns = ss.map lst) := Lib.hid (by rw [HN.out, ht])
      have hnt : (tabOf ns).tb.length = n := by have := hown.1; simpa using this
      have hnsl : ns.length = k := by rw [HN.out, ht]; simp; exact HL.out
      rw [plRow_full hnsl] at hpl
      have hkl : (placesOf ns).length = k := by rw [placesOf_length, hnsl]
      rw [← hnt] at hown
      have hpl2 : wr.ownsRow w.heap.size 3 1 (.slice (some ⟨gp, 0, none⟩) k k) (placesOf ns).length (natV (placesOf ns)) := by rw [hkl]; exact hpl
      rw [HNS.out] at hown hpl2
      clear ht hnt hkl hnsl hpl
      go_wp2_with fail
      go_ret2
      exact ⟨_, _, rfl, hown, hpl2, hb⟩
end Go.Proofs.YtenmcmnhiejbgaaGreat

namespace Go.Proofs.YtenmcmnhiejbgaaGreat
open Go.RowKit

/-- The name that begins at a place of a table. -/
def strAt (l : List UInt8) (at_ : Int) : Option Nm := if 0 ≤ at_ ∧ at_ < l.length then nameB (l.drop at_.toNat) else none
theorem atAny_eq (l : List UInt8) (at_ : Int) : atAny l at_ = .returned (.tuple #[.string (str ((strAt l at_).getD [])), .bool (strAt l at_).isSome]) := by
  unfold atAny strAt
  split
  · unfold atOut
    cases nameB (l.drop at_.toNat) <;> rfl
  · rfl
/-- The names of headers, behind those that there are. -/
def nmGo (tb : List UInt8) : List ByteArray → List Ten → Option (List ByteArray)
  | acc, [] => some acc
  | acc, t :: r => match strAt tb t.a with
    | none => none
    | some n => nmGo tb (acc ++ [str n]) r
theorem nmGo_step {tb : List UInt8} {acc : List ByteArray} {L : List Ten} {k : Nat} {t : Ten} (h : L[k]? = some t) : nmGo tb acc (L.drop k) = match strAt tb t.a with
    | none => none
    | some n => nmGo tb (acc ++ [str n]) (L.drop (k + 1)) := by
  have hl := (List.getElem?_eq_some_iff.1 h).1
  rw [List.drop_eq_getElem_cons hl, (List.getElem?_eq_some_iff.1 h).2]
  rfl
/-- A file of which one cell is written, and a block laid. -/
theorem file_two {N F : Nat} {vb vh vn vs : Value} {sy : Int} {w : World} (hF : w.heap[F]? = some (.cells #[vb, vh, vn, vs, .int .i64 sy] 100 (0, 0))) (hNF : N ≤ F) (v : Value) (o : Obj) :
    ((w.setCell ⟨F, 2, none⟩ v).alloc o).heap[F]? = some (.cells #[vb, vh, v, vs, .int .i64 sy] 100 (0, 0)) ∧ FrT N [100] w ((w.setCell ⟨F, 2, none⟩ v).alloc o) := by
  have h1 := heap_setCell_same w F 2 _ _ v hF
  have hb : Below (w.setCell ⟨F, 2, none⟩ v).heap.size (w.setCell ⟨F, 2, none⟩ v) ((w.setCell ⟨F, 2, none⟩ v).alloc o) := (Below.refl _ _).alloc (Nat.le_refl _) _
  exact ⟨by rw [hb.block F (Array.getElem?_eq_some_iff.1 h1).1]; exact h1, (FrT.set hF (by simp) hNF v).trans (FrT.of_below hb)⟩
theorem file_one {N F : Nat} {vb vh vn vs : Value} {sy : Int} {w : World} (hF : w.heap[F]? = some (.cells #[vb, vh, vn, vs, .int .i64 sy] 100 (0, 0))) (hNF : N ≤ F) (v : Value) :
    (w.setCell ⟨F, 2, none⟩ v).heap[F]? = some (.cells #[vb, vh, v, vs, .int .i64 sy] 100 (0, 0)) ∧ FrT N [100] w (w.setCell ⟨F, 2, none⟩ v) :=
  ⟨heap_setCell_same w F 2 _ _ v hF, FrT.set hF (by simp) hNF v⟩
theorem names_lit (w : World) (F : Nat) (v : Value) : ((w.setCell ⟨F, 2, none⟩ v).alloc (.cells #[.string ⟨#[]⟩] 9)).ownsRow w.heap.size 9 1 (.slice (some ⟨w.heap.size, 0, none⟩) 1 1) 1 [Value.string ⟨#[]⟩] := by
  have := World.ownsRow_lit (base := w.heap.size) (e := 9) (size := 1) (w.setCell ⟨F, 2, none⟩ v) #[.string ⟨#[]⟩] 1 (by simp) (by decide) rfl
  simpa using this
/-- What readNames gives. -/
def GivesNames (F N : Nat) (vb vh vs : Value) (sy : Int) (r : Option (List ByteArray)) (w : World) (e : Ending) (w' : World) : Prop :=
  e = .returned (.bool r.isSome) ∧ ∃ vn, w'.heap[F]? = some (.cells #[vb, vh, vn, vs, .int .i64 sy] 100 (0, 0)) ∧ FrT N [100] w w' ∧ ∀ ns, r = some ns → w'.ownsRow w.heap.size 9 1 vn ns.length (ns.map Value.string)

set_option maxRecDepth 100000 in
set_option maxHeartbeats 4000000 in
theorem readNames_any (N F B : Nat) (w0 : World) (tp : Option Addr) (tc : Nat) (tb : List UInt8) (vb vh vn vs : Value) (sy : Int) (L : List Ten) (w : World) (hN : w0.heap.size = N) (hw : Below N w0 w) (hNF : N ≤ F)
    (hF : w.heap[F]? = some (.cells #[vb, vh, vn, vs, .int .i64 sy] 100 (0, 0))) (hL : w.ownsRow B 104 10 vh L.length (tensV L)) (ht : Has w0 tp tb) (h1 : tb.length ≤ tc) (hbig : tb.length ≤ 1000000) (hL1 : 1 ≤ L.length) (hL2 : L.length ≤ 100000) :
    Calls Tryz.prog 86 #[filP F, .slice tp tb.length tc] w (GivesNames F N vb vh vs sy (nmGo tb [str []] (L.drop 1)) w) := by
  obtain ⟨i0, hi, hz0, hz1, hz2⟩ := info_parts Tryz.infoStr
  have HI := Lib.hid hi
  have H0 := Lib.hid hz0
  have H1 := Lib.hid hz1
  have H2 := Lib.hid hz2
  have hFs := (Array.getElem?_eq_some_iff.1 hF).1
  obtain ⟨hp, hc, rfl, l1, l2, l3, hLh⟩ := tens_has hL
  have HAT := Lib.hid fun (W : World) (hW : Below N w0 W) (a : Int) => sAt_any tp tb.length tc tb a W (ht.below (by rw [hN]; exact hW)) rfl h1 (by omega)
  have HL := Lib.hid hL
  have HGN : Hid (GivesNames F N vb (.slice hp L.length hc) vs sy (nmGo tb [str []] (L.drop 1)) w = fun e w' => e = .returned (.bool (nmGo tb [str []] (L.drop 1)).isSome) ∧ ∃ vn, w'.heap[F]? = some (.cells #[vb, .slice hp L.length hc, vn, vs, .int .i64 sy] 100 (0, 0)) ∧ FrT N [100] w w' ∧ ∀ ns, nmGo tb [str []] (L.drop 1) = some ns → w'.ownsRow w.heap.size 9 1 vn ns.length (ns.map Value.string)) := Lib.hid rfl
  rw [HGN.out]
  clear HGN
  obtain ⟨res, hres⟩ : ∃ res, res = nmGo tb [str []] (L.drop 1) := ⟨_, rfl⟩
  rw [← hres]
  have HRES := Lib.hid hres
  generalize hln : L.length = ln at *
  have HLN := Lib.hid hln
  have HW := Lib.hid hw
  have HF := Lib.hid hF
  clear hi hz0 hz1 hz2 hL hln ht hw hLh hres
  go_enter Tryz.func86, Tryz.ntmps86
  obtain ⟨⟨c0, c1, c2, c3, c4⟩, f0, f1, f2, f3, f4⟩ := cells5 _ _ _ _ _ _ _ _ HF.out
  go_upto_region 2 with fail
  obtain ⟨g1, g2⟩ := file_two (N := N) HF.out hNF (.slice (some ⟨w.heap.size, 0, none⟩) 1 1) (.cells #[.string ⟨#[]⟩] 9)
  have g3 := names_lit w F (.slice (some ⟨w.heap.size, 0, none⟩) 1 1)
  generalize (w.setCell ⟨F, 2, none⟩ (.slice (some ⟨w.heap.size, 0, none⟩) 1 1)).alloc (.cells #[.string ⟨#[]⟩] 9) = W1 at *
  clear c0 c1 c2 c3 c4 f0 f1 f2 f3 f4
  obtain ⟨⟨c0, c1, c2, c3, c4⟩, f0, f1, f2, f3, f4⟩ := cells5 _ _ _ _ _ _ _ _ g1
  have hl1 := g2.owns HL.out (by decide)
  have HG3 := Lib.hid g3
  obtain ⟨b, off, t0, hpe, _, _⟩ : ∃ b off t0, hp = some ⟨b, off, none⟩ ∧ L[0]? = some t0 ∧ ETen W1 b (off + 0 * 10) t0 := by
    obtain ⟨p', c', e, _, _, _, hh⟩ := tens_has (by rw [HLN.out]; exact hl1)
    rw [HLN.out] at e
    cases e
    exact hh.at_ (i := 0) (by rw [HLN.out]; omega)
  subst hpe
  have hln1 : (1 : Int) ≤ (ln : Int) := by omega
  go_cut [17, 18, 19] (fun s17 s18 s19 wx => ∃ (q : Option Addr) (c' : Nat), s17 = .slice q (ln - 1) c' ∧ (1 < ln → q = some ⟨b, off + 10, none⟩) ∧ s18 = .int .i64 ((ln - 1 : Nat) : Int) ∧ s19 = .int .i64 0 ∧ W1 = wx)
  case first =>
    by_cases hc1 : hc = 1
    · subst hc1
      go_wp2_with fail
      go_meet
      exact ⟨some ⟨b, off, none⟩, 0, by rw [show ln - 1 = 0 by omega], fun h => absurd h (by omega), by rw [show ln - 1 = 0 by omega]; rfl, rfl, by trivial⟩
    · go_wp2_with fail
      go_meet
      exact ⟨_, _, rfl, fun h => rfl, rfl, rfl, by trivial⟩
  case rest =>
    obtain ⟨q, c', rfl, hq, rfl, rfl, rfl⟩ := hcut
    have HQ := Lib.hid hq
    have HG1 := Lib.hid g1
    have HG2 := Lib.hid g2
    clear hq c0 c1 c2 c3 c4 f0 f1 f2 f3 f4 g1 g2 g3 hl1
    go_wp2_with fail
    go_loopw [19] (fun r19 wr => ∃ (k : Nat) (acc : List ByteArray) (v : Value), k ≤ ln - 1 ∧ r19 = .int .i64 (k : Int) ∧ res = nmGo tb acc ((L.drop 1).drop k) ∧ wr.heap[F]? = some (.cells #[vb, .slice (some ⟨b, off, none⟩) ln hc, v, vs, .int .i64 sy] 100 (0, 0)) ∧ wr.ownsRow w.heap.size 9 1 v acc.length (acc.map Value.string) ∧ FrT N [100] w wr ∧ acc.length ≤ k + 1 ∧ w.heap.size ≤ wr.heap.size) (fun r19 _ => (ln - 1) - (intOf r19).toNat)
    case atStart => exact ⟨0, [str []], _, Nat.zero_le _, rfl, HRES.out, HG1.out, HG3.out, HG2.out, Nat.le_refl _, HG2.out.size⟩
    case round =>
      obtain ⟨k, acc, v, hk, rfl, hgo, hFr, hown, hfr, hal, hsz⟩ := hrel
      have HGO := Lib.hid hgo
      have HFR := Lib.hid hfr
      have hbN : Below N w0 wr := HW.out.trans (hfr.below (by have := HW.out.size; omega))
      clear hgo hfr
      by_cases hlt : k < ln - 1
      · obtain ⟨x, hx⟩ : ∃ x, (L.drop 1)[k]? = some x := ⟨_, List.getElem?_eq_getElem (by rw [List.length_drop, HLN.out]; exact hlt)⟩
        have hx1 : L[1 + k]? = some x := by rw [List.getElem?_drop] at hx; exact hx
        obtain ⟨p', c2, e, _, _, _, hh⟩ := tens_has (by rw [HLN.out]; exact HFR.out.owns HL.out (by decide))
        rw [HLN.out] at e
        cases e
        obtain ⟨b', off', e, hE⟩ := hh (1 + k) x hx1
        cases e
        rw [show off + (1 + k) * 10 = off + 10 + k * 10 by omega] at hE
        obtain ⟨d0, d1, d2, d3, d4, d5, d6, d7, d8, d9⟩ := hE
        obtain rfl := HQ.out (by omega)
        have hst : Hid (res = match strAt tb x.a with
          | none => none
          | some n => nmGo tb (acc ++ [str n]) ((L.drop 1).drop (k + 1))) := Lib.hid (by rw [HGO.out, nmGo_step hx])
        have hba : Below wr.heap.size wr (wr.alloc (.cells #[.int .i64 x.a, .int .i64 x.b, .int .i64 x.c, .int .i64 x.d, .int .i64 x.e, .int .i64 x.f, .int .i64 x.g, .int .i64 x.h, .int .i64 x.i, .int .i64 x.j] 104)) := (Below.refl _ wr).alloc (Nat.le_refl _) _
        have hha := heap_new wr (.cells #[.int .i64 x.a, .int .i64 x.b, .int .i64 x.c, .int .i64 x.d, .int .i64 x.e, .int .i64 x.f, .int .i64 x.g, .int .i64 x.h, .int .i64 x.i, .int .i64 x.j] 104)
        have hJ : (k : Int) < ((ln - 1 : Nat) : Int) := by omega
        have k2 : (0 : Int) ≤ (k : Int) := by omega
        clear hx hx1 hh
        go_upto_region 5 with fail
        have hFs2 := FrT.heap (N := N) (Ts := []) (FrT.of_below hba) hFr (by simp)
        have hown2 := owns_belowN hown hba
        have hfr2 := HFR.out.trans (FrT.of_below hba)
        have hbN2 : Below N w0 _ := HW.out.trans (hfr2.below (by have := HW.out.size; omega))
        have hsz2 := Nat.le_trans hsz hba.size
        generalize wr.alloc (.cells #[.int .i64 x.a, .int .i64 x.b, .int .i64 x.c, .int .i64 x.d, .int .i64 x.e, .int .i64 x.f, .int .i64 x.g, .int .i64 x.h, .int .i64 x.i, .int .i64 x.j] 104) = ws at *
        obtain ⟨s0, _⟩ := cells_ten _ _ _ _ _ _ _ _ _ _ _ _ _ hha
        have hA := HAT.out ws hbN2 x.a
        rw [atAny_eq] at hA
        generalize strAt tb x.a = so at *
        have HA := Lib.hid hA
        have HF2 := Lib.hid hFs2
        have HFR2 := Lib.hid hfr2
        clear hA d0 d1 d2 d3 d4 d5 d6 d7 d8 d9 hba hha hown hFr hbN hbN2 hFs2 hfr2
        go_wp2_with fail
        refine HA.out.mono ?_
        rintro e w' ⟨rfl, rfl⟩
        cases so with
        | none =>
          have hE2 : Hid (res = none) := Lib.hid hst.out
          go_wp2_with fail
          go_ret
          refine ⟨by rw [hE2.out]; rfl, v, HF2.out, HFR2.out, fun ns hns => ?_⟩
          rw [hE2.out] at hns
          cases hns
        | some n =>
          have hst2 : Hid (res = nmGo tb (acc ++ [str n]) ((L.drop 1).drop (k + 1))) := Lib.hid hst.out
          obtain ⟨⟨c0, c1, c2', c3, c4⟩, f0, f1, f2, f3, f4⟩ := cells5 _ _ _ _ _ _ _ _ HF2.out
          go_wp2_with (at_builtin; refine wpList_append_own _ rfl (.tmp 36) (.tmp 38) 59 rfl w.heap.size 9 i0 _ 1 16 Tryz.underlying59 HI.out H0.out H1.out H2.out rfl (by decide) _ acc.length _ rfl (hown2.alloc _) ⟨ws.heap.size, 0, none⟩ 1 1 [.string (str n)] rfl rfl (cell_one_new ws _ _) (one_str _) (by unfold maxLen; omega) (by omega) (by simp; omega) ?_)
          intro v3 w4 hown4 hg4 _
          obtain ⟨p3, c3', rfl, _, _, _⟩ := slice_form hown4
          have hF4 : w4.heap[F]? = some (.cells #[vb, .slice (some ⟨b, off, none⟩) ln hc, v, vs, .int .i64 sy] 100 (0, 0)) := by
            have hx := FrT.heap (N := N) (Ts := []) (FrT.of_below ((Below.refl ws.heap.size ws).alloc (Nat.le_refl _) (.cells #[.string (str n)] 9))) HF2.out (by simp)
            rw [hg4.block F (Array.getElem?_eq_some_iff.1 hx).1 fun e => by have := (hown2.lt F e.symm).1; omega]
            exact hx
          have hfr4 : FrT N [100] w w4 := (HFR2.out.trans (FrT.of_below ((Below.refl ws.heap.size ws).alloc (Nat.le_refl _) (.cells #[.string (str n)] 9)))).grownNew hg4 (fun g hg => (hown2.lt g hg).1)
          rw [str_snoc] at hown4
          obtain ⟨g1, g2⟩ := file_one (N := N) hF4 hNF (.slice p3 (acc.length + 1) c3')
          have hown5 := g2.owns hown4 (by decide)
          have HG1' := Lib.hid g1
          have HFR5 := Lib.hid (hfr4.trans g2)
          have HO5 := Lib.hid hown5
          have hs5 : w.heap.size ≤ w4.heap.size := hfr4.size
          clear c0 c1 c2' c3 c4 f0 f1 f2 f3 f4 hg4 hown4 hown2 hfr4 g1 g2 hown5
          obtain ⟨⟨c0, c1, c2', c3, c4⟩, f0, f1, f2, f3, f4⟩ := cells5 _ _ _ _ _ _ _ _ hF4
          clear hF4
          go_wp2_with fail
          go_roundw
          case rel => exact ⟨k + 1, acc ++ [str n], _, hlt, by go_num, hst2.out, HG1'.out, by rw [List.length_append]; exact HO5.out, HFR5.out, by simp; omega, by simpa using hs5⟩
          case measure => simp [intOf]; omega
      · obtain rfl : k = ln - 1 := by omega
        have hJ : ¬ ((ln - 1 : Nat) : Int) < ((ln - 1 : Nat) : Int) := by omega
        have hE3 : Hid (res = some acc) := Lib.hid (by rw [HGO.out, List.drop_eq_nil_of_le (by rw [List.length_drop, HLN.out]; exact Nat.le_refl _)]; rfl)
        go_wp2_with fail
        go_ret
        refine ⟨by rw [hE3.out]; rfl, v, hFr, HFR.out, fun ns hns => ?_⟩
        rw [hE3.out] at hns
        cases hns
        exact hown
end Go.Proofs.YtenmcmnhiejbgaaGreat
