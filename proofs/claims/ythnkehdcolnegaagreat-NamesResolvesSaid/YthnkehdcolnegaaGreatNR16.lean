/-
  Contracts of the project's strtab: May, At, Make.
  Rows of strings in a call's own memory; structs of six numbers in a block.
  Contract of the reference's member.
  Contracts of the reference's wide, Num and Put, and the words that they speak: widths, windows of bytes.
-/
import Derived.Test.YthnkehdcolnegaaGreatNR15
import Derived.Maps.OwnSet
import Derived.Maps.OwnOps
import Derived.Test.YthnkehdcolnegaaGreatMem0
import Derived.Test.YthnkehdcolnegaaGreatShapeA
import Derived.Test.YthnkehdcolnegaaGreatMem
import Derived.LoopTactic
import Derived.Lib.Hide
import Derived.Outline
import Derived.WalkSpells
import Derived.OwnWalk
namespace Go.Proofs.YthnkehdcolnegaaGreat
open Go.RowKit Go.Maps Go.WideMaps

theorem may_idx (l : List UInt8) : mayB l = (decide (l.length ≤ 32) && decide (Lib.indexByte l 0 < 0)) := by
  rcases first_of 0 l with ⟨k, h1, h2⟩ | h
  · rw [mayB_zero h1, idx_some h2 h1]
    simp
  · rw [idx_none h]
    by_cases hl : l.length ≤ 32
    · rw [mayB_yes hl fun i y _ hy => h i y hy]
      simp [hl]
    · rw [mayB_long (by omega)]
      simp [hl]

set_option maxRecDepth 100000 in
theorem sMay_any (s : ByteArray) (w : World) : Calls Tryz.prog 188 #[.string s] w fun e w' => e = .returned (.bool (mayB (lst s))) ∧ w = w' := by
  have HN := Lib.hid (strIdx_any s 0 w)
  have hz : (lst s).length = s.size := by simp
  have hm : mayB (lst s) = (decide (s.size ≤ 32) && decide (Lib.indexByte (lst s) 0 < 0)) := by rw [may_idx, hz]
  clear hz
  by_cases h32 : s.size ≤ 32
  · have hI : (s.size : Int) ≤ 32 := by omega
    by_cases h0 : Lib.indexByte (lst s) 0 < 0
    · have HM : Hid (mayB (lst s) = true) := Lib.hid (by rw [hm]; simp [h32, h0])
      have hd : decide (Lib.indexByte s.data.toList (Int.toNat 0).toUInt8 < 0) = true := decide_eq_true h0
      clear hm h0
      generalize Lib.indexByte s.data.toList (Int.toNat 0).toUInt8 = r at *
      have hr : r < 0 := of_decide_eq_true hd
      clear hd
      go_enter Tryz.func188, Tryz.ntmps188
      go_wp2_with fail
      refine HN.out.mono ?_
      rintro e w' ⟨rfl, rfl⟩
      go_wp2_with fail
      go_ret
      exact ⟨by rw [HM.out]; first | rfl | (simp; omega) | fail, rfl⟩
    · have HM : Hid (mayB (lst s) = false) := Lib.hid (by rw [hm]; simp [h0])
      have hd : ¬ Lib.indexByte s.data.toList (Int.toNat 0).toUInt8 < 0 := h0
      clear hm h0
      generalize Lib.indexByte s.data.toList (Int.toNat 0).toUInt8 = r at *
      go_enter Tryz.func188, Tryz.ntmps188
      go_wp2_with fail
      refine HN.out.mono ?_
      rintro e w' ⟨rfl, rfl⟩
      go_wp2_with fail
      go_ret
      exact ⟨by rw [HM.out]; first | rfl | (simp; omega) | fail, rfl⟩
  · have HM : Hid (mayB (lst s) = false) := Lib.hid (by rw [hm]; simp [h32])
    have hI : ¬ (s.size : Int) ≤ 32 := by omega
    clear hm
    go_enter Tryz.func188, Tryz.ntmps188
    go_wp2_with fail
    go_ret
    exact ⟨by rw [HM.out]; first | rfl | (simp; omega) | fail, rfl⟩

/-! ## Make: a map tells what stands -/
/-- A literal's entry, at the operation. -/
theorem wpList_insert_own {H : Type} {P : Program} (w : World) {ops : Array Oper} {rest : List Oper} {o : Oper} {a : Act} {Q : Exit → Act → World → Prop}
    (hg : o.guard = none) (m x v : Operand) (t : TypeId) (hop : o.op = Op.insert t m x v)
    (k e : TypeId) (K : Keyed P k) (ht : P.underlying t = some (.map k e)) (R : Value → Option (DataW H × List MemPlace)) (b n : Nat) (D : DataW H)
    (hm : a.eval m = .map (some b)) (hown : w.ownsMap P k R b n D) (hn : n < maxLen) (key val : Value) (kl : Lit) (hx : a.eval x = key) (hv : a.eval v = val) (hkey : keyOf P k key = some kl)
    (d : DataW H) (ps : List MemPlace) (hval : R val = some (d, ps))
    (hK : ∀ w', w'.ownsMap P k R b (n + 1) (D.put kl d) → w.grownBy w' (some b) → wpList P ops Q rest (a.put o.dst undef) w') :
    wpList P ops Q (o :: rest) a w := by
  refine wpList_plain hg fun K' hK' => ?_
  obtain ⟨w', hrun, r1, r2⟩ := hown.update K ht hn hkey hval
  unfold Oper.wp
  simp [execOp, hop, hm, hx, hv, hrun, Result.andThen]
  exact hK' _ _ (hK w' r1 r2)

theorem map_apart {H : Type} {P : Program} {w : World} {b1 b : Nat} {e1 k : TypeId} {s1 : Nat} {v1 : Value} {n1 n : Nat} {xs1 : List Value} {R : Value → Option (DataW H × List MemPlace)} {D : DataW H} (h1 : w.ownsRow b1 e1 s1 v1 n1 xs1) (h2 : w.ownsMap P k R b n D) :
    v1.ownBlock = none ∨ v1.ownBlock ≠ some b := by
  obtain ⟨es, clock, hb, _⟩ := h2
  rcases h1.2 with ⟨rfl, _⟩ | ⟨g, cap, cur, rfl, _, hg, _⟩
  · exact .inl rfl
  · right
    simp only [Value.ownBlock, ne_eq, Option.some.injEq]
    intro e
    subst e
    rw [hg] at hb
    cases hb
theorem map_apart2 {H : Type} {P : Program} {w : World} {b1 b : Nat} {e1 k : TypeId} {s1 : Nat} {v1 : Value} {n1 n : Nat} {xs1 : List Value} {R : Value → Option (DataW H × List MemPlace)} {D : DataW H} (h1 : w.ownsRow b1 e1 s1 v1 n1 xs1) (h2 : w.ownsMap P k R b n D) :
    some b ≠ v1.ownBlock := by
  rcases map_apart h1 h2 with h | h
  · rw [h]; simp
  · exact fun e => h e.symm

theorem keyLaw : Keyed Tryz.prog 9 := string_keyed Tryz.underlying9
theorem zeroInt (w : World) : (zeroValue 3).run Tryz.prog w = .ok (.int .i64 0) w := by kernel_rfl
/-- The map in block b knows who stands, and where. -/
def Knows (wr : World) (b k : Nat) (ns : List Nm) : Prop :=
  ∃ D : DataW Unit, wr.ownsMap Tryz.prog 9 (plainElem Tryz.prog 3) b k D ∧ ∀ n : Nm, ((n = [] ∨ n ∈ ns) ∧ Maps.has D (.string n) = true ∧ D.atKey (.string n) (.lit (.int .i64 0)) = .lit (.int .i64 (placeOf ns n : Int))) ∨ (¬ (n = [] ∨ n ∈ ns) ∧ Maps.has D (.string n) = false)
theorem isKey (n : Nm) : WideAt.IsKeyLit (.string n) := trivial
theorem knows_start {wr : World} {b : Nat} (h : wr.ownsMap Tryz.prog 9 (plainElem (H := Unit) Tryz.prog 3) b 1 ((DataW.map []).put (.string []) (.lit (.int .i64 0)))) : Knows wr b 1 [] := by
  refine ⟨_, h, fun n => ?_⟩
  by_cases hn : n = []
  · subst hn
    refine .inl ⟨.inl rfl, has_put_same isMap_empty (isKey _) _, ?_⟩
    rw [atKey_put_same isMap_empty (isKey _)]
    rfl
  · refine .inr ⟨by simp [hn], ?_⟩
    rw [has_put_other (by simpa using hn)]
    rfl
theorem knows_old {wr : World} {b k : Nat} {ns : List Nm} {x : Nm} (h : Knows wr b k ns) (hx : x = [] ∨ x ∈ ns) : Knows wr b (k + 1) (ns ++ [x]) := by
  obtain ⟨D, hD, hn⟩ := h
  refine ⟨D, hD.mono (Nat.le_succ _), fun n => ?_⟩
  rcases hn n with ⟨h1, h2, h3⟩ | ⟨h1, h2⟩
  · refine .inl ⟨?_, h2, by rw [placeOf_old x h1]; exact h3⟩
    rcases h1 with h1 | h1
    · exact .inl h1
    · exact .inr (List.mem_append_left _ h1)
  · refine .inr ⟨fun hc => ?_, h2⟩
    rcases hc with hc | hc
    · exact h1 (.inl hc)
    · rcases List.mem_append.1 hc with hc | hc
      · exact h1 (.inr hc)
      · simp at hc
        subst hc
        exact h1 hx
theorem knows_new {D : DataW Unit} {wr : World} {b k : Nat} {ns : List Nm} {x : Nm} {p : Nat} (hn : ∀ n : Nm, ((n = [] ∨ n ∈ ns) ∧ Maps.has D (.string n) = true ∧ D.atKey (.string n) (.lit (.int .i64 0)) = .lit (.int .i64 (placeOf ns n : Int))) ∨ (¬ (n = [] ∨ n ∈ ns) ∧ Maps.has D (.string n) = false))
    (hD : IsMap D) (h : wr.ownsMap Tryz.prog 9 (plainElem Tryz.prog 3) b (k + 1) (D.put (.string x) (.lit (.int .i64 (p : Int))))) (h0 : x ≠ []) (hx : x ∉ ns) (hp : p = (tabOf ns).tb.length) : Knows wr b (k + 1) (ns ++ [x]) := by
  subst hp
  refine ⟨_, h, fun n => ?_⟩
  by_cases e : n = x
  · subst e
    refine .inl ⟨.inr (by simp), has_put_same hD (isKey _) _, ?_⟩
    rw [atKey_put_same hD (isKey _), (tab_new h0 hx).2]
  · rw [has_put_other (by simpa using e), atKey_put_other (by simpa using e)]
    rcases hn n with ⟨h1, h2, h3⟩ | ⟨h1, h2⟩
    · refine .inl ⟨?_, h2, by rw [placeOf_old x h1]; exact h3⟩
      rcases h1 with h1 | h1
      · exact .inl h1
      · exact .inr (List.mem_append_left _ h1)
    · refine .inr ⟨fun hc => ?_, h2⟩
      rcases hc with hc | hc
      · exact h1 (.inl hc)
      · rcases List.mem_append.1 hc with hc | hc
        · exact h1 (.inr hc)
        · simp at hc
          exact e hc

/-- The places behind k rounds: zeros behind them. -/
def plRow (ns : List Nm) (len : Nat) : List Value := natV (placesOf ns) ++ List.replicate (len - ns.length) (.int .i64 0)
theorem plRow_zero (len : Nat) : plRow [] len = List.replicate len (.int .i64 0) := by simp [plRow, placesOf, natV]
theorem plRow_full {ns : List Nm} {len : Nat} (h : ns.length = len) : plRow ns len = natV (placesOf ns) := by simp [plRow, h]
theorem natV_length (l : List Nat) : (natV l).length = l.length := by simp [natV]
theorem plRow_step {ns : List Nm} {x : Nm} {len q : Nat} (h : ns.length < len) (hq : q = placeOf (ns ++ [x]) x) : (plRow ns len).set ns.length (.int .i64 (q : Int)) = plRow (ns ++ [x]) len := by
  have hl : (natV (placesOf ns)).length = ns.length := by rw [natV_length, placesOf_length]
  unfold plRow
  rw [List.set_append_right _ _ (by omega), hl, Nat.sub_self, show len - ns.length = (len - (ns ++ [x]).length) + 1 by simp; omega, List.replicate_succ, List.set_cons_zero, placesOf_snoc, ← hq, ← natV_snoc]
  simp
theorem plRow_length {ns : List Nm} {len : Nat} (h : ns.length ≤ len) : (plRow ns len).length = len := by
  unfold plRow
  rw [List.length_append, natV_length, placesOf_length, List.length_replicate]
  omega

set_option maxRecDepth 100000 in
set_option maxHeartbeats 2000000 in
theorem sMake_wide (p : Option Addr) (len cap : Nat) (ss : List ByteArray) (w : World) (h : HasS w p ss) (hlen : ss.length = len) (hl100 : len ≤ 1000) (hs : ∀ s ∈ ss, mayB (lst s) = true) :
    Calls Tryz.prog 124 #[.slice p len cap] w (GivesT (ss.map lst) w) := by
  obtain ⟨i0, hi, hz0, hz1, hz2⟩ := info_parts Tryz.infoU8
  obtain ⟨i1, gi, gz0, gz1, gz2⟩ := info_parts Tryz.infoInt
  have HI := Lib.hid hi
  have H0 := Lib.hid hz0
  have H1 := Lib.hid hz1
  have H2 := Lib.hid hz2
  have GI := Lib.hid gi
  have G0 := Lib.hid gz0
  have G1 := Lib.hid gz1
  have G2 := Lib.hid gz2
  have HS := Lib.hid hs
  have HM := Lib.hid h
  have HL := Lib.hid hlen
  have gb8 : i1.bytes * len ≤ 281474976710656 := by rw [gz2]; omega
  clear hs h hlen hi hz0 hz1 hz2 gi gz0 gz1 gz2
  have hmm := @run_makeMap Tryz.prog
  go_enter Tryz.func124, Tryz.ntmps124
  go_wp2_with (refine wpList_insert_own (H := Unit) _ rfl (.tmp 12) _ _ 265 rfl 9 3 keyLaw Tryz.underlying265 (plainElem Tryz.prog 3) (w.heap.size + 1) 0 _ rfl (by simpa using World.ownsMap_made (w.alloc (.cells #[.int .u8 0] 5)) _ _ _) (by unfold maxLen; omega) _ _ _ rfl rfl (keyOf_string_mk Tryz.underlying9 (by decide)) _ [] (plainElem_int Tryz.underlying3 (by decide)) ?_)
  intro w1 hm1 hg1
  have hk1 : Knows w1 (w.heap.size + 1) 1 [] := knows_start hm1
  have ht1 : w1.ownsRow w.heap.size 5 1 (.slice (some ⟨w.heap.size, 0, none⟩) 1 1) 1 ([0].map u8v) := ((zero_row w).alloc (.map #[] 0)).kept hg1 (.inr (by simp [Value.ownBlock]))
  have hb1 : Below w.heap.size w w1 := (((Below.refl _ w).alloc (Nat.le_refl _) _).alloc (by simp) _).grown hg1 (by simp; omega) (fun g hg => by simp at hg; omega)
  clear hm1 hg1
  go_wp2_with (at_make; refine wpList_make_full _ rfl _ _ 25 rfl w.heap.size 3 i1 (.int .i64 0) 1 Tryz.underlying25 GI.out G0.out G1.out _ _ _ _ len rfl rfl rfl rfl gb8 (by unfold maxLen; omega) hb1.size ?_)
  intro w2 hp2 hg2
  have hk2 : Knows w2 (w.heap.size + 1) 1 [] := let ⟨D, hD, hn⟩ := hk1; ⟨D, hD.kept hg2 (by simp), hn⟩
  have ht2 := ht1.kept hg2 (.inr (by simp [Value.ownBlock]))
  have hb2 : Below w.heap.size w w2 := hb1.grown hg2 hb1.size (fun g hg => by cases hg)
  have hp3 : w2.ownsRow w.heap.size 3 1 (.slice (some ⟨w1.heap.size, 0, none⟩) len len) len (plRow [] len) := by
    rw [plRow_zero, ← toList_madeCells_one]
    exact hp2
  clear hp2 hg2 hk1 ht1 hb1
  generalize w1.heap.size = gp at *
  go_wp2_with fail
  go_loopw [4, 19] (fun out ii wr => ∃ (k n : Nat) (ns : List Nm), k ≤ len ∧ n ≤ 33 * k + 1 ∧ ns = (ss.take k).map lst ∧ ii = .int .i64 (k : Int) ∧ wr.ownsRow w.heap.size 5 1 out n ((tabOf ns).tb.map u8v) ∧ wr.ownsRow w.heap.size 3 1 (.slice (some ⟨gp, 0, none⟩) len len) len (plRow ns len) ∧ Knows wr (w.heap.size + 1) (k + 1) ns ∧ Below w.heap.size w wr) (fun _ ii _ => len - (intOf ii).toNat)
  case atStart => exact ⟨0, 1, [], Nat.zero_le _, Nat.le_refl _, rfl, rfl, ht2, hp3, hk2, hb2⟩
  case round =>
    obtain ⟨k, n, ns, hk, hn, hns, rfl, hown, hpl, hkn, hb⟩ := hrel
    have HN := Lib.hid hns
    clear hns ht2 hp3 hk2 hb2
    by_cases hlt : k < len
    · obtain ⟨b, off, x, rfl, hx, hc0⟩ := HM.out.at_ (i := k) (by rw [HL.out]; exact hlt)
      have hc := cell_later hb hc0
      have HX := Lib.hid hx
      have hI1 : (k : Int) < (len : Int) := by omega
      have hI0 : (0 : Int) ≤ (k : Int) := by omega
      have hnsl : ns.length = k := by rw [HN.out]; simp; have := HL.out; omega
      have HNL := Lib.hid hnsl
      have hx32 := (all_ne (HS.out x (List.mem_of_getElem? HX.out))).1
      have hxs : (lst x).length = x.size := by simp
      have hsz : x.size ≤ 32 := by omega
      have hn1 : (ss.take (k + 1)).map lst = ns ++ [lst x] := by
        rw [List.take_add_one, HX.out, HN.out]
        simp
      have HN1 := Lib.hid hn1
      obtain ⟨D, hD, hwho⟩ := hkn
      have hkey : keyOf Tryz.prog 9 (.string x) = some (.string (lst x)) := keyOf_string_mk Tryz.underlying9 (by unfold maxLen; omega)
      have HW := Lib.hid hwho
      have HK := Lib.hid hkey
      clear hc0 hx hnsl hx32 hxs hn1 hwho hkey
      rcases HW.out (lst x) with ⟨hold, hhas, hatk⟩ | ⟨hnew, hhas⟩
      · have HT := Lib.hid (tab_old hold)
        have HO := Lib.hid hold
        have HAT := Lib.hid hatk
        have HAS := Lib.hid hhas
        clear hold hatk hhas
        go_wp2_with (at_lookup; refine wpList_lookup_own_ok_int wr rfl (.tmp 25) (.tmp 26) 265 rfl 9 3 .i64 keyLaw Tryz.underlying265 Tryz.underlying3 (zeroInt _) (w.heap.size + 1) (k + 1) D rfl hD _ _ rfl HK.out ?_)
        intro c hat _
        have hcq : c = (placeOf ns (lst x) : Int) := by rw [HAT.out] at hat; simpa using hat.symm
        have HQ : Hid (placeOf ns (lst x) = placeOf (ns ++ [lst x]) (lst x)) := Lib.hid HT.out.2.symm
        rw [HAS.out]
        clear hat
        obtain ⟨q, hq⟩ : ∃ q, q = placeOf ns (lst x) := ⟨_, rfl⟩
        rw [← hq] at hcq HQ
        subst hcq
        clear hq
        have hcp : wr.cell? ⟨gp, k, none⟩ = some ((plRow ns len)[k]'(by rw [plRow_length (by have := HNL.out; omega)]; exact hlt)) := by
          rw [hpl.cellAt k (by omega)]
          exact List.getElem?_eq_getElem _
        generalize (plRow ns len)[k]'(by rw [plRow_length (by have := HNL.out; omega)]; exact hlt) = u0 at hcp
        have hf := hpl.frozenAt k
        have hst := hpl.stored k (.int .i64 (q : Int))
        rw [show k = ns.length from HNL.out.symm, plRow_step (by have := HNL.out; omega) HQ.out, HNL.out] at hst
        have HST := Lib.hid hst
        have hap := owns_apart hown hpl (by decide)
        have HTB : Hid ((wr.setCell ⟨gp, k, none⟩ (.int .i64 (q : Int))).ownsRow w.heap.size 5 1 u4 n ((tabOf (ns ++ [lst x])).tb.map u8v)) := Lib.hid (by rw [HT.out.1]; exact hown.kept hst.2 hap)
        have HKN : Hid (Knows (wr.setCell ⟨gp, k, none⟩ (.int .i64 (q : Int))) (w.heap.size + 1) (k + 1 + 1) (ns ++ [lst x])) := Lib.hid (knows_old ⟨D, hD.kept hst.2 (map_apart2 hpl hD), HW.out⟩ HO.out)
        have HBL : Hid (Below w.heap.size w (wr.setCell ⟨gp, k, none⟩ (.int .i64 (q : Int)))) := Lib.hid (hb.setCell (hpl.lt gp rfl).1 _)
        clear hst hap hD hown hpl hb
        go_wp2_with fail
        go_roundw
        case rel => exact ⟨k + 1, n, ns ++ [lst x], hlt, by omega, HN1.out.symm, by go_num, HTB.out, HST.out.1, HKN.out, HBL.out⟩
        case measure => simp [intOf]; omega
      · have HNW : Hid (lst x ≠ [] ∧ lst x ∉ ns) := Lib.hid (not_or.1 hnew)
        have HT := Lib.hid (tab_new (not_or.1 hnew).1 (not_or.1 hnew).2)
        have HAS := Lib.hid hhas
        have hnt : (tabOf ns).tb.length = n := by have := hown.1; simpa using this
        have HNT := Lib.hid hnt
        obtain ⟨p4, c4, rfl, _, _, _, _⟩ := Has.of_owns hown
        clear hnew hhas hnt
        go_wp2_with (at_lookup; refine wpList_lookup_own_ok_int wr rfl (.tmp 25) (.tmp 26) 265 rfl 9 3 .i64 keyLaw Tryz.underlying265 Tryz.underlying3 (zeroInt _) (w.heap.size + 1) (k + 1) D rfl hD _ _ rfl HK.out ?_)
        intro c _ _
        rw [HAS.out]
        go_wp2_with (at_mapUpdate; refine wpList_mapUpdate_own wr rfl (.tmp 34) (.tmp 35) (.tmp 36) 265 rfl 9 3 keyLaw Tryz.underlying265 (plainElem Tryz.prog 3) (w.heap.size + 1) (k + 1) D rfl hD (by unfold maxLen; omega) _ _ _ rfl rfl HK.out _ [] (plainElem_int Tryz.underlying3 (WalkArith.wf_i64 (by omega))) ?_)
        intro w3 hD3 hg3
        have hkn3 : Knows w3 (w.heap.size + 1) (k + 1 + 1) (ns ++ [lst x]) := knows_new HW.out hD.isMap hD3 HNW.out.1 HNW.out.2 HNT.out.symm
        have hown3 := hown.kept hg3 (map_apart hown hD)
        have hpl3 := hpl.kept hg3 (map_apart hpl hD)
        have hb3 : Below w.heap.size w w3 := hb.grown hg3 hb.size (fun g hg => by simp at hg; omega)
        clear hD3 hg3 hown hpl hD hb
        have hap := owns_apart hpl3 hown3 (by decide)
        go_wp2_with (at_builtin; refine Lib.wpList_append_own_string w3 rfl (.tmp 37) (.tmp 38) 31 9 rfl w.heap.size 5 i0 Tryz.underlying31 Tryz.underlying9 HI.out H0.out H1.out H2.out _ n _ rfl hown3 x rfl (by unfold maxLen; omega) (by omega) hb3.size ?_)
        intro v5 w5 hown5 hgrow5 _
        have hpl5 := hpl3.kept hgrow5 hap
        have hb5 : Below w.heap.size w w5 := hb3.grown hgrow5 hb3.size (fun g hg => (hown3.lt g hg).1)
        have hkn5 : Knows w5 (w.heap.size + 1) (k + 1 + 1) (ns ++ [lst x]) := let ⟨D3, hD3, hn3⟩ := hkn3; ⟨D3, hD3.kept hgrow5 (map_apart2 hown3 hD3), hn3⟩
        rw [strCells_lst, ← List.map_append] at hown5
        clear hgrow5 hpl3 hap hown3 hb3 hkn3
        go_wp2_with (at_builtin; refine wpList_append_own _ rfl (.tmp 40) (.tmp 41) 31 rfl w.heap.size 5 i0 (.int .u8 0) 1 1 Tryz.underlying31 HI.out H0.out H1.out H2.out rfl (by decide) _ _ _ rfl (hown5.alloc _) ⟨w5.heap.size, 0, none⟩ 1 1 [u8v 0] rfl rfl (one_cell_at w5 0) (one_cells 0) (by unfold maxLen; omega) (by omega) (by have := hb5.size; simp; omega) ?_)
        intro v6 w6 hown6 hgrow6 _
        have hap6 := owns_apart (hpl5.alloc (.cells #[.int .u8 0] 5)) (hown5.alloc (.cells #[.int .u8 0] 5)) (by decide)
        have hpl6 := (hpl5.alloc (.cells #[.int .u8 0] 5)).kept hgrow6 hap6
        have hb6 : Below w.heap.size w w6 := (hb5.alloc hb5.size _).grown hgrow6 (by have := hb5.size; simp; omega) (fun g hg => (hown5.lt g hg).1)
        have hkn6 : Knows w6 (w.heap.size + 1) (k + 1 + 1) (ns ++ [lst x]) := let ⟨D5, hD5, hn5⟩ := hkn5; ⟨D5, (hD5.alloc (.cells #[.int .u8 0] 5)).kept hgrow6 (map_apart2 (hown5.alloc (.cells #[.int .u8 0] 5)) (hD5.alloc (.cells #[.int .u8 0] 5))), hn5⟩
        rw [row_snoc2] at hown6
        clear hgrow6 hpl5 hap6 hown5 hb5 hkn5
        have hcp : w6.cell? ⟨gp, k, none⟩ = some ((plRow ns len)[k]'(by rw [plRow_length (by have := HNL.out; omega)]; exact hlt)) := by
          rw [hpl6.cellAt k (by omega)]
          exact List.getElem?_eq_getElem _
        generalize (plRow ns len)[k]'(by rw [plRow_length (by have := HNL.out; omega)]; exact hlt) = u0 at hcp
        have hf := hpl6.frozenAt k
        have hst := hpl6.stored k (.int .i64 (n : Int))
        rw [show k = ns.length from HNL.out.symm, plRow_step (q := n) (by have := HNL.out; omega) (by rw [HT.out.2, HNT.out]), HNL.out] at hst
        have HST := Lib.hid hst
        have hap7 := owns_apart hown6 hpl6 (by decide)
        have hlen6 : n + x.size + 1 ≤ 33 * (k + 1) + 1 := by omega
        have HTB : Hid ((w6.setCell ⟨gp, k, none⟩ (.int .i64 (n : Int))).ownsRow w.heap.size 5 1 v6 (n + x.size + 1) ((tabOf (ns ++ [lst x])).tb.map u8v)) := Lib.hid (by rw [HT.out.1, List.map_append]; exact hown6.kept hst.2 hap7)
        have HKN : Hid (Knows (w6.setCell ⟨gp, k, none⟩ (.int .i64 (n : Int))) (w.heap.size + 1) (k + 1 + 1) (ns ++ [lst x])) := Lib.hid (let ⟨D5, hD5, hn5⟩ := hkn6; ⟨D5, hD5.kept hst.2 (map_apart2 hpl6 hD5), hn5⟩)
        have HBL : Hid (Below w.heap.size w (w6.setCell ⟨gp, k, none⟩ (.int .i64 (n : Int)))) := Lib.hid (hb6.setCell (hpl6.lt gp rfl).1 _)
        clear hst hap7 hown6 hpl6 hb6 hkn6
        go_wp2_with fail
        go_roundw
        case rel => exact ⟨k + 1, n + x.size + 1, ns ++ [lst x], hlt, hlen6, HN1.out.symm, by go_num, HTB.out, HST.out.1, HKN.out, HBL.out⟩
        case measure => simp [intOf]; omega
    · obtain rfl : k = len := by omega
      have ht : ss.take k = ss := List.take_of_length_le (by rw [HL.out]; exact Nat.le_refl _)
      have HNS : Hid (ns = ss.map lst) := Lib.hid (by rw [HN.out, ht])
      have hnt : (tabOf ns).tb.length = n := by have := hown.1; simpa using this
      have hnsl : ns.length = k := by rw [HN.out, ht]; simp; exact HL.out
      rw [plRow_full hnsl] at hpl
      have hkl : (placesOf ns).length = k := by rw [placesOf_length, hnsl]
      rw [← hnt] at hown
      have hpl2 : wr.ownsRow w.heap.size 3 1 (.slice (some ⟨gp, 0, none⟩) k k) (placesOf ns).length (natV (placesOf ns)) := by rw [hkl]; exact hpl
      rw [HNS.out] at hown hpl2
      clear ht hnt hkl hnsl hpl
      go_wp2_with fail
      go_ret2
      exact ⟨_, _, rfl, hown, hpl2, hb⟩
end Go.Proofs.YthnkehdcolnegaaGreat

namespace Go.Proofs.YthnkehdcolnegaaGreat
open Go.RowKit

theorem Tryz.infoStr : (Tryz.prog.info? 9).map (fun i => (i.zero, i.size, i.bytes)) = some (some (.string ⟨#[]⟩), 1, 16) := by kernel_rfl
theorem HasS.of_owns {w : World} {base : Nat} {e : TypeId} {v : Value} {n : Nat} {xs : List ByteArray} (h : w.ownsRow base e 1 v n (xs.map Value.string)) :
    ∃ p c, v = .slice p n c ∧ n ≤ c ∧ c ≤ maxLen ∧ xs.length = n ∧ HasS w p xs := by
  have hl : xs.length = n := by have := h.1; simpa using this
  rcases h.2 with ⟨rfl, hn⟩ | ⟨g, cap, cur, rfl, _, hg, hnc, hcm, _, _⟩
  · subst hn
    have h0 : xs = [] := List.eq_nil_of_length_eq_zero hl
    subst h0
    exact ⟨none, 0, rfl, Nat.le_refl _, Nat.zero_le _, rfl, fun i x hx => by simp at hx⟩
  · refine ⟨some ⟨g, 0, none⟩, cap, rfl, hnc, hcm, hl, fun i x hx => ⟨_, rfl, ?_⟩⟩
    have hi : i < n := by have := (List.getElem?_eq_some_iff.1 hx).1; omega
    have hc := h.cellAt i (by omega)
    rw [List.getElem?_map, hx] at hc
    have ha : (⟨g, 0, none⟩ : Addr).add i = ⟨g, i, none⟩ := by unfold Addr.add; split <;> simp_all
    rw [ha]
    simpa using hc
theorem one_str (x : ByteArray) : ∀ u ∈ [Value.string x], u.oneCell' = true := fun u hu => by simp at hu; subst hu; rfl
theorem str_snoc (l : List ByteArray) (x : ByteArray) : l.map Value.string ++ [.string x] = (l ++ [x]).map Value.string := by simp
theorem cells6 (w : World) (g : Nat) (v0 v1 v2 v3 v4 v5 : Value) (T : TypeId) (h : w.heap[g]? = some (.cells #[v0, v1, v2, v3, v4, v5] T (0, 0))) :
    w.cell? ⟨g, 0, none⟩ = some v0 ∧ w.cell? ⟨g, 1, none⟩ = some v1 ∧ w.cell? ⟨g, 2, none⟩ = some v2 ∧ w.cell? ⟨g, 3, none⟩ = some v3 ∧ w.cell? ⟨g, 4, none⟩ = some v4 ∧ w.cell? ⟨g, 5, none⟩ = some v5 := by
  refine ⟨?_, ?_, ?_, ?_, ?_, ?_⟩ <;> exact (cell_of_row w g _ _ _ (0, 0) h).trans rfl
theorem heap_new (w : World) (o : Obj) : (w.alloc o).heap[w.heap.size]? = some o := heap_alloc_new w o
end Go.Proofs.YthnkehdcolnegaaGreat

namespace Go.Proofs.YthnkehdcolnegaaGreat
open Go.RowKit

/-- An object's value: its five cells. -/
abbrev objV (v0 v1 v2 : Value) (sig : Bool) (v4 : Value) : Value := .agg #[v0, v1, v2, .bool sig, v4]
def memberN (gs : List GroupD) (n : Int) : Nat := (gs.map fun g => g.members.count n).sum
theorem member_step {gs : List GroupD} {g : GroupD} {i : Nat} (n : Int) (h : gs[i]? = some g) : memberN (gs.take (i + 1)) n = memberN (gs.take i) n + g.members.count n := by
  unfold memberN
  rw [List.take_add_one, h]
  simp
theorem count_step {l : List Int} {x : Int} {k : Nat} (n : Int) (h : l[k]? = some x) : (l.take (k + 1)).count n = (l.take k).count n + (if x == n then 1 else 0) := by
  rw [List.take_add_one, h]
  simp [List.count_append, List.count_cons]

set_option maxRecDepth 100000 in
set_option maxHeartbeats 1000000 in
theorem member_any (v0 v1 v2 : Value) (sig : Bool) (v4 : Value) (gs : List GroupD) (n : Int) (w : World) (hg : IsL 2 EGroup w v2 gs) (hgl : gs.length ≤ 1000000) (hml : ∀ g ∈ gs, g.members.length ≤ 1000000) :
    Calls Tryz.prog 123 #[objV v0 v1 v2 sig v4, .int .i64 n] w fun e w' => e = .returned (.int .i64 (memberN gs n : Int)) ∧ Below w.heap.size w w' := by
  have hb : Below w.heap.size w (w.alloc (.cells #[v0, v1, v2, .bool sig, v4] 27)) := (Below.refl _ w).alloc (Nat.le_refl _) _
  have hg1 := hg.below EGroup.keeps hb
  have hc2 : (w.alloc (.cells #[v0, v1, v2, .bool sig, v4] 27)).cell? ⟨w.heap.size, 2, none⟩ = some v2 := by simp
  obtain ⟨p, c, rfl, _, _, _, hgs⟩ := hg1
  generalize hm : gs.length = m at *
  have HG := Lib.hid hgs
  have HML := Lib.hid hml
  have HM := Lib.hid hm
  clear hg hgs hml hm
  go_enter Tryz.func123, Tryz.ntmps123
  go_wp2_with fail
  generalize w.alloc (.cells #[v0, v1, .slice p m c, .bool sig, v4] 27) = w1 at *
  generalize hgb : w.heap.size = gb at *
  go_loop [5, 6] (fun r5 r6 => ∃ (i q : Nat), i ≤ m ∧ r6 = .int .i64 (i : Int) ∧ r5 = .int .i64 (q : Int) ∧ q = memberN (gs.take i) n ∧ q ≤ i * 1000000) (fun _ r6 => m - (intOf r6).toNat)
  case atStart => exact ⟨0, 0, Nat.zero_le _, rfl, rfl, rfl, Nat.le_refl _⟩
  case round =>
    obtain ⟨i, q, hi, rfl, rfl, hq, hqb⟩ := hrel
    have HQ := Lib.hid hq
    clear hq
    by_cases hlt : i < m
    · obtain ⟨b, off, g, rfl, hgi, hge⟩ := HG.out.at_ (i := i) (by rw [HM.out]; exact hlt)
      obtain ⟨⟨hsym, _⟩, vm, hvm, pm, cm, rfl, hl1, hl2, hl3, hms⟩ := hge
      have hlb := HML.out g (List.mem_of_getElem? hgi)
      have HGI := Lib.hid hgi
      have HMS := Lib.hid hms
      generalize hml : g.members.length = ml at *
      have HL := Lib.hid hml
      have hI : (i : Int) < (m : Int) := by omega
      have hI0 : (0 : Int) ≤ (i : Int) := by omega
      clear hgi hms hml hsym hl3
      go_wp2_with fail
      go_loop [5, 7] (fun r5 r7 => ∃ (k q2 : Nat), k ≤ ml ∧ r7 = .int .i64 (k : Int) ∧ r5 = .int .i64 (q2 : Int) ∧ q2 = q + (g.members.take k).count n ∧ q2 ≤ q + k) (fun _ r7 => ml - (intOf r7).toNat)
      case atStart => exact ⟨0, q, Nat.zero_le _, rfl, rfl, by simp, Nat.le_refl _⟩
      case round =>
        obtain ⟨k, q2, hk, rfl, rfl, hq2, hqb2⟩ := hrel
        have HQ2 := Lib.hid hq2
        clear hq2
        by_cases hkl : k < ml
        · obtain ⟨b2, off2, x, rfl, hx, hxe⟩ := HMS.out.at_ (i := k) (by rw [HL.out]; exact hkl)
          have hcx := hxe.1
          rw [Nat.mul_one] at hcx
          have HST := Lib.hid (count_step n hx)
          have hJ : (k : Int) < (ml : Int) := by omega
          have hJ0 : (0 : Int) ≤ (k : Int) := by omega
          clear hx hxe
          cases hxn : (x == n) with
          | true =>
            rw [hxn] at HST
            go_wp2_with fail
            go_round
            case rel => exact ⟨k + 1, q2 + 1, hkl, by go_num, by go_num, by rw [HST.out, HQ2.out]; simp; omega, by omega⟩
            case measure => simp [intOf]; omega
          | false =>
            rw [hxn] at HST
            go_wp2_with fail
            go_round
            case rel => exact ⟨k + 1, q2, hkl, by go_num, rfl, by rw [HST.out, HQ2.out]; simp, by omega⟩
            case measure => simp [intOf]; omega
        · have hJ : ¬ (k : Int) < (ml : Int) := by omega
          have HE : Hid (q2 = memberN (gs.take (i + 1)) n) := Lib.hid (by
            rw [member_step n HGI.out, ← HQ.out, HQ2.out, List.take_of_length_le (by rw [HL.out]; omega)])
          go_wp2_with fail
          go_round
          case rel => exact ⟨i + 1, q2, hlt, by go_num, rfl, HE.out, by omega⟩
          case measure => simp [intOf]; omega
    · have hI : ¬ (i : Int) < (m : Int) := by omega
      have HE : Hid (memberN gs n = q) := Lib.hid (by rw [HQ.out, List.take_of_length_le (by rw [HM.out]; omega)])
      subst hgb
      go_wp2_with fail
      go_ret
      exact ⟨by rw [HE.out]; rfl, hb⟩

end Go.Proofs.YthnkehdcolnegaaGreat

namespace Go.Proofs.YthnkehdcolnegaaGreat
open Go.RowKit

/-- Is n a width that there is? -/
def wid (n : Int) : Bool := n == 1 || n == 2 || n == 4 || n == 8
theorem wid_iff (n : Int) : wid n = true ↔ n = 1 ∨ n = 2 ∨ n = 4 ∨ n = 8 := by simp [wid, or_assoc]
theorem ret_b {a b : Bool} (h : a = b) : Ending.returned (.bool a) = .returned (.bool b) := by rw [h]

/-- The n bytes from at on. -/
def win (l : List UInt8) (at_ n : Nat) : List UInt8 := (l.take (at_ + n)).drop at_
theorem wide_any (n : Int) (w : World) : Calls Tryz.prog 136 #[.int .i64 n] w fun e w' => e = .returned (.bool (wid n)) ∧ w = w' := by
  by_cases h1 : n = 1
  · subst h1
    go_enter Tryz.func136, Tryz.ntmps136
    go_wp2
    go_ret
    exact ⟨rfl, rfl⟩
  by_cases h2 : n = 2
  · subst h2
    go_enter Tryz.func136, Tryz.ntmps136
    go_wp2
    go_ret
    exact ⟨rfl, rfl⟩
  by_cases h4 : n = 4
  · subst h4
    go_enter Tryz.func136, Tryz.ntmps136
    go_wp2
    go_ret
    exact ⟨rfl, rfl⟩
  by_cases h8 : n = 8
  · subst h8
    go_enter Tryz.func136, Tryz.ntmps136
    go_wp2
    go_ret
    exact ⟨rfl, rfl⟩
  have hw : wid n = false := by simp [wid, h1, h2, h4, h8]
  have H := Lib.hid hw
  clear hw
  have e1 : (n == 1) = false := by simpa using h1
  have e2 : (n == 2) = false := by simpa using h2
  have e4 : (n == 4) = false := by simpa using h4
  have e8 : (n == 8) = false := by simpa using h8
  clear h1 h2 h4 h8
  go_enter Tryz.func136, Tryz.ntmps136
  go_wp2
  go_ret
  exact ⟨ret_b H.out.symm, rfl⟩

theorem refPut_yes (v n : Nat) (w : World) (hv : v < 18446744073709551616) (hn : wid n = true) :
    Calls Tryz.prog 81 #[.int .u64 v, .int .i64 n] w (Gives (leB n v) w) := by
  have hn' := (wid_iff _).1 hn
  have hn1 : 1 ≤ n := by omega
  have hn8 : n ≤ 8 := by omega
  clear hn'
  obtain ⟨i0, hi, hz0, hz1, hz2⟩ := info_parts Tryz.infoU8
  have HI := Lib.hid hi
  have H0 := Lib.hid hz0
  have H1 := Lib.hid hz1
  have H2 := Lib.hid hz2
  clear hi hz0 hz1 hz2
  go_enter Tryz.func81, Tryz.ntmps81
  go_wp2_with (go_at_call 136; refine (wide_any _ _).mono ?_; rintro e w' ⟨rfl, rfl⟩)
  go_loopw [0, 5, 7] (fun x out i wr => ∃ k : Nat, k ≤ n ∧ i = .int .i64 k ∧ x = .int .u64 ((v / 256 ^ k : Nat) : Int) ∧ wr.ownsRow w.heap.size 5 1 out k ((leB k v).map u8v) ∧ Below w.heap.size w wr) (fun _ _ i _ => n - (intOf i).toNat)
  case atStart => exact ⟨0, Nat.zero_le _, rfl, by simp, World.ownsRow_nil _ _ _ _, Below.refl _ _⟩
  case round =>
    obtain ⟨k, hk, rfl, rfl, hown, hb⟩ := hrel
    have hq : v / 256 ^ k ≤ v := Nat.div_le_self _ _
    have hsn := Lib.hid (leB_snoc k v)
    have hdd : v / 256 ^ (k + 1) = v / 256 ^ k / 256 := by rw [Nat.pow_succ, Nat.div_div_eq_div_mul]
    have HD := Lib.hid hdd
    clear hdd
    generalize v / 256 ^ k = q at *
    by_cases hlt : k < n
    · go_wp2_with (at_builtin; refine wpList_append_own _ rfl _ _ 31 rfl w.heap.size 5 i0 (.int .u8 0) 1 1 Tryz.underlying31 HI.out H0.out H1.out H2.out rfl (by decide) _ _ _ rfl (hown.alloc _) ⟨wr.heap.size, 0, none⟩ 1 1 [u8v (UInt8.ofNat q)] rfl rfl ?c1 ?c2 ?c3 ?c4 ?c5 ?_)
      case c1 =>
        intro j u hj
        match j, hj with
        | 0, hj => simp at hj; subst hj; simp [Addr.add, byte_mod]
      case c2 => intro u hu; simp at hu; subst hu; rfl
      case c3 => unfold maxLen; omega
      case c4 => omega
      case c5 => have := hb.size; simp; omega
      · intro v' w1 hown' hgrow _
        have hb1 : Below w.heap.size w w1 := (hb.alloc hb.size _).grown hgrow (by have := hb.size; simp; omega) (fun g hg => (hown.lt g hg).1)
        clear hgrow hown hb
        go_wp2
        go_roundw
        case rel =>
          refine ⟨k + 1, hlt, by go_num, ?_, ?_, hb1⟩
          · rw [HD.out]
            simp
          · rw [hsn.out, List.map_append]
            exact hown'
        case measure => simp [intOf]; omega
    · have hkn : k = n := by omega
      have HK := Lib.hid hkn
      clear hkn
      go_wp2
      go_ret
      refine ⟨_, rfl, ?_, hb⟩
      rw [leB_length, ← HK.out]
      exact hown

theorem refPut_has (v n : Nat) (w : World) (hv : v < 18446744073709551616) (hn : wid n = true) : Calls Tryz.prog 81 #[.int .u64 v, .int .i64 n] w (GivesH n (leB n v) w) :=
  (refPut_yes v n w hv hn).mono fun e w' h => by have := h.toH; rwa [leB_length] at this

end Go.Proofs.YthnkehdcolnegaaGreat
