/-
  Contracts of the project's splitStrings, splitEntries, Split.
-/
import Derived.Test.YtmcegjkkgbnjlaaPOwnA
import Derived.Test.YtmcegjkkgbnjlaaIdx
import Derived.Test.YtmcegjkkgbnjlaaPTells
import Derived.Test.YtmcegjkkgbnjlaaOwnMayBits
namespace Go.Proofs.Ytmcegjkkgbnjlaa
open Go.RowKit

theorem Try.infoPiece : (Try.prog.info? 111).map (fun i => (i.zero, i.size, i.bytes)) = some (some (.agg #[.int .i64 0, .int .i64 0]), 2, 16) := by kernel_rfl

set_option maxRecDepth 100000 in
/-- bytes.IndexByte of a slice that came in, nil or not. -/
theorem bIdxP_any {w : World} {p : Option Addr} {l : List UInt8} (h : Has w p l) (n cap : Nat) (hn : l.length = n) (hp : p = none → n = 0) (c : Int) :
    Calls Try.prog 80 #[.slice p n cap, .int .u8 c] w fun e w' => e = .returned (.int .i64 (Lib.indexByte l c.toNat.toUInt8)) ∧ w = w' := by
  have hr : (Extern.BytealgIndexByte.indexByte #[.slice p n cap, .int .u8 c]).run Try.prog w = .ok (.int .i64 (Lib.indexByte l c.toNat.toUInt8)) w := by
    rcases p with _ | ⟨b, off, spot⟩
    · obtain rfl := hp rfl
      obtain rfl : l = [] := List.eq_nil_of_length_eq_zero hn
      rfl
    · rcases Nat.eq_zero_or_pos n with h0 | h0
      · subst h0
        obtain rfl : l = [] := List.eq_nil_of_length_eq_zero hn
        rfl
      · obtain ⟨b', off', e, _⟩ := h.plain (by omega)
        cases e
        exact run_idx h n cap hn c
  have HR := Lib.hid hr
  clear hr
  go_enter Try.func80, Try.ntmps80
  go_wp2_with fail
  rw [run_callFunc_extern Try.func109 (by kernel_rfl) (by kernel_rfl) (by kernel_rfl) (e := Extern.BytealgIndexByte.indexByte) (by kernel_rfl), HR.out]
  simp only [Result.andThen]
  rw [Oper.upon_value]
  go_wp2_with fail
  go_ret
  exact ⟨rfl, rfl⟩

/-- The bytes from a place on: as the model spells the slice. -/
theorem rest_has {w : World} {dp : Option Addr} {d : List UInt8} {dc a : Nat} (h : Has w dp d) (hl : d.length ≤ dc) (ha : a ≤ d.length) (hn : dp = none → dc = 0) :
    Has w (if dc = a then dp else dp.map (·.add a)) (d.drop a) ∧ ((if dc = a then dp else dp.map (·.add a)) = none → d.length - a = 0) := by
  refine ⟨by have := h.cut a d.length dc (Nat.le_refl _) hl; rwa [List.take_length] at this, fun e => ?_⟩
  split at e
  · omega
  · rw [Option.map_eq_none_iff] at e
    have := hn e
    omega

set_option maxRecDepth 100000 in
set_option maxHeartbeats 4000000 in
theorem ownStrings_any (ent : Int) (d : List UInt8) (dp : Option Addr) (dc : Nat) (w : World) (hd : Has w dp d) (h1 : d.length ≤ dc) (_h2 : dc ≤ maxLen) (h3 : dp = none → dc = 0) (hdl : d.length ≤ 100000) :
    Calls Try.prog 104 #[.slice dp d.length dc] w (GivesP 111 (pcStep true ent d d.length).1 w) := by
  obtain ⟨i0, hi, hz0, hz1, hz2⟩ := info_parts Try.infoPiece
  have HI := Lib.hid hi
  have H0 := Lib.hid hz0
  have H1 := Lib.hid hz1
  have H2 := Lib.hid hz2
  have HC := Lib.hid fun W (hb : Below w.heap.size w W) (a : Nat) (ha : a ≤ d.length) => rest_has (hd.below hb) h1 ha h3
  generalize hdln : d.length = dl at *
  have HDL := Lib.hid hdln
  clear hi hz0 hz1 hz2 hd hdln
  go_enter Try.func104, Try.ntmps104
  go_wp2_with fail
  go_loopw [3, 4] (fun r3 r4 wr => ∃ (a : Nat) (l : List PcD), a ≤ dl ∧ r4 = .int .i64 (a : Int) ∧ pcStep true ent d a = (l, a) ∧ l.length ≤ a ∧ wr.ownsRow w.heap.size 111 2 r3 l.length (pcV l) ∧ Below w.heap.size w wr) (fun _ r4 _ => dl - (intOf r4).toNat)
  case atStart => exact ⟨0, [], Nat.zero_le _, rfl, rfl, Nat.le_refl _, World.ownsRow_nil _ _ _ _, Below.refl _ _⟩
  case round =>
    obtain ⟨a, l, ha, rfl, hst, hla, hown, hb⟩ := hrel
    obtain ⟨hc1, hc2⟩ := HC.out wr hb a ha
    have HST := Lib.hid hst
    have hI : (a : Int) ≤ (dc : Int) := by omega
    have hI2 : (a : Int) ≤ (dl : Int) := by omega
    have hI3 : (0 : Int) ≤ (a : Int) := by omega
    have hq : (d.drop a).length = dl - a := by rw [List.length_drop, HDL.out]
    have hB := bIdxP_any hc1 (dl - a) (dc - a) hq hc2 0
    clear hst
    rcases first_of 0 (d.drop a) with ⟨k, hk0, hkz⟩ | hz
    · have hix : Lib.indexByte (d.drop a) (Int.toNat 0).toUInt8 = k := idx_some (c := 0) hkz hk0
      have hkl : k < dl - a := by have := (List.getElem?_eq_some_iff.1 hk0).1; omega
      have hne : ¬ dc = a := by omega
      rw [hix, if_neg hne] at hB
      have HB := Lib.hid hB
      have HN := Lib.hid (pcStep_zero HST.out hkz hk0)
      have k1 : IntKind.i64.wrap ((k : Int) + 1) = (k : Int) + 1 := IntWalk.i64_in _ (by omega)
      have k2 : IntKind.i64.wrap ((a : Int) + ((k : Int) + 1)) = (a : Int) + ((k : Int) + 1) := IntWalk.i64_in _ (by omega)
      have k3 : (((k : Int) + 1) == 0) = false := by simp; omega
      have HGO : Hid (∀ (v' : Value) (w' : World), w'.ownsRow w.heap.size 111 2 v' (l.length + 1) (pcV l ++ [.int .i64 (a : Int), .int .i64 ((k : Int) + 1)]) → w'.ownsRow w.heap.size 111 2 v' (l ++ [PcD.mk (a : Int) ((k : Int) + 1)]).length (pcV (l ++ [PcD.mk (a : Int) ((k : Int) + 1)]))) := Lib.hid fun v' w' h => by
        rw [pcV_append, List.length_append]
        exact h
      clear hB hix hk0 hkz hq hc1 hc2
      go_wp2_with fail
      refine HB.out.mono ?_
      rintro e w' ⟨rfl, rfl⟩
      clear HB
      go_wp2_with (at_builtin; refine wpList_append_own _ rfl (.tmp 14) (.tmp 18) 106 rfl w.heap.size 111 i0 (.agg #[.int .i64 0, .int .i64 0]) 2 16 Try.underlying106 HI.out H0.out H1.out H2.out rfl (by decide) _ _ _ rfl (hown.alloc _) ⟨wr.heap.size, 0, none⟩ 1 1 [.int .i64 (a : Int), .int .i64 ((k : Int) + 1)] rfl rfl (two_cell_at wr _ _ _) (two_cells _ _) (by unfold maxLen; omega) (by omega) (by have := hb.size; simp; omega) ?_)
      intro v1 w4 hown4 hgrow4 _
      have hb4 : Below w.heap.size w w4 := (hb.alloc hb.size _).grown hgrow4 (by have := hb.size; simp; omega) (fun g hg => (hown.lt g hg).1)
      have hown5 := HGO.out _ _ hown4
      clear hgrow4 hown4 hown hb
      go_wp2_with fail
      go_roundw
      case rel => exact ⟨a + (k + 1), _, by omega, by go_num, HN.out, by simp; omega, hown5, hb4⟩
      case measure => simp [intOf]; omega
    · have hix : Lib.indexByte (d.drop a) (Int.toNat 0).toUInt8 = -1 := idx_none (c := 0) hz
      have HE : Hid ((pcStep true ent d dl).1 = l) := Lib.hid (by rw [← HDL.out]; exact pcStep_end HST.out (by rw [HDL.out]; exact ha) hz)
      by_cases hda : dc = a
      · subst hda
        rw [hix, if_pos rfl, Nat.sub_self, show dl - dc = 0 by omega] at hB
        have HB := Lib.hid hB
        clear hB hix hz hq hc1 hc2
        go_wp2_with fail
        refine HB.out.mono ?_
        rintro e w' ⟨rfl, rfl⟩
        clear HB
        go_wp2_with fail
        go_ret
        rw [HE.out]
        exact ⟨_, rfl, hown, hb⟩
      · rw [hix, if_neg hda] at hB
        have HB := Lib.hid hB
        clear hB hix hz hq hc1 hc2
        go_wp2_with fail
        refine HB.out.mono ?_
        rintro e w' ⟨rfl, rfl⟩
        clear HB
        go_wp2_with fail
        go_ret
        rw [HE.out]
        exact ⟨_, rfl, hown, hb⟩

set_option maxRecDepth 100000 in
set_option maxHeartbeats 4000000 in
theorem ownEntries_any (ent m : Nat) (dp : Option Addr) (dc : Nat) (w : World) (he : 1 ≤ ent) (hm : m * ent ≤ 100000) :
    Calls Try.prog 105 #[.slice dp (m * ent) dc, .int .i64 (ent : Int)] w (GivesP 111 (entPcs ent m) w) := by
  obtain ⟨i0, hi, hz0, hz1, hz2⟩ := info_parts Try.infoPiece
  have hme : m ≤ m * ent := Nat.le_mul_of_pos_right _ (by omega)
  have hdiv : ((m * ent : Nat) : Int).tdiv (ent : Int) = (m : Int) := (by
    rw [Int.natCast_mul]
    exact Int.mul_tdiv_cancel _ (by omega))
  have hb8 : i0.bytes * m ≤ 281474976710656 := by rw [hz2]; omega
  have HI := Lib.hid hi
  have H0 := Lib.hid hz0
  have H1 := Lib.hid hz1
  have h1 : ¬ (ent : Int) ≤ 0 := by omega
  have h2 : ((ent : Int) == 0) = false := by simp; omega
  have HK := Lib.hid fun k (hk : k < m) => show (k : Int) * (ent : Int) = ((k * ent : Nat) : Int) ∧ k * ent ≤ 100000 from ⟨by simp, by have := Nat.mul_le_mul_right ent (show k ≤ m by omega); omega⟩
  clear hi hz0 hz1 hz2
  have hm0 : IntKind.i64.wrap (m : Int) = (m : Int) := IntWalk.i64_in _ (by omega)
  generalize hme2 : m * ent = me at *
  clear hme2
  go_enter Try.func105, Try.ntmps105
  go_wp2_with (at_make; refine wpList_make_full _ rfl _ _ 106 rfl w.heap.size 111 i0 (.agg #[.int .i64 0, .int .i64 0]) 2 Try.underlying106 HI.out H0.out H1.out _ _ _ _ m rfl rfl rfl rfl hb8 (by unfold maxLen; omega) (Nat.le_refl _) ?_)
  intro w1 hown hgrow
  have hbel : Below w.heap.size w w1 := (Below.refl _ w).grown hgrow (Nat.le_refl _) (fun k h => by cases h)
  have hown0 : w1.ownsRow w.heap.size 111 2 (.slice (some ⟨w.heap.size, 0, none⟩) m m) m (rowP ent m 0) := by
    rw [rowP_zero, ← madeCells_two]
    exact hown
  clear hown hgrow hdiv
  go_wp2_with fail
  go_loopw [6, 16] (fun _ i wr => ∃ k : Nat, k ≤ m ∧ i = .int .i64 k ∧ wr.ownsRow w.heap.size 111 2 (.slice (some ⟨w.heap.size, 0, none⟩) m m) m (rowP ent m k) ∧ Below w.heap.size w wr) (fun _ i _ => m - (intOf i).toNat)
  case atStart => exact ⟨0, Nat.zero_le _, rfl, hown0, hbel⟩
  case round =>
    obtain ⟨k, hk, rfl, hown, hb⟩ := hrel
    clear hown0 hbel
    by_cases hlt : k < m
    · have hl := rowP_length (ent := ent) hk
      obtain ⟨v0, hv0⟩ : ∃ v, (rowP ent m k)[k * 2]? = some v := ⟨_, List.getElem?_eq_getElem (by omega)⟩
      obtain ⟨v1, hv1⟩ : ∃ v, (rowP ent m k)[k * 2 + 1]? = some v := ⟨_, List.getElem?_eq_getElem (by omega)⟩
      have c0 : wr.cell? ⟨w.heap.size, k * 2, none⟩ = some v0 := (hown.cellAt _ (by omega)).trans hv0
      have c1 : wr.cell? ⟨w.heap.size, k * 2 + 1, none⟩ = some v1 := (hown.cellAt _ (by omega)).trans hv1
      have f0 := hown.frozenAt (k * 2)
      have f1 := hown.frozenAt (k * 2 + 1)
      have hst1 := (hown.stored (k * 2) (.int .i64 ((k * ent : Nat) : Int))).1
      have hst2 := (hst1.stored (k * 2 + 1) (.int .i64 (ent : Int))).1
      rw [rowP_step hlt] at hst2
      have HS := Lib.hid hst2
      obtain ⟨q1, q2⟩ := HK.out k hlt
      have kw : IntKind.i64.wrap ((k : Int) * (ent : Int)) = ((k * ent : Nat) : Int) := by rw [q1]; exact IntWalk.i64_in _ (by omega)
      have hJ : (k : Int) < (m : Int) := by omega
      clear hst1 hst2 hv0 hv1 hl q1
      go_wp2_with fail
      go_roundw
      case rel => exact ⟨k + 1, hlt, by go_num, HS.out, (hb.setCell (Nat.le_refl _) _).setCell (Nat.le_refl _) _⟩
      case measure => simp [intOf]; omega
    · have hkn : k = m := by omega
      have HK := Lib.hid hkn
      have hJ : ¬ (k : Int) < (m : Int) := by omega
      clear hkn
      go_wp2_with fail
      go_ret
      refine ⟨_, rfl, ?_, hb⟩
      rw [entPcs_length, ← rowP_full]
      rw [HK.out] at hown
      exact hown

theorem GivesP.toQ {T : TypeId} {l : List PcD} {w w1 w' : World} {e : Ending} (hb : Below w.heap.size w w1) (hbd : ∀ p ∈ l, p.bd) (h : GivesP T l w1 e w') : GivesQ l w e w' := by
  obtain ⟨v, rfl, ho, hb2⟩ := h
  exact ⟨v, rfl, isL_pc ho hbd, hb.trans (hb2.mono hb.size)⟩

set_option maxRecDepth 100000 in
set_option maxHeartbeats 1000000 in
theorem psplit_ok : PSplitOK := fun s dp dc vr w hd h1 h2 h3 hbd hf h4 => by
  have hfl := hf.2.2.2
  have hbdp := pieces_bd hf
  have hb1 : Below w.heap.size w (w.alloc (.cells #[.string s.name, .int .i64 s.type, .int .i64 s.flags, .int .i64 s.align, .int .i64 s.ent, .int .i64 s.link, .int .i64 s.size, .slice dp s.data.length dc, vr] 104)) := (Below.refl _ w).alloc (Nat.le_refl _) _
  have hcell : ∀ i v, (#[.string s.name, .int .i64 s.type, .int .i64 s.flags, .int .i64 s.align, .int .i64 s.ent, .int .i64 s.link, .int .i64 s.size, .slice dp s.data.length dc, vr] : Array Value)[i]? = some v → (w.alloc (.cells #[.string s.name, .int .i64 s.type, .int .i64 s.flags, .int .i64 s.align, .int .i64 s.ent, .int .i64 s.link, .int .i64 s.size, .slice dp s.data.length dc, vr] 104)).cell? ⟨w.heap.size, i, none⟩ = some v := fun i v hv =>
    (cell_of_row _ w.heap.size i _ 104 (0, 0) (heap_alloc_new w _)).trans hv
  have a2 := hcell 2 _ rfl
  have a4 := hcell 4 _ rfl
  have a6 := hcell 6 _ rfl
  have a7 := hcell 7 _ rfl
  have hQ := fun (T : TypeId) (w1 : World) (hx : Below w.heap.size w w1) e w' (h : GivesP T (piecesOf s) w1 e w') => GivesP.toQ hx hbdp h
  have hST := ownStrings_any s.ent s.data dp dc _ (hd.below EByte.keeps hb1).has h1 h2 h3 (by omega)
  have hEN : ∀ m : Nat, 1 ≤ s.ent → s.data.length = m * s.ent.toNat → Calls Try.prog 105 #[.slice dp s.data.length dc, .int .i64 s.ent] (w.alloc (.cells #[.string s.name, .int .i64 s.type, .int .i64 s.flags, .int .i64 s.align, .int .i64 s.ent, .int .i64 s.link, .int .i64 s.size, .slice dp s.data.length dc, vr] 104)) (GivesP 111 (entPcs s.ent.toNat m) (w.alloc (.cells #[.string s.name, .int .i64 s.type, .int .i64 s.flags, .int .i64 s.align, .int .i64 s.ent, .int .i64 s.link, .int .i64 s.size, .slice dp s.data.length dc, vr] 104))) := fun m he hm => by
    have := ownEntries_any s.ent.toNat m dp dc (w.alloc (.cells #[.string s.name, .int .i64 s.type, .int .i64 s.flags, .int .i64 s.align, .int .i64 s.ent, .int .i64 s.link, .int .i64 s.size, .slice dp s.data.length dc, vr] 104)) (by omega) (by omega)
    rw [← hm, show ((s.ent.toNat : Nat) : Int) = s.ent by omega] at this
    exact this
  have hk16 : (bits .and .i64 s.flags 16 == 0) = !hasF s.flags 16 := by
    have := hasO_eq 4 (by omega) hfl hbd.1.2
    unfold hasO at this
    rw [show (2 : Int) ^ 4 = 16 by decide] at this
    rw [← this]
    unfold bne
    rw [Bool.not_not]
  have hk32 : (bits .and .i64 s.flags 32 != 0) = hasF s.flags 32 := by
    have := hasO_eq 5 (by omega) hfl hbd.1.2
    unfold hasO at this
    rw [show (2 : Int) ^ 5 = 32 by decide] at this
    exact this
  have HQ := Lib.hid hQ
  have HEN := Lib.hid hEN
  cases hq : hasF s.flags 16 with
  | false =>
    rw [hq] at hk16
    have HP : Hid (piecesOf s = [⟨0, s.size⟩]) := Lib.hid (by unfold piecesOf; rw [hq]; rfl)
    clear hST hEN hQ hk32 hcell hq HEN
    go_enter Try.func69, Try.ntmps69
    go_upto_region 1 with fail
    generalize w.alloc (.cells #[.string s.name, .int .i64 s.type, .int .i64 s.flags, .int .i64 s.align, .int .i64 s.ent, .int .i64 s.link, .int .i64 s.size, .slice dp s.data.length dc, vr] 104) = W1 at *
    go_wp2_with fail
    go_ret
    refine HQ.out 111 _ hb1 _ _ ?_
    rw [HP.out]
    exact ⟨_, rfl, World.ownsRow_lit _ #[.int .i64 0, .int .i64 s.size] 1 (Nat.le_refl _) (by unfold maxLen; omega) rfl, (Below.refl _ _).alloc (Nat.le_refl _) _⟩
  | true =>
    rw [hq] at hk16
    cases h32 : hasF s.flags 32 with
    | true =>
      rw [h32] at hk32
      have HP : Hid (piecesOf s = (pcStep true s.ent s.data s.data.length).1) := Lib.hid (by unfold piecesOf; rw [hq, h32]; rfl)
      have HST := Lib.hid hST
      clear hST hEN hQ hcell hq h32
      generalize s.data.length = dl at *
      go_enter Try.func69, Try.ntmps69
      go_wp2_with fail
      refine HST.out.mono ?_
      rintro e w' ⟨v, rfl, ho, hb2⟩
      go_wp2_with fail
      go_ret
      refine HQ.out 111 _ hb1 _ _ ?_
      rw [HP.out]
      exact ⟨_, rfl, ho, hb2⟩
    | false =>
      rw [h32] at hk32
      have he := (hf.2.1 hq).2.2.2
      obtain ⟨he1, he2⟩ := he h32
      rw [(hf.2.1 hq).1] at he2
      obtain ⟨m, hm⟩ : ∃ m : Nat, s.data.length = m * s.ent.toNat := by
        obtain ⟨q, hq2⟩ := he2
        have hq0 : 0 ≤ q := by
          by_cases h : 0 ≤ q
          · exact h
          · have := Int.mul_neg_of_pos_of_neg (show 0 < s.ent by omega) (show q < 0 by omega)
            omega
        refine ⟨q.toNat, ?_⟩
        have e1 : (s.ent.toNat : Int) = s.ent := by omega
        have e2 : (q.toNat : Int) = q := by omega
        have : ((q.toNat * s.ent.toNat : Nat) : Int) = (s.data.length : Int) := by rw [Int.natCast_mul, e1, e2, hq2, Int.mul_comm]
        omega
      have HP : Hid (piecesOf s = entPcs s.ent.toNat m) := Lib.hid (by
        unfold piecesOf
        rw [hq, h32]
        have := pcStep_ent (ent := s.ent.toNat) (d := s.data) (by omega) m (by omega)
        rw [show ((s.ent.toNat : Nat) : Int) = s.ent by omega, ← hm] at this
        rw [this]
        rfl)
      have HST := Lib.hid (HEN.out m he1 hm)
      clear hST hEN hQ hcell hq h32 HEN he2 hm he
      generalize s.data.length = dl at *
      go_enter Try.func69, Try.ntmps69
      go_wp2_with fail
      refine HST.out.mono ?_
      rintro e w' ⟨v, rfl, ho, hb2⟩
      go_wp2_with fail
      go_ret
      refine HQ.out 111 _ hb1 _ _ ?_
      rw [HP.out]
      exact ⟨_, rfl, ho, hb2⟩
end Go.Proofs.Ytmcegjkkgbnjlaa
