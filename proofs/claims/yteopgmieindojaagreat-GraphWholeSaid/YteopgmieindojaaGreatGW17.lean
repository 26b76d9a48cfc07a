/-
  Parts of a proof.
-/
import Derived.Test.YteopgmieindojaaGreatGW16
import Derived.Test.YteopgmieindojaaGreatGW01
import Derived.Test.YteopgmieindojaaGreatGW12
namespace Go.Proofs.YteopgmieindojaaGreat
open Go.RowKit
theorem Tryz.infoPiece : (Tryz.prog.info? 213).map (fun i => (i.zero, i.size, i.bytes)) = some (some (.agg #[.int .i64 0, .int .i64 0]), 2, 16) := by kernel_rfl
set_option maxRecDepth 100000 in
theorem bIdxP_any {w : World} {p : Option Addr} {l : List UInt8} (h : Has w p l) (n cap : Nat) (hn : l.length = n) (hp : p = none → n = 0) (c : Int) :
  Calls Tryz.prog 206 #[.slice p n cap, .int .u8 c] w fun e w' => e = .returned (.int .i64 (Lib.indexByte l c.toNat.toUInt8)) ∧ w = w' := by
 have hr : (Extern.BytealgIndexByte.indexByte #[.slice p n cap, .int .u8 c]).run Tryz.prog w = .ok (.int .i64 (Lib.indexByte l c.toNat.toUInt8)) w := by
  rcases p with _ | ⟨b, off, spot⟩
  ·obtain rfl := hp rfl
   obtain rfl : l = [] := List.eq_nil_of_length_eq_zero hn
   rfl
  ·rcases Nat.eq_zero_or_pos n with h0 | h0
   ·subst h0
    obtain rfl : l = [] := List.eq_nil_of_length_eq_zero hn
    rfl
   ·obtain ⟨b', off', e, _⟩ := h.plain (by omega)
    cases e
    exact run_idx h n cap hn c
 have HR := Lib.hid hr
 clear hr
 go_enter Tryz.func206, Tryz.ntmps206
 go_wp2_with fail
 rw [run_callFunc_extern Tryz.func222 (by kernel_rfl) (by kernel_rfl) (by kernel_rfl) (e := Extern.BytealgIndexByte.indexByte) (by kernel_rfl), HR.out]
 simp only [Result.andThen]
 rw [Oper.upon_value]
 go_wp2_with fail
 go_ret
 exact ⟨rfl, rfl⟩
theorem rest_has {w : World} {dp : Option Addr} {d : List UInt8} {dc a : Nat} (h : Has w dp d) (hl : d.length ≤ dc) (ha : a ≤ d.length) (hn : dp = none → dc = 0) :
  Has w (if dc = a then dp else dp.map (·.add a)) (d.drop a) ∧ ((if dc = a then dp else dp.map (·.add a)) = none → d.length - a = 0) := by
 refine ⟨by have := h.cut a d.length dc (Nat.le_refl _) hl; rwa [List.take_length] at this, fun e => ?_⟩
 split at e
 ·omega
 ·rw [Option.map_eq_none_iff] at e
  have := hn e
  omega
set_option maxRecDepth 100000 in
set_option maxHeartbeats 4000000 in
theorem ownStrings_any (ent : Int) (d : List UInt8) (dp : Option Addr) (dc : Nat) (w : World) (hd : Has w dp d) (h1 : d.length ≤ dc) (_h2 : dc ≤ maxLen) (h3 : dp = none → dc = 0) (hdl : d.length ≤ 100000) :
  Calls Tryz.prog 196 #[.slice dp d.length dc] w (GivesP 213 (pcStep true ent d d.length).1 w) := by
 obtain ⟨i0, hi, hz0, hz1, hz2⟩ := info_parts Tryz.infoPiece
 have HI := Lib.hid hi
 have H0 := Lib.hid hz0
 have H1 := Lib.hid hz1
 have H2 := Lib.hid hz2
 have HC := Lib.hid fun W (hb : Below w.heap.size w W) (a : Nat) (ha : a ≤ d.length) => rest_has (hd.below hb) h1 ha h3
 generalize hdln : d.length = dl at *
 have HDL := Lib.hid hdln
 clear hi hz0 hz1 hz2 hd hdln
 go_enter Tryz.func196, Tryz.ntmps196
 go_wp2_with fail
 go_loopw [3, 4] (fun r3 r4 wr => ∃ (a : Nat) (l : List PcD), a ≤ dl ∧ r4 = .int .i64 (a : Int) ∧ pcStep true ent d a = (l, a) ∧ l.length ≤ a ∧ wr.ownsRow w.heap.size 213 2 r3 l.length (pcV l) ∧ Below w.heap.size w wr) (fun _ r4 _ => dl - (intOf r4).toNat)
 case atStart => exact ⟨0, [], Nat.zero_le _, rfl, rfl, Nat.le_refl _, World.ownsRow_nil _ _ _ _, Below.refl _ _⟩
 case round =>
  obtain ⟨a, l, ha, rfl, hst, hla, hown, hb⟩ := hrel
  obtain ⟨hc1, hc2⟩ := HC.out wr hb a ha
  have HST := Lib.hid hst
  have hI : (a : Int) ≤ (dc : Int) := by omega
  have hI2 : (a : Int) ≤ (dl : Int) := by omega
  have hI3 : (0 : Int) ≤ (a : Int) := by omega
  have hq : (d.drop a).length = dl - a := by rw [List.length_drop, HDL.out]
  have hB := bIdxP_any hc1 (dl - a) (dc - a) hq hc2 0
  clear hst
  rcases first_of 0 (d.drop a) with ⟨k, hk0, hkz⟩ | hz
  ·have hix : Lib.indexByte (d.drop a) (Int.toNat 0).toUInt8 = k := idx_some (c := 0) hkz hk0
   have hkl : k < dl - a := by have := (List.getElem?_eq_some_iff.1 hk0).1; omega
   have hne : ¬ dc = a := by omega
   rw [hix, if_neg hne] at hB
   have HB := Lib.hid hB
   have HN := Lib.hid (pcStep_zero HST.out hkz hk0)
   have k1 : IntKind.i64.wrap ((k : Int) + 1) = (k : Int) + 1 := IntWalk.i64_in _ (by omega)
   have k2 : IntKind.i64.wrap ((a : Int) + ((k : Int) + 1)) = (a : Int) + ((k : Int) + 1) := IntWalk.i64_in _ (by omega)
   have k3 : (((k : Int) + 1) == 0) = false := by simp; omega
   have HGO : Hid (∀ (v' : Value) (w' : World), w'.ownsRow w.heap.size 213 2 v' (l.length + 1) (pcV l ++ [.int .i64 (a : Int), .int .i64 ((k : Int) + 1)]) → w'.ownsRow w.heap.size 213 2 v' (l ++ [PcD.mk (a : Int) ((k : Int) + 1)]).length (pcV (l ++ [PcD.mk (a : Int) ((k : Int) + 1)]))) := Lib.hid fun v' w' h => by
    rw [pcV_append, List.length_append]
    exact h
   clear hB hix hk0 hkz hq hc1 hc2
   go_wp2_with fail
   refine HB.out.mono ?_
   rintro e w' ⟨rfl, rfl⟩
   clear HB
   go_wp2_with (at_builtin; refine wpList_append_own _ rfl (.tmp 14) (.tmp 18) 209 rfl w.heap.size 213 i0 (.agg #[.int .i64 0, .int .i64 0]) 2 16 Tryz.underlying209 HI.out H0.out H1.out H2.out rfl (by decide) _ _ _ rfl (hown.alloc _) ⟨wr.heap.size, 0, none⟩ 1 1 [.int .i64 (a : Int), .int .i64 ((k : Int) + 1)] rfl rfl (two_cell_at wr _ _ _) (two_cells _ _) (by unfold maxLen; omega) (by omega) (by have := hb.size; simp; omega) ?_)
   intro v1 w4 hown4 hgrow4 _
   have hb4 : Below w.heap.size w w4 := (hb.alloc hb.size _).grown hgrow4 (by have := hb.size; simp; omega) (fun g hg => (hown.lt g hg).1)
   have hown5 := HGO.out _ _ hown4
   clear hgrow4 hown4 hown hb
   go_wp2_with fail
   go_roundw
   case rel => exact ⟨a + (k + 1), _, by omega, by go_num, HN.out, by simp; omega, hown5, hb4⟩
   case measure => simp [intOf]; omega
  ·have hix : Lib.indexByte (d.drop a) (Int.toNat 0).toUInt8 = -1 := idx_none (c := 0) hz
   have HE : Hid ((pcStep true ent d dl).1 = l) := Lib.hid (by rw [← HDL.out]; exact pcStep_end HST.out (by rw [HDL.out]; exact ha) hz)
   by_cases hda : dc = a
   ·subst hda
    rw [hix, if_pos rfl, Nat.sub_self, show dl - dc = 0 by omega] at hB
    have HB := Lib.hid hB
    clear hB hix hz hq hc1 hc2
    go_wp2_with fail
    refine HB.out.mono ?_
    rintro e w' ⟨rfl, rfl⟩
    clear HB
    go_wp2_with fail
    go_ret
    rw [HE.out]
    exact ⟨_, rfl, hown, hb⟩
   ·rw [hix, if_neg hda] at hB
    have HB := Lib.hid hB
    clear hB hix hz hq hc1 hc2
    go_wp2_with fail
    refine HB.out.mono ?_
    rintro e w' ⟨rfl, rfl⟩
    clear HB
    go_wp2_with fail
    go_ret
    rw [HE.out]
    exact ⟨_, rfl, hown, hb⟩
set_option maxRecDepth 100000 in
set_option maxHeartbeats 4000000 in
theorem ownEntries_any (ent m : Nat) (dp : Option Addr) (dc : Nat) (w : World) (he : 1 ≤ ent) (hm : m * ent ≤ 100000) :
  Calls Tryz.prog 197 #[.slice dp (m * ent) dc, .int .i64 (ent : Int)] w (GivesP 213 (entPcs ent m) w) := by
 obtain ⟨i0, hi, hz0, hz1, hz2⟩ := info_parts Tryz.infoPiece
 have hme : m ≤ m * ent := Nat.le_mul_of_pos_right _ (by omega)
 have hdiv : ((m * ent : Nat) : Int).tdiv (ent : Int) = (m : Int) := (by
  rw [Int.natCast_mul]
  exact Int.mul_tdiv_cancel _ (by omega))
 have hb8 : i0.bytes * m ≤ 281474976710656 := by rw [hz2]; omega
 have HI := Lib.hid hi
 have H0 := Lib.hid hz0
 have H1 := Lib.hid hz1
 have h1 : ¬ (ent : Int) ≤ 0 := by omega
 have h2 : ((ent : Int) == 0) = false := by simp; omega
 have HK := Lib.hid fun k (hk : k < m) => show (k : Int) * (ent : Int) = ((k * ent : Nat) : Int) ∧ k * ent ≤ 100000 from ⟨by simp, by have := Nat.mul_le_mul_right ent (show k ≤ m by omega); omega⟩
 clear hi hz0 hz1 hz2
 have hm0 : IntKind.i64.wrap (m : Int) = (m : Int) := IntWalk.i64_in _ (by omega)
 generalize hme2 : m * ent = me at *
 clear hme2
 go_enter Tryz.func197, Tryz.ntmps197
 go_wp2_with (at_make; refine wpList_make_full _ rfl _ _ 209 rfl w.heap.size 213 i0 (.agg #[.int .i64 0, .int .i64 0]) 2 Tryz.underlying209 HI.out H0.out H1.out _ _ _ _ m rfl rfl rfl rfl hb8 (by unfold maxLen; omega) (Nat.le_refl _) ?_)
 intro w1 hown hgrow
 have hbel : Below w.heap.size w w1 := (Below.refl _ w).grown hgrow (Nat.le_refl _) (fun k h => by cases h)
 have hown0 : w1.ownsRow w.heap.size 213 2 (.slice (some ⟨w.heap.size, 0, none⟩) m m) m (rowP ent m 0) := by
  rw [rowP_zero, ← madeCells_two]
  exact hown
 clear hown hgrow hdiv
 go_wp2_with fail
 go_loopw [6, 16] (fun _ i wr => ∃ k : Nat, k ≤ m ∧ i = .int .i64 k ∧ wr.ownsRow w.heap.size 213 2 (.slice (some ⟨w.heap.size, 0, none⟩) m m) m (rowP ent m k) ∧ Below w.heap.size w wr) (fun _ i _ => m - (intOf i).toNat)
 case atStart => exact ⟨0, Nat.zero_le _, rfl, hown0, hbel⟩
 case round =>
  obtain ⟨k, hk, rfl, hown, hb⟩ := hrel
  clear hown0 hbel
  by_cases hlt : k < m
  ·have hl := rowP_length (ent := ent) hk
   obtain ⟨v0, hv0⟩ : ∃ v, (rowP ent m k)[k * 2]? = some v := ⟨_, List.getElem?_eq_getElem (by omega)⟩
   obtain ⟨v1, hv1⟩ : ∃ v, (rowP ent m k)[k * 2 + 1]? = some v := ⟨_, List.getElem?_eq_getElem (by omega)⟩
   have c0 : wr.cell? ⟨w.heap.size, k * 2, none⟩ = some v0 := (hown.cellAt _ (by omega)).trans hv0
   have c1 : wr.cell? ⟨w.heap.size, k * 2 + 1, none⟩ = some v1 := (hown.cellAt _ (by omega)).trans hv1
   have f0 := hown.frozenAt (k * 2)
   have f1 := hown.frozenAt (k * 2 + 1)
   have hst1 := (hown.stored (k * 2) (.int .i64 ((k * ent : Nat) : Int))).1
   have hst2 := (hst1.stored (k * 2 + 1) (.int .i64 (ent : Int))).1
   rw [rowP_step hlt] at hst2
   have HS := Lib.hid hst2
   obtain ⟨q1, q2⟩ := HK.out k hlt
   have kw : IntKind.i64.wrap ((k : Int) * (ent : Int)) = ((k * ent : Nat) : Int) := by rw [q1]; exact IntWalk.i64_in _ (by omega)
   have hJ : (k : Int) < (m : Int) := by omega
   clear hst1 hst2 hv0 hv1 hl q1
   go_wp2_with fail
   go_roundw
   case rel => exact ⟨k + 1, hlt, by go_num, HS.out, (hb.setCell (Nat.le_refl _) _).setCell (Nat.le_refl _) _⟩
   case measure => simp [intOf]; omega
  ·have hkn : k = m := by omega
   have HK := Lib.hid hkn
   have hJ : ¬ (k : Int) < (m : Int) := by omega
   clear hkn
   go_wp2_with fail
   go_ret
   refine ⟨_, rfl, ?_, hb⟩
   rw [entPcs_length, ← rowP_full]
   rw [HK.out] at hown
   exact hown
theorem GivesP.toP {T : TypeId} {l : List PcD} {w w1 w' : World} {e : Ending} (hb : Below w.heap.size w w1) (h : GivesP T l w1 e w') : GivesP T l w e w' := by
 obtain ⟨v, rfl, ho, hb2⟩ := h
 exact ⟨v, rfl, owns_lower ho hb.size, hb.trans (hb2.mono hb.size)⟩
set_option maxRecDepth 100000 in
set_option maxHeartbeats 1000000 in
theorem psplit_own (s : SecD) (dp : Option Addr) (dc : Nat) (vr : Value) (w : World) (hd : HasL 1 EByte w dp s.data) (h1 : s.data.length ≤ dc) (h2 : dc ≤ maxLen) (h3 : dp = none → dc = 0) (hbd : SecBd s) (hf : SecFacts s) (h4 : s.data.length ≤ 100000) :
  Calls Tryz.prog 163 #[secVS s (.slice dp s.data.length dc) vr] w (GivesP 213 (piecesOf s) w) := by
 have hfl := hf.2.2.2
 have hb1 : Below w.heap.size w (w.alloc (.cells #[.string s.name, .int .i64 s.type, .int .i64 s.flags, .int .i64 s.align, .int .i64 s.ent, .int .i64 s.link, .int .i64 s.size, .slice dp s.data.length dc, vr] 89)) := (Below.refl _ w).alloc (Nat.le_refl _) _
 have hcell : ∀ i v, (#[.string s.name, .int .i64 s.type, .int .i64 s.flags, .int .i64 s.align, .int .i64 s.ent, .int .i64 s.link, .int .i64 s.size, .slice dp s.data.length dc, vr] : Array Value)[i]? = some v → (w.alloc (.cells #[.string s.name, .int .i64 s.type, .int .i64 s.flags, .int .i64 s.align, .int .i64 s.ent, .int .i64 s.link, .int .i64 s.size, .slice dp s.data.length dc, vr] 89)).cell? ⟨w.heap.size, i, none⟩ = some v := fun i v hv =>
  (cell_of_row _ w.heap.size i _ 89 (0, 0) (heap_alloc_new w _)).trans hv
 have a2 := hcell 2 _ rfl
 have a4 := hcell 4 _ rfl
 have a6 := hcell 6 _ rfl
 have a7 := hcell 7 _ rfl
 have hQ := fun (T : TypeId) (w1 : World) (hx : Below w.heap.size w w1) e w' (h : GivesP T (piecesOf s) w1 e w') => GivesP.toP hx h
 have hST := ownStrings_any s.ent s.data dp dc _ (hd.below EByte.keeps hb1).has h1 h2 h3 (by omega)
 have hEN : ∀ m : Nat, 1 ≤ s.ent → s.data.length = m * s.ent.toNat → Calls Tryz.prog 197 #[.slice dp s.data.length dc, .int .i64 s.ent] (w.alloc (.cells #[.string s.name, .int .i64 s.type, .int .i64 s.flags, .int .i64 s.align, .int .i64 s.ent, .int .i64 s.link, .int .i64 s.size, .slice dp s.data.length dc, vr] 89)) (GivesP 213 (entPcs s.ent.toNat m) (w.alloc (.cells #[.string s.name, .int .i64 s.type, .int .i64 s.flags, .int .i64 s.align, .int .i64 s.ent, .int .i64 s.link, .int .i64 s.size, .slice dp s.data.length dc, vr] 89))) := fun m he hm => by
  have := ownEntries_any s.ent.toNat m dp dc (w.alloc (.cells #[.string s.name, .int .i64 s.type, .int .i64 s.flags, .int .i64 s.align, .int .i64 s.ent, .int .i64 s.link, .int .i64 s.size, .slice dp s.data.length dc, vr] 89)) (by omega) (by omega)
  rw [← hm, show ((s.ent.toNat : Nat) : Int) = s.ent by omega] at this
  exact this
 have hk16 : (bits .and .i64 s.flags 16 == 0) = !hasF s.flags 16 := by
  have := hasO_eq 4 (by omega) hfl hbd.1.2
  unfold hasO at this
  rw [show (2 : Int) ^ 4 = 16 by decide] at this
  rw [← this]
  unfold bne
  rw [Bool.not_not]
 have hk32 : (bits .and .i64 s.flags 32 != 0) = hasF s.flags 32 := by
  have := hasO_eq 5 (by omega) hfl hbd.1.2
  unfold hasO at this
  rw [show (2 : Int) ^ 5 = 32 by decide] at this
  exact this
 have HQ := Lib.hid hQ
 have HEN := Lib.hid hEN
 cases hq : hasF s.flags 16 with
 | false =>
  rw [hq] at hk16
  have HP : Hid (piecesOf s = [⟨0, s.size⟩]) := Lib.hid (by unfold piecesOf; rw [hq]; rfl)
  clear hST hEN hQ hk32 hcell hq HEN
  go_enter Tryz.func163, Tryz.ntmps163
  go_upto_region 1 with fail
  generalize w.alloc (.cells #[.string s.name, .int .i64 s.type, .int .i64 s.flags, .int .i64 s.align, .int .i64 s.ent, .int .i64 s.link, .int .i64 s.size, .slice dp s.data.length dc, vr] 89) = W1 at *
  go_wp2_with fail
  go_ret
  refine HQ.out 213 _ hb1 _ _ ?_
  rw [HP.out]
  exact ⟨_, rfl, World.ownsRow_lit _ #[.int .i64 0, .int .i64 s.size] 1 (Nat.le_refl _) (by unfold maxLen; omega) rfl, (Below.refl _ _).alloc (Nat.le_refl _) _⟩
 | true =>
  rw [hq] at hk16
  cases h32 : hasF s.flags 32 with
  | true =>
   rw [h32] at hk32
   have HP : Hid (piecesOf s = (pcStep true s.ent s.data s.data.length).1) := Lib.hid (by unfold piecesOf; rw [hq, h32]; rfl)
   have HST := Lib.hid hST
   clear hST hEN hQ hcell hq h32
   generalize s.data.length = dl at *
   go_enter Tryz.func163, Tryz.ntmps163
   go_wp2_with fail
   refine HST.out.mono ?_
   rintro e w' ⟨v, rfl, ho, hb2⟩
   go_wp2_with fail
   go_ret
   refine HQ.out 213 _ hb1 _ _ ?_
   rw [HP.out]
   exact ⟨_, rfl, ho, hb2⟩
  | false =>
   rw [h32] at hk32
   have he := (hf.2.1 hq).2.2.2
   obtain ⟨he1, he2⟩ := he h32
   rw [(hf.2.1 hq).1] at he2
   obtain ⟨m, hm⟩ : ∃ m : Nat, s.data.length = m * s.ent.toNat := by
    obtain ⟨q, hq2⟩ := he2
    have hq0 : 0 ≤ q := by
     by_cases h : 0 ≤ q
     ·exact h
     ·have := Int.mul_neg_of_pos_of_neg (show 0 < s.ent by omega) (show q < 0 by omega)
      omega
    refine ⟨q.toNat, ?_⟩
    have e1 : (s.ent.toNat : Int) = s.ent := by omega
    have e2 : (q.toNat : Int) = q := by omega
    have : ((q.toNat * s.ent.toNat : Nat) : Int) = (s.data.length : Int) := by rw [Int.natCast_mul, e1, e2, hq2, Int.mul_comm]
    omega
   have HP : Hid (piecesOf s = entPcs s.ent.toNat m) := Lib.hid (by
    unfold piecesOf
    rw [hq, h32]
    have := pcStep_ent (ent := s.ent.toNat) (d := s.data) (by omega) m (by omega)
    rw [show ((s.ent.toNat : Nat) : Int) = s.ent by omega, ← hm] at this
    rw [this]
    rfl)
   have HST := Lib.hid (HEN.out m he1 hm)
   clear hST hEN hQ hcell hq h32 HEN he2 hm he
   generalize s.data.length = dl at *
   go_enter Tryz.func163, Tryz.ntmps163
   go_wp2_with fail
   refine HST.out.mono ?_
   rintro e w' ⟨v, rfl, ho, hb2⟩
   go_wp2_with fail
   go_ret
   refine HQ.out 213 _ hb1 _ _ ?_
   rw [HP.out]
   exact ⟨_, rfl, ho, hb2⟩
end Go.Proofs.YteopgmieindojaaGreat

namespace Go.Proofs.YteopgmieindojaaGreat
open Go.RowKit
theorem flag2_eq {s : SecD} (hf : SecFacts s) (hb : SecBd s) : (bits .and .i64 s.flags 2 == 0) = !hasF s.flags 2 := by
 have := hasO_eq 1 (by omega) hf.2.2.2 hb.1.2
 unfold hasO at this
 rw [show (2 : Int) ^ 1 = 2 by decide] at this
 rw [← this]
 unfold bne
 rw [Bool.not_not]
set_option maxRecDepth 100000 in
set_option maxHeartbeats 8000000 in
theorem gSplit_any (p pd pf : Option Addr) (c cd nf cf g0 : Nat) (l : List ObjD) (D : List (List Bool)) (vs : List Value) (w0 w : World) (h : HasL 5 EObj w0 p l) (hok : ∀ o ∈ l, OkD o) (hsg : SecsG l) (hlc : l.length ≤ 1000) (hD : DropOK w0 pd l D) (hb0 : Below w0.heap.size w0 w) (hm : SMem w0.heap.size w g0 vs l zeroF l.length) :
    Calls Tryz.prog 112 #[.agg #[.slice p l.length c, .slice pd D.length cd, .slice pf nf cf, rowV g0 l.length]] w fun e w' => e = .returned (.tuple #[]) ∧ SMem w0.heap.size w' g0 vs l (splitF l D l.length 0) l.length ∧ FrT w0.heap.size [211] w w' := by
  rw [← splitF_start l D] at hm
  have ha : Below w.heap.size w (w.alloc (.cells #[.slice p l.length c, .slice pd D.length cd, .slice pf nf cf, rowV g0 l.length] 154)) := (Below.refl _ w).alloc (Nat.le_refl _) _
  have hB := heap_alloc_new w (.cells #[.slice p l.length c, .slice pd D.length cd, .slice pf nf cf, rowV g0 l.length] 154)
  have hm1 := hm.below ha
  have hb1 := hb0.trans (ha.mono hb0.size)
  have hf1 : FrT w0.heap.size [211] w (w.alloc (.cells #[.slice p l.length c, .slice pd D.length cd, .slice pf nf cf, rowV g0 l.length] 154)) := FrT.of_below ha
  have hz := first_zero l D
  have HH := Lib.hid h
  have HDR := Lib.hid hD
  have HDL := Lib.hid hD.len
  have HOK := Lib.hid hok
  have HSG := Lib.hid hsg
  have HM1 := Lib.hid hm1
  have HF1 := Lib.hid hf1
  have HB1 := Lib.hid hb1
  have hgN : w0.heap.size ≤ w.heap.size := hb0.size
  generalize hN : w0.heap.size = N at *
  have HN := Lib.hid hN
  generalize hln : l.length = ln at *
  have HLN := Lib.hid hln
  generalize hdn : D.length = dn at *
  have HDN := Lib.hid hdn
  generalize hgB : w.heap.size = gB at *
  have HGB := Lib.hid hgB
  have HZ := Lib.hid hz
  clear h hok hsg hD hb0 hm ha hm1 hb1 hf1 hN hln hdn hgB hz
  go_enter Tryz.func112, Tryz.ntmps112
  go_upto_region 1 with fail
  generalize w.alloc (.cells #[.slice p ln c, .slice pd dn cd, .slice pf nf cf, rowV g0 ln] 154) = w1 at *
  rw [HGB.out]
  obtain ⟨y0, y1, y2, y3, y4⟩ : w1.cell? ⟨gB, 0, none⟩ = some (.slice p ln c) ∧ w1.cell? ⟨gB, 1, none⟩ = some (.slice pd dn cd) ∧ w1.cell? ⟨gB, 2, none⟩ = some (.slice pf nf cf) ∧ w1.cell? ⟨gB, 3, none⟩ = some (.slice (some ⟨g0, 0, none⟩) ln ln) ∧ True := by
    refine ⟨?_, ?_, ?_, ?_, trivial⟩
    all_goals exact (cell_of_row w1 gB _ _ _ (0, 0) hB).trans rfl
  clear y4
  go_wp2_with fail
  go_loopw [2, 10, 3, 4, 5, 6] (fun r2 r10 _ _ _ _ wr => ∃ i : Nat, r10 = .int .i64 (i : Int) ∧ i ≤ ln ∧ r2 = .int .i64 (firstB l D i 0 : Int) ∧ SMem N wr g0 vs l (splitF l D i 0) ln ∧ wr.heap[gB]? = some (.cells #[.slice p ln c, .slice pd dn cd, .slice pf nf cf, rowV g0 ln] 154 (0, 0)) ∧ FrT N [211] w wr ∧ Below N w0 wr) (fun _ r10 _ _ _ _ _ => ln - (intOf r10).toNat)
  case atStart => exact ⟨0, rfl, Nat.zero_le _, by rw [HZ.out]; rfl, HM1.out, hB, HF1.out, HB1.out⟩
  case round =>
    obtain ⟨i, rfl, hi, rfl, hm, hBr, hf, hb⟩ := hrel
    clear hB y0 y1 y2 y3 HM1 HF1 HB1
    by_cases hlt : i < ln
    · obtain ⟨o, ho⟩ : ∃ o, l[i]? = some o := ⟨_, List.getElem?_eq_getElem (by rw [HLN.out]; exact hlt)⟩
      obtain ⟨b0, hv⟩ := hm.blk hlt ho
      have r0 := hm.cell ho hv
      have HO := Lib.hid ho
      have HV := Lib.hid hv
      have hoo := HOK.out o (List.mem_of_getElem? ho)
      have hql := hoo.few.1
      obtain ⟨b, off, p0, p1, p2, p4, c0, c1, c2, c4, hpe, e0', _, _, _, _, hsec, _⟩ := objs_at HH.out ho
      subst hpe
      have e0 := cell_later (by rw [HN.out]; exact hb) e0'
      have HSEC := Lib.hid hsec
      obtain ⟨ql, hqn⟩ : ∃ ql, ql = o.secs.length := ⟨_, rfl⟩
      have HQN := Lib.hid hqn
      rw [← hqn] at hql e0 r0
      obtain ⟨y0, y1, y2, y3, y4⟩ : wr.cell? ⟨gB, 0, none⟩ = some (.slice (some ⟨b, off, none⟩) ln c) ∧ wr.cell? ⟨gB, 1, none⟩ = some (.slice pd dn cd) ∧ wr.cell? ⟨gB, 2, none⟩ = some (.slice pf nf cf) ∧ wr.cell? ⟨gB, 3, none⟩ = some (.slice (some ⟨g0, 0, none⟩) ln ln) ∧ True := by
        refine ⟨?_, ?_, ?_, ?_, trivial⟩
        all_goals exact (cell_of_row wr gB _ _ _ (0, 0) hBr).trans rfl
      have j1 : (i : Int) < (ln : Int) := by omega
      have j0 : (0 : Int) ≤ (i : Int) := by omega
      have HM := Lib.hid hm
      have HBR := Lib.hid hBr
      have HFR := Lib.hid hf
      have HBW := Lib.hid hb
      clear ho hv hoo hqn hsec e0' hm hBr hf hb y4
      generalize hwo : wr = wo at *
      clear hwo
      go_wp2_with fail
      go_loopw [2, 22, 5, 6] (fun r2 r22 _ _ wq => ∃ q : Nat, r22 = .int .i64 (q : Int) ∧ q ≤ ql ∧ r2 = .int .i64 (firstB l D i q : Int) ∧ SMem N wq g0 vs l (splitF l D i q) ln ∧ wq.heap[gB]? = some (.cells #[.slice (some ⟨b, off, none⟩) ln c, .slice pd dn cd, .slice pf nf cf, rowV g0 ln] 154 (0, 0)) ∧ FrT N [211] w wq ∧ Below N w0 wq) (fun _ r22 _ _ _ => ql - (intOf r22).toNat)
      case atStart => exact ⟨0, rfl, Nat.zero_le _, rfl, HM.out, HBR.out, HFR.out, HBW.out⟩
      case round =>
        obtain ⟨q, rfl, hq, rfl, hm, hBr, hf, hb⟩ := hrel
        clear y0 y1 y2 y3 e0 r0
        have HMS := Lib.hid hm
        clear hm
        by_cases hlt2 : q < ql
        · obtain ⟨s, hs⟩ : ∃ s, o.secs[q]? = some s := ⟨_, List.getElem?_eq_getElem (by rw [← HQN.out]; exact hlt2)⟩
          have HS := Lib.hid hs
          have HSGS := Lib.hid (HSG.out o (List.mem_of_getElem? HO.out) s (List.mem_of_getElem? hs))
          obtain ⟨b2, off2, p7, p8, c7, c8, hpe2, f0, f1, f2, f3, f4, f5, f6, f7, f8, hd7, hd8, hbd⟩ := sec_at HSEC.out hs
          subst hpe2
          have hbW : Below w0.heap.size w0 wr := by rw [HN.out]; exact hb
          replace f0 := cell_later hbW f0
          replace f1 := cell_later hbW f1
          replace f2 := cell_later hbW f2
          replace f3 := cell_later hbW f3
          replace f4 := cell_later hbW f4
          replace f5 := cell_later hbW f5
          replace f6 := cell_later hbW f6
          replace f7 := cell_later hbW f7
          replace f8 := cell_later hbW f8
          have HD7 := Lib.hid hd7
          have hgr : gB < wr.heap.size := (Array.getElem?_eq_some_iff.1 hBr).1
          have hNr : N ≤ wr.heap.size := by omega
          have hN2 := heap_alloc_new wr (.cells #[.string s.name, .int .i64 s.type, .int .i64 s.flags, .int .i64 s.align, .int .i64 s.ent, .int .i64 s.link, .int .i64 s.size, .slice p7 s.data.length c7, .slice p8 s.rels.length c8] 89)
          have hb2 : Below wr.heap.size wr (wr.alloc (.cells #[.string s.name, .int .i64 s.type, .int .i64 s.flags, .int .i64 s.align, .int .i64 s.ent, .int .i64 s.link, .int .i64 s.size, .slice p7 s.data.length c7, .slice p8 s.rels.length c8] 89)) := (Below.refl _ wr).alloc (Nat.le_refl _) _
          have j4 : (q : Int) < (ql : Int) := by omega
          have j5 : (0 : Int) ≤ (q : Int) := by omega
          clear hs hd7 hd8 hbd hbW
          go_upto_region 8 with fail
          generalize wr.alloc (.cells #[.string s.name, .int .i64 s.type, .int .i64 s.flags, .int .i64 s.align, .int .i64 s.ent, .int .i64 s.link, .int .i64 s.size, .slice p7 s.data.length c7, .slice p8 s.rels.length c8] 89) = w2 at *
          have hm2 := HMS.out.below hb2
          have hB2 := (hb2.block gB hgr).trans hBr
          have hf2 := hf.trans (FrT.of_below hb2)
          have hbb := hb.trans (hb2.mono hNr)
          have hgs2 : wr.heap.size < w2.heap.size := (Array.getElem?_eq_some_iff.1 hN2).1
          generalize wr.heap.size = g2 at *
          have hc : ∀ j v, (#[.string s.name, .int .i64 s.type, .int .i64 s.flags, .int .i64 s.align, .int .i64 s.ent, .int .i64 s.link, .int .i64 s.size, .slice p7 s.data.length c7, .slice p8 s.rels.length c8] : Array Value)[j]? = some v → w2.cell? ⟨g2, j, none⟩ = some v := fun j v hv => (cell_of_row w2 g2 j _ _ (0, 0) hN2).trans hv
          have s0 := hc 0 _ rfl
          have s1 := hc 1 _ rfl
          have s2 := hc 2 _ rfl
          have s3 := hc 3 _ rfl
          have s4 := hc 4 _ rfl
          have s5 := hc 5 _ rfl
          have s6 := hc 6 _ rfl
          have s7 := hc 7 _ rfl
          have s8 := hc 8 _ rfl
          obtain ⟨y0, y1, y2, y3, y4⟩ : w2.cell? ⟨gB, 0, none⟩ = some (.slice (some ⟨b, off, none⟩) ln c) ∧ w2.cell? ⟨gB, 1, none⟩ = some (.slice pd dn cd) ∧ w2.cell? ⟨gB, 2, none⟩ = some (.slice pf nf cf) ∧ w2.cell? ⟨gB, 3, none⟩ = some (.slice (some ⟨g0, 0, none⟩) ln ln) ∧ True := by
            refine ⟨?_, ?_, ?_, ?_, trivial⟩
            all_goals exact (cell_of_row w2 gB _ _ _ (0, 0) hB2).trans rfl
          have k2 := flag2_eq HSGS.out.facts HSGS.out.bd
          obtain ⟨bd, od, qd, cdd, hpd, d0, hdr⟩ := drops_at (HDR.out.has) (i := i) (by rw [HDN.out, HDL.out]; exact hlt)
          have hdrl := HDR.out.row i o HO.out
          obtain ⟨bq, oq, dv, hqd, hdv, hcd⟩ := hdr.at_ (i := q) (by rw [hdrl, ← HQN.out]; exact hlt2)
          have hcd0 : w0.cell? ⟨bq, oq + q, none⟩ = some (.bool dv) := by have := hcd; unfold EBool at this; rw [Nat.mul_one] at this; exact this
          rw [hdrl, ← HQN.out] at d0
          have hbw2 : Below w0.heap.size w0 w2 := by rw [HN.out]; exact hbb
          replace d0 := cell_later hbw2 d0
          replace hcd0 := cell_later hbw2 hcd0
          have hdget : (drAt D i)[q]?.getD false = dv := by rw [hdv]; rfl
          have HHN : Hid (hasN D (i, q, s) = (hasF s.flags 2 && !dv)) := Lib.hid (by unfold hasN; rw [hdget])
          subst hpd
          subst hqd
          generalize hasF s.flags 2 = fa at *
          have k3 : (i : Int) < (dn : Int) := by rw [HDL.out]; exact j1
          obtain ⟨sk, hsk⟩ : ∃ sk, sk = (!fa || dv) := ⟨_, rfl⟩
          have HSK := Lib.hid hsk
          have HM2 := Lib.hid hm2
          have HB2 := Lib.hid hB2
          have HF2 := Lib.hid hf2
          have HBB := Lib.hid hbb
          have HN2 := Lib.hid hN2
          clear hdrl hdv hcd hdget hdr hsk hbw2 hm2 hB2 hf2 hbb hN2 hc f0 f1 f2 f3 f4 f5 f6 f7 f8 hBr hf hb hb2 y4
          go_cut [41] (fun s41 wx => s41 = .bool sk ∧ w2 = wx)
          case first =>
            cases fa with
            | false =>
              obtain rfl : sk = true := by rw [HSK.out]; rfl
              go_wp2_with fail
              go_meet
              exact ⟨rfl, rfl⟩
            | true =>
              obtain rfl : sk = dv := by rw [HSK.out]; rfl
              go_wp2_with fail
              go_meet
              exact ⟨rfl, rfl⟩
          case rest =>
          obtain ⟨rfl, rfl⟩ := hcut
          clear d0 hcd0 k2
          cases sk with
          | true =>
            have hno : hasN D (i, q, s) = false := by
              rw [HHN.out]
              have := HSK.out
              cases fa <;> cases dv <;> first | rfl | (simp at this)
            have HP : Hid (firstB l D i (q + 1) = firstB l D i q) := Lib.hid (by rw [first_step HO.out HS.out]; unfold pcsAt; rw [hno]; rfl)
            have HMN := Lib.hid (HM2.out.congr (splitF_skip HO.out HS.out hno))
            clear hno
            go_wp2_with fail
            go_roundw
            case rel => exact ⟨q + 1, by go_num, hlt2, by rw [HP.out], HMN.out, HB2.out, HF2.out, HBB.out⟩
            case measure => simp [intOf]; omega
          | false =>
            have hyes : hasN D (i, q, s) = true := by
              rw [HHN.out]
              have := HSK.out
              cases fa <;> cases dv <;> first | rfl | (simp at this)
            have HYES := Lib.hid hyes
            have hspl := psplit_own s p7 c7 (.slice p8 s.rels.length c8) w2 (HD7.out.1.below EByte.keeps (by rw [HN.out]; exact HBB.out)) HD7.out.2.1 HD7.out.2.2.1 HD7.out.2.2.2 HSGS.out.bd HSGS.out.facts (by have := HSGS.out.few; omega)
            have HSP := Lib.hid hspl
            clear hspl hyes
            have hgB2 : gB < w2.heap.size := (Array.getElem?_eq_some_iff.1 HB2.out).1
            go_upto_region 10 with (first | (go_at_call 163
                                             refine HSP.out.mono ?_
                                             rintro e w3 ⟨v3, rfl, hown3, hb3⟩
                                             obtain ⟨pp, cp, rfl, _⟩ := slice_form hown3
                                             have hm3 := HM2.out.below hb3
                                             obtain ⟨t1, t2, t3, pv, u0, u1, u2, u3, _, _, _, _, hset⟩ := hm3.at_ hlt HO.out HV.out HS.out (splitF_at l D i q s)
                                             have t30 := t3 (q * 4)) | fail)
            have hpl : (piecesOf s).length ≤ 16384 := (pieces_facts HSGS.out.facts).2.1
            have hfew := first_few (D := D) HSG.out HOK.out i q
            have hfm : (i + 1) * 16384000 ≤ 1001 * 16384000 := Nat.mul_le_mul_right _ (by omega)
            obtain ⟨hS1, hS2⟩ := hset (.slice pp (piecesOf s).length cp) (piecesOf s) ⟨owns_lower hown3 (show N ≤ w2.heap.size by omega), pieces_bd HSGS.out.facts⟩
            have hB4 := hS2.heap ((hb3.block gB hgB2).trans HB2.out) (by decide)
            have hf4 := (HF2.out.trans (FrT.of_below hb3)).trans hS2
            have hb4 := (HBB.out.trans (hb3.mono (by omega))).trans (hS2.below (by have := hb3.size; omega))
            generalize w3.setCell ⟨b0, q * 4, none⟩ (.slice pp (piecesOf s).length cp) = w4 at *
            obtain ⟨_, _, t3', pv', u0', u1', u2', u3', _, hset4, _⟩ := hS1.at_ (k := q) hlt HO.out HV.out HS.out (updF_at _ _ _ _ _)
            have t31 := t3' (q * 4 + 1)
            obtain ⟨hS3, hS4⟩ := hset4 (firstB l D i q : Int)
            have HB5 := Lib.hid (hS4.heap hB4 (by decide))
            have HF5 := Lib.hid (hf4.trans hS4)
            have HBB5 := Lib.hid (hb4.trans (hS4.below (by have := (Array.getElem?_eq_some_iff.1 hB4).1; omega)))
            have HS3 := Lib.hid hS3
            have HST := Lib.hid (first_step (D := D) HO.out HS.out)
            have HPC : Hid (pcsAt D (i, q, s) = piecesOf s) := Lib.hid (by unfold pcsAt; rw [HYES.out]; rfl)
            clear hset hset4 hS1 hS2 hS3 hS4 hB4 hf4 hb4 hb3 hown3 t3 t3' t30 u0 u1 u2 u3 u0' u2' u3' hm3 s0 s1 s2 s3 s4 s5 s6 s7 s8 y0 y1 y2 y3
            go_upto_region 11 with fail
            generalize w4.setCell ⟨b0, q * 4 + 1, none⟩ (.int .i64 (firstB l D i q : Int)) = w5 at *
            obtain ⟨_, _, _, pv5, u0, u1, u2, u3, hok5, _⟩ := HS3.out.at_ (k := q) hlt HO.out HV.out HS.out (updF_at _ _ _ _ _)
            obtain ⟨p5, c5, hpv5, _⟩ := slice_form hok5.1
            replace hpv5 : pv5 = .slice p5 (piecesOf s).length c5 := hpv5
            rw [hpv5] at u0
            have HM5 := Lib.hid (HS3.out.congr (splitF_step HO.out HS.out HYES.out))
            have HSTN : Hid (firstB l D i (q + 1) = firstB l D i q + (piecesOf s).length) := Lib.hid (by rw [HST.out, HPC.out])
            obtain ⟨F, hF⟩ : ∃ F, F = firstB l D i q := ⟨_, rfl⟩
            obtain ⟨pn, hpn⟩ : ∃ pn, pn = (piecesOf s).length := ⟨_, rfl⟩
            rw [← hF] at HSTN hfew u1 ⊢
            rw [← hpn] at HSTN hpl ⊢
            replace u0 : w5.cell? ⟨b0, q * 4, none⟩ = some (.slice p5 pn c5) := by rw [hpn]; exact u0
            have kw : IntKind.i64.wrap ((F : Int) + (pn : Int)) = (F : Int) + (pn : Int) := IntWalk.i64_in _ (by omega)
            clear hF hpn hok5 hpv5 t31 u1'
            go_wp2_with fail
            go_roundw
            case rel => exact ⟨q + 1, by go_num, hlt2, by rw [HSTN.out]; go_num, HM5.out, HB5.out, HF5.out, HBB5.out⟩
            case measure => simp [intOf]; omega
        · obtain rfl : q = ql := by omega
          have HMX := Lib.hid (HMS.out.congr (splitF_next HO.out (by rw [← HQN.out]; exact Nat.le_refl _)))
          have HFX : Hid (firstB l D (i + 1) 0 = firstB l D i q) := Lib.hid (first_next HO.out (by rw [← HQN.out]; exact Nat.le_refl _))
          have HBX := Lib.hid hBr
          have m1 : ¬ (q : Int) < (q : Int) := by omega
          clear hBr
          go_wp2_with fail
          go_roundw
          case rel => exact ⟨i + 1, by go_num, by omega, by rw [HFX.out], HMX.out, HBX.out, hf, hb⟩
          case measure => simp [intOf]; omega
    · obtain rfl : i = ln := by omega
      have HMX := Lib.hid hm
      have m1 : ¬ (i : Int) < (i : Int) := by omega
      have HLE := Lib.hid HLN.out
      clear hm hBr
      go_wp2_with fail
      exact bodyPost_end (results_none rfl _ _ _) rfl ⟨rfl, HMX.out, hf⟩
end Go.Proofs.YteopgmieindojaaGreat

namespace Go.Proofs.YteopgmieindojaaGreat
open Go.RowKit
set_option maxRecDepth 100000 in
set_option maxHeartbeats 8000000 in
theorem gNumber_any (p : Option Addr) (q1 q2 : Option Addr) (c m1 d1 m2 d2 g0 : Nat) (l : List ObjD) (D : List (List Bool)) (vs : List Value) (w0 w : World) (h : HasL 5 EObj w0 p l) (hok : ∀ o ∈ l, OkD o) (hlc : l.length ≤ 1000) (hb0 : Below w0.heap.size w0 w) (hm : SMem w0.heap.size w g0 vs l (groupsF l D 0 0 []) l.length) :
  Calls Tryz.prog 113 #[.agg #[.slice p l.length c, .slice q1 m1 d1, .slice q2 m2 d2, rowV g0 l.length]] w fun e w' => e = .returned (.tuple #[]) ∧ SMem w0.heap.size w' g0 vs l (groupsF l D l.length 0 []) l.length ∧ FrT w0.heap.size [211] w w' := by
 have ha : Below w.heap.size w (w.alloc (.cells #[.slice p l.length c, .slice q1 m1 d1, .slice q2 m2 d2, rowV g0 l.length] 154)) := (Below.refl _ w).alloc (Nat.le_refl _) _
 have hB := heap_alloc_new w (.cells #[.slice p l.length c, .slice q1 m1 d1, .slice q2 m2 d2, rowV g0 l.length] 154)
 have HM1 := Lib.hid (hm.below ha)
 have HB1 := Lib.hid (hb0.trans (ha.mono hb0.size))
 have HF1 : Hid (FrT w0.heap.size [211] w (w.alloc (.cells #[.slice p l.length c, .slice q1 m1 d1, .slice q2 m2 d2, rowV g0 l.length] 154))) := Lib.hid (FrT.of_below ha)
 have HH := Lib.hid h
 have HOK := Lib.hid hok
 have hgN : w0.heap.size ≤ w.heap.size := hb0.size
 generalize hN : w0.heap.size = N at *
 have HN := Lib.hid hN
 generalize hln : l.length = ln at *
 have HLN := Lib.hid hln
 generalize hgB : w.heap.size = gB at *
 have HGB := Lib.hid hgB
 clear h hok hb0 hm ha hN hln hgB
 go_enter Tryz.func113, Tryz.ntmps113
 go_upto_region 1 with fail
 generalize w.alloc (.cells #[.slice p ln c, .slice q1 m1 d1, .slice q2 m2 d2, rowV g0 ln] 154) = w1 at *
 rw [HGB.out]
 obtain ⟨y0, y1, y2, y3⟩ : w1.cell? ⟨gB, 0, none⟩ = some (.slice p ln c) ∧ w1.cell? ⟨gB, 1, none⟩ = some (.slice q1 m1 d1) ∧ w1.cell? ⟨gB, 2, none⟩ = some (.slice q2 m2 d2) ∧ w1.cell? ⟨gB, 3, none⟩ = some (.slice (some ⟨g0, 0, none⟩) ln ln) := by
  refine ⟨?_, ?_, ?_, ?_⟩
  all_goals exact (cell_of_row w1 gB _ _ _ (0, 0) hB).trans rfl
 go_wp2_with fail
 go_loopw [2, 12, 3, 4, 6, 8] (fun r2 r12 _ _ _ _ wr => ∃ i : Nat, r12 = .int .i64 (i : Int) ∧ i ≤ ln ∧ r2 = .int .i64 ((allTo ObjD.groups l i).length : Int) ∧ SMem N wr g0 vs l (groupsF l D i 0 []) ln ∧ wr.heap[gB]? = some (.cells #[.slice p ln c, .slice q1 m1 d1, .slice q2 m2 d2, rowV g0 ln] 154 (0, 0)) ∧ FrT N [211] w wr ∧ Below N w0 wr) (fun _ r12 _ _ _ _ _ => ln - (intOf r12).toNat)
 case atStart => exact ⟨0, rfl, Nat.zero_le _, rfl, HM1.out, hB, HF1.out, HB1.out⟩
 case round =>
  obtain ⟨i, rfl, hi, rfl, hm, hBr, hf, hb⟩ := hrel
  clear hB y0 y1 y2 y3 HM1 HF1 HB1
  by_cases hlt : i < ln
  ·obtain ⟨o, ho⟩ : ∃ o, l[i]? = some o := ⟨_, List.getElem?_eq_getElem (by rw [HLN.out]; exact hlt)⟩
   obtain ⟨b0, hv⟩ := hm.blk hlt ho
   have r0 := hm.cell ho hv
   have HO := Lib.hid ho
   have HV := Lib.hid hv
   have hoo := HOK.out o (List.mem_of_getElem? ho)
   have HOO := Lib.hid hoo
   have hql := hoo.few.1
   have hgl := hoo.few.2.2.1
   obtain ⟨b, off, p0, p1, p2, p4, c0, c1, c2, c4, hpe, _, _, e2', _, _, _, _, hgr, _⟩ := objs_at HH.out ho
   subst hpe
   have e2 := cell_later (by rw [HN.out]; exact hb) e2'
   have HGRP := Lib.hid hgr
   obtain ⟨G, hG⟩ : ∃ G, G = (allTo ObjD.groups l i).length := ⟨_, rfl⟩
   have hGle : G ≤ 1000 * 100000 := by
    rw [hG]
    exact Nat.le_trans (allTo_len (fun x hx => (HOK.out x hx).few.2.2.1) i) (Nat.mul_le_mul_right _ (by omega))
   have HG := Lib.hid hG
   have HGN1 := Lib.hid (groups_snoc ho)
   rw [← hG] at HGN1 ⊢
   obtain ⟨ql, hqn⟩ : ∃ ql, ql = o.secs.length := ⟨_, rfl⟩
   have HQN := Lib.hid hqn
   rw [← hqn] at hql r0
   obtain ⟨gn, hgn⟩ : ∃ gn, gn = o.groups.length := ⟨_, rfl⟩
   have HGN := Lib.hid hgn
   rw [← hgn] at hgl e2 HGN1
   obtain ⟨y0, y1, y2, y3⟩ : wr.cell? ⟨gB, 0, none⟩ = some (.slice (some ⟨b, off, none⟩) ln c) ∧ wr.cell? ⟨gB, 1, none⟩ = some (.slice q1 m1 d1) ∧ wr.cell? ⟨gB, 2, none⟩ = some (.slice q2 m2 d2) ∧ wr.cell? ⟨gB, 3, none⟩ = some (.slice (some ⟨g0, 0, none⟩) ln ln) := by
    refine ⟨?_, ?_, ?_, ?_⟩
    all_goals exact (cell_of_row wr gB _ _ _ (0, 0) hBr).trans rfl
   have j1 : (i : Int) < (ln : Int) := by omega
   have j0 : (0 : Int) ≤ (i : Int) := by omega
   have HM := Lib.hid hm
   have HBR := Lib.hid hBr
   have HFR := Lib.hid hf
   have HBW := Lib.hid hb
   clear ho hv hoo hqn hgn hgr hG e2' hm hBr hf hb
   generalize hwo : wr = wo at *
   clear hwo
   go_wp2_with fail
   go_loopw [2, 24, 6, 8] (fun r2 r24 _ _ wq => ∃ k : Nat, r24 = .int .i64 (k : Int) ∧ k ≤ gn ∧ r2 = .int .i64 ((G : Int) + (k : Int)) ∧ SMem N wq g0 vs l (groupsF l D i k []) ln ∧ wq.heap[gB]? = some (.cells #[.slice (some ⟨b, off, none⟩) ln c, .slice q1 m1 d1, .slice q2 m2 d2, rowV g0 ln] 154 (0, 0)) ∧ FrT N [211] w wq ∧ Below N w0 wq) (fun _ r24 _ _ _ => gn - (intOf r24).toNat)
   case atStart => exact ⟨0, rfl, Nat.zero_le _, by go_num, HM.out, HBR.out, HFR.out, HBW.out⟩
   case round =>
    obtain ⟨k, rfl, hk, rfl, hm, hBr, hf, hb⟩ := hrel
    clear y0 y1 y2 y3 e2 r0
    have HMS := Lib.hid hm
    clear hm
    by_cases hlt2 : k < gn
    ·obtain ⟨b2, off2, g, hpe2, hg, ⟨hE0', _⟩, v2, hcv2', q5, c5, rfl, _, _, _, hml⟩ := HGRP.out.at_ (i := k) (by rw [← HGN.out]; exact hlt2)
     subst hpe2
     have hbW : Below w0.heap.size w0 wr := by rw [HN.out]; exact hb
     have hE0 := cell_later hbW hE0'
     have hcv2 := cell_later hbW hcv2'
     have HGG := Lib.hid hg
     have hgm := List.mem_of_getElem? hg
     have HMEM := Lib.hid (HOO.out.mem g hgm)
     have hfew := HOO.out.few.2.2.2.2 g hgm
     have HML := Lib.hid (show HasL 1 EInt w0 q5 g.members from hml)
     obtain ⟨mn, hmn⟩ : ∃ mn, mn = g.members.length := ⟨_, rfl⟩
     have HMN := Lib.hid hmn
     rw [← hmn] at hfew hcv2
     obtain ⟨gs, hgs⟩ : ∃ gs, gs = g.sym := ⟨_, rfl⟩
     rw [← hgs] at hE0
     have hgr : gB < wr.heap.size := (Array.getElem?_eq_some_iff.1 hBr).1
     have hNr : N ≤ wr.heap.size := by omega
     have hN2 := heap_alloc_new wr (.cells #[.int .i64 gs, .slice q5 mn c5] 100)
     have hb2 : Below wr.heap.size wr (wr.alloc (.cells #[.int .i64 gs, .slice q5 mn c5] 100)) := (Below.refl _ wr).alloc (Nat.le_refl _) _
     have j4 : (k : Int) < (gn : Int) := by omega
     have j5 : (0 : Int) ≤ (k : Int) := by omega
     have kw : IntKind.i64.wrap ((G : Int) + (k : Int) + 1) = (G : Int) + (k : Int) + 1 := IntWalk.i64_in _ (by omega)
     clear hg hgm hmn hml hE0' hcv2' hbW hgs
     go_upto_region 8 with fail
     generalize wr.alloc (.cells #[.int .i64 gs, .slice q5 mn c5] 100) = w2 at *
     have hm2 := HMS.out.below hb2
     have hB2 := (hb2.block gB hgr).trans hBr
     have hf2 := hf.trans (FrT.of_below hb2)
     have hbb := hb.trans (hb2.mono hNr)
     have hgs2 : wr.heap.size < w2.heap.size := (Array.getElem?_eq_some_iff.1 hN2).1
     generalize wr.heap.size = g2 at *
     obtain ⟨⟨x0, x1⟩, _⟩ := pair_cells _ _ _ _ _ hN2
     have HM2 := Lib.hid hm2
     have HB2 := Lib.hid hB2
     have HF2 := Lib.hid hf2
     have HBB := Lib.hid hbb
     clear hm2 hB2 hf2 hbb hN2 hb2 hBr hf hb hE0 hcv2
     go_wp2_with fail
     generalize hwo : wr = wo2 at *
     clear hwo
     go_loopw [33, 8] (fun r33 _ wx => ∃ j : Nat, r33 = .int .i64 (j : Int) ∧ j ≤ mn ∧ SMem N wx g0 vs l (groupsF l D i k (g.members.take j)) ln ∧ wx.heap[gB]? = some (.cells #[.slice (some ⟨b, off, none⟩) ln c, .slice q1 m1 d1, .slice q2 m2 d2, rowV g0 ln] 154 (0, 0)) ∧ FrT N [211] w wx ∧ Below N w0 wx) (fun r33 _ _ => mn - (intOf r33).toNat)
     case atStart => exact ⟨0, rfl, Nat.zero_le _, HM2.out, HB2.out, HF2.out, HBB.out⟩
     case round =>
      obtain ⟨j, rfl, hj, hm, hBr, hf, hb⟩ := hrel
      clear x0 x1
      by_cases hjl : j < mn
      ·obtain ⟨b5, off5, x, hpe5, hx, hcx⟩ := HML.out.at_ (i := j) (by rw [← HMN.out]; exact hjl)
       subst hpe5
       have hcx0' := hcx.1
       rw [Nat.mul_one] at hcx0'
       have hcx0 := cell_later (show Below w0.heap.size w0 wr by rw [HN.out]; exact hb) hcx0'
       obtain ⟨m, hmx⟩ : ∃ m : Nat, x = (m : Int) + 1 := ⟨(x - 1).toNat, by have := HMEM.out x (List.mem_of_getElem? hx); omega⟩
       have hml : m < ql := by have := HMEM.out x (List.mem_of_getElem? hx); have := HQN.out; omega
       subst hmx
       obtain ⟨s, hs⟩ : ∃ s, o.secs[m]? = some s := ⟨_, List.getElem?_eq_getElem (by rw [← HQN.out]; exact hml)⟩
       obtain ⟨t1, t2, t3, pv, u0, u1, u2, u3, _, _, hset, _⟩ := hm.at_ (k := m) hlt HO.out HV.out hs (rfl : groupsF l D i k (g.members.take j) i m s = ⟨pcsAt D (i, m, s), fstB l D i m s, grpAt l i k (g.members.take j) i m, false⟩)
       have t32 := t3 (m * 4 + 2)
       obtain ⟨hS1, hS2⟩ := hset ((G : Int) + (k : Int) + 1)
       have hS3 := hS1.congr (g := groupsF l D i k (g.members.take (j + 1))) (by
        rw [HG.out]
        exact fun i' k' o' s' ho' hs' => groupsF_step (l := l) (D := D) (a := i) (g := k) (j := j) hx s i' k' o' s' ho' hs' (fun e => by
         obtain ⟨rfl, rfl⟩ := e
         have h1 := HO.out
         rw [ho'] at h1
         cases h1
         rw [hs] at hs'
         cases hs'
         rfl))
       have HS3 := Lib.hid hS3
       have HBX := Lib.hid (hS2.heap hBr (by decide))
       have HFX := Lib.hid (hf.trans hS2)
       have HBBX := Lib.hid (hb.trans (hS2.below (by have := (Array.getElem?_eq_some_iff.1 hBr).1; omega)))
       have m1 : (j : Int) < (mn : Int) := by omega
       have m0 : (0 : Int) ≤ (j : Int) := by omega
       have m2 : IntKind.i64.wrap ((m : Int) + 1 - 1) = (m : Int) := by rw [show (m : Int) + 1 - 1 = (m : Int) by omega]; exact IntWalk.i64_in _ (by omega)
       have m3 : (m : Int) < (ql : Int) := by omega
       have m4 : (0 : Int) ≤ (m : Int) := by omega
       clear hx hcx hcx0' hs t3 hset hS1 hS2 hS3 hm hBr hf hb
       go_wp2_with fail
       go_roundw
       case rel => exact ⟨j + 1, by go_num, hjl, HS3.out, HBX.out, HFX.out, HBBX.out⟩
       case measure => simp [intOf]; omega
      ·have hE : g.members.take j = g.members := List.take_of_length_le (by rw [← HMN.out]; omega)
       rw [hE] at hm
       have HMX := Lib.hid (hm.congr (groupsF_group HO.out HGG.out))
       have HBX := Lib.hid hBr
       have m1 : ¬ (j : Int) < (mn : Int) := by omega
       clear hE hm hBr
       go_wp2_with fail
       go_roundw
       case rel => exact ⟨k + 1, by go_num, hlt2, by go_num, HMX.out, HBX.out, hf, hb⟩
       case measure => simp [intOf]; omega
    ·obtain rfl : k = gn := by omega
     have HMX := Lib.hid (HMS.out.congr (groupsF_next HO.out HGN.out))
     have HGX : Hid ((G : Int) + (k : Int) = ((allTo ObjD.groups l (i + 1)).length : Int)) := Lib.hid (by rw [HGN1.out]; omega)
     have HBX := Lib.hid hBr
     have m1 : ¬ (k : Int) < (k : Int) := by omega
     clear hBr
     go_wp2_with fail
     go_roundw
     case rel => exact ⟨i + 1, by go_num, by omega, by rw [HGX.out], HMX.out, HBX.out, hf, hb⟩
     case measure => simp [intOf]; omega
  ·obtain rfl : i = ln := by omega
   have HMX := Lib.hid hm
   have m1 : ¬ (i : Int) < (i : Int) := by omega
   clear hm hBr
   go_wp2_with fail
   exact bodyPost_end (results_none rfl _ _ _) rfl ⟨rfl, HMX.out, hf⟩
end Go.Proofs.YteopgmieindojaaGreat
