/-
  Parts of a proof.
-/
import Derived.Test.YteopgmieindojaaGreatGW12
import Derived.Test.YteopgmieindojaaGreatGW17
import Derived.Test.YteopgmieindojaaGreatGW06
import Derived.Deep.AppendLies
import Derived.Laws.Tables
import Derived.Test.YteopgmieindojaaGreatGW15
import Derived.Test.YteopgmieindojaaGreatGW16
namespace Go.Proofs.YteopgmieindojaaGreat
open Go.RowKit
set_option maxRecDepth 100000 in
set_option maxHeartbeats 8000000 in
theorem gMark_any (p q1 q2 : Option Addr) (c m1 d1 m2 d2 g0 : Nat) (l : List ObjD) (D : List (List Bool)) (vs : List Value) (w0 w : World) (h : HasL 5 EObj w0 p l) (hok : ∀ o ∈ l, OkD o) (hlc : l.length ≤ 1000) (hb0 : Below w0.heap.size w0 w) (hm : SMem w0.heap.size w g0 vs l (namedF l D 0 0) l.length)
    (hW : ∀ W, Below w0.heap.size w0 W → ∀ (o : Nat) (s : Int), i64bd s → o ≤ 1000000 → Calls Tryz.prog 25 #[.slice p l.length c, .agg #[.slice q1 m1 d1, .slice q2 m2 d2], .int .i64 (o : Int), .int .i64 s] W (GivesNPl (whereB l D o s) W)) :
    Calls Tryz.prog 114 #[.agg #[.slice p l.length c, .slice q1 m1 d1, .slice q2 m2 d2, rowV g0 l.length]] w fun e w' => e = .returned (.tuple #[]) ∧ SMem w0.heap.size w' g0 vs l (knowF l D) l.length ∧ FrT w0.heap.size [211] w w' := by
  have ha : Below w.heap.size w (w.alloc (.cells #[.slice p l.length c, .slice q1 m1 d1, .slice q2 m2 d2, rowV g0 l.length] 154)) := (Below.refl _ w).alloc (Nat.le_refl _) _
  have hB := heap_alloc_new w (.cells #[.slice p l.length c, .slice q1 m1 d1, .slice q2 m2 d2, rowV g0 l.length] 154)
  have HM1 := Lib.hid (hm.below ha)
  have HB1 := Lib.hid (hb0.trans (ha.mono hb0.size))
  have HF1 : Hid (FrT w0.heap.size [211] w (w.alloc (.cells #[.slice p l.length c, .slice q1 m1 d1, .slice q2 m2 d2, rowV g0 l.length] 154))) := Lib.hid (FrT.of_below ha)
  have HH := Lib.hid h
  have HOK := Lib.hid hok
  have HWH := Lib.hid hW
  have HVB := Lib.hid (vals_bd h)
  have hgN : w0.heap.size ≤ w.heap.size := hb0.size
  generalize hN : w0.heap.size = N at *
  have HN := Lib.hid hN
  generalize hln : l.length = ln at *
  have HLN := Lib.hid hln
  generalize hgB : w.heap.size = gB at *
  have HGB := Lib.hid hgB
  clear h hok hb0 hm ha hN hln hgB hW
  go_enter Tryz.func114, Tryz.ntmps114
  go_upto_region 1 with fail
  generalize w.alloc (.cells #[.slice p ln c, .slice q1 m1 d1, .slice q2 m2 d2, rowV g0 ln] 154) = w1 at *
  rw [HGB.out]
  obtain ⟨y0, y1, y2, y3⟩ : w1.cell? ⟨gB, 0, none⟩ = some (.slice p ln c) ∧ w1.cell? ⟨gB, 1, none⟩ = some (.slice q1 m1 d1) ∧ w1.cell? ⟨gB, 2, none⟩ = some (.slice q2 m2 d2) ∧ w1.cell? ⟨gB, 3, none⟩ = some (.slice (some ⟨g0, 0, none⟩) ln ln) := by
    refine ⟨?_, ?_, ?_, ?_⟩
    all_goals exact (cell_of_row w1 gB _ _ _ (0, 0) hB).trans rfl
  go_wp2_with fail
  go_loopw [10, 2, 4, 5, 6] (fun r10 _ _ _ _ wr => ∃ i : Nat, r10 = .int .i64 (i : Int) ∧ i ≤ ln ∧ SMem N wr g0 vs l (namedF l D i 0) ln ∧ wr.heap[gB]? = some (.cells #[.slice p ln c, .slice q1 m1 d1, .slice q2 m2 d2, rowV g0 ln] 154 (0, 0)) ∧ FrT N [211] w wr ∧ Below N w0 wr) (fun r10 _ _ _ _ _ => ln - (intOf r10).toNat)
  case atStart => exact ⟨0, rfl, Nat.zero_le _, HM1.out, hB, HF1.out, HB1.out⟩
  case round =>
    obtain ⟨i, rfl, hi, hm, hBr, hf, hb⟩ := hrel
    clear hB y0 y1 y2 y3 HM1 HF1 HB1
    obtain ⟨y0, y1, y2, y3⟩ : wr.cell? ⟨gB, 0, none⟩ = some (.slice p ln c) ∧ wr.cell? ⟨gB, 1, none⟩ = some (.slice q1 m1 d1) ∧ wr.cell? ⟨gB, 2, none⟩ = some (.slice q2 m2 d2) ∧ wr.cell? ⟨gB, 3, none⟩ = some (.slice (some ⟨g0, 0, none⟩) ln ln) := by
      refine ⟨?_, ?_, ?_, ?_⟩
      all_goals exact (cell_of_row wr gB _ _ _ (0, 0) hBr).trans rfl
    by_cases hlt : i < ln
    · obtain ⟨o, ho⟩ : ∃ o, l[i]? = some o := ⟨_, List.getElem?_eq_getElem (by rw [HLN.out]; exact hlt)⟩
      have HO := Lib.hid ho
      have hoo := HOK.out o (List.mem_of_getElem? ho)
      have hsl := hoo.few.2.2.2.1
      obtain ⟨b, off, p0, p1, p2, p4, c0, c1, c2, c4, hpe, _, _, _, _, e4', _, _, _, hsig, _⟩ := objs_at HH.out ho
      subst hpe
      have e4 := cell_later (by rw [HN.out]; exact hb) e4'
      have HSIG := Lib.hid hsig
      obtain ⟨sl, hsn⟩ : ∃ sl, sl = o.sig.length := ⟨_, rfl⟩
      have HSN := Lib.hid hsn
      rw [← hsn] at hsl e4
      have j1 : (i : Int) < (ln : Int) := by omega
      have j0 : (0 : Int) ≤ (i : Int) := by omega
      have HM := Lib.hid hm
      have HBR := Lib.hid hBr
      have HFR := Lib.hid hf
      have HBW := Lib.hid hb
      clear ho hoo hsn hsig e4' hm hBr hf hb
      generalize hwo : wr = wo at *
      clear hwo
      go_wp2_with fail
      go_loopw [20, 4, 5, 6] (fun r20 _ _ _ wq => ∃ q : Nat, r20 = .int .i64 (q : Int) ∧ q ≤ sl ∧ SMem N wq g0 vs l (namedF l D i q) ln ∧ wq.heap[gB]? = some (.cells #[.slice (some ⟨b, off, none⟩) ln c, .slice q1 m1 d1, .slice q2 m2 d2, rowV g0 ln] 154 (0, 0)) ∧ FrT N [211] w wq ∧ Below N w0 wq) (fun r20 _ _ _ _ => sl - (intOf r20).toNat)
      case atStart => exact ⟨0, rfl, Nat.zero_le _, HM.out, HBR.out, HFR.out, HBW.out⟩
      case round =>
        obtain ⟨q, rfl, hq, hm, hBr, hf, hb⟩ := hrel
        clear y0 y1 y2 y3 e4
        have HMS := Lib.hid hm
        clear hm
        by_cases hlt2 : q < sl
        · obtain ⟨b5, off5, x, hpe5, hx, hcx⟩ := HSIG.out.at_ (i := q) (by rw [← HSN.out]; exact hlt2)
          subst hpe5
          have hxb := hcx.2
          have hcx0' := hcx.1
          rw [Nat.mul_one] at hcx0'
          have hcx0 := cell_later (show Below w0.heap.size w0 wr by rw [HN.out]; exact hb) hcx0'
          obtain ⟨y0, y1, y2, y3⟩ : wr.cell? ⟨gB, 0, none⟩ = some (.slice (some ⟨b, off, none⟩) ln c) ∧ wr.cell? ⟨gB, 1, none⟩ = some (.slice q1 m1 d1) ∧ wr.cell? ⟨gB, 2, none⟩ = some (.slice q2 m2 d2) ∧ wr.cell? ⟨gB, 3, none⟩ = some (.slice (some ⟨g0, 0, none⟩) ln ln) := by
            refine ⟨?_, ?_, ?_, ?_⟩
            all_goals exact (cell_of_row wr gB _ _ _ (0, 0) hBr).trans rfl
          have HX := Lib.hid hx
          have hpl := where_place (l := l) (D := D) (o := (i : Int)) (s := x) HOK.out HVB.out
          have hwh := HWH.out wr hb i x hxb (by omega)
          have HNO := Lib.hid (fun hno => HMS.out.congr (namedF_no HO.out hx hno))
          have HYS := Lib.hid (fun pi pk at_ s h0 h1 => namedF_yes (l := l) (D := D) (a := i) (q := q) (pi := pi) (pk := pk) (at_ := at_) (s := s) HO.out hx h0 h1)
          obtain ⟨⟨⟨P0, P1, P2⟩, cd1⟩, hwb⟩ : ∃ P : PlaceD × Int, whereB l D i x = P := ⟨_, rfl⟩
          rw [hwb] at hpl hwh HNO HYS
          have HPL := Lib.hid hpl
          have hgr : gB < wr.heap.size := (Array.getElem?_eq_some_iff.1 hBr).1
          have hNr : N ≤ wr.heap.size := by omega
          have k1 : (q : Int) < (sl : Int) := by omega
          have k0 : (0 : Int) ≤ (q : Int) := by omega
          have HBR := Lib.hid hBr
          have HFR := Lib.hid hf
          have HBW := Lib.hid hb
          clear hx hcx hcx0' hpl hwb hBr hf hb hxb
          by_cases hc : cd1 = 0
          · subst hc
            have HWX : Hid (Calls Tryz.prog 25 #[.slice (some ⟨b, off, none⟩) ln c, .agg #[.slice q1 m1 d1, .slice q2 m2 d2], .int .i64 (i : Int), .int .i64 x] wr fun e w' => e = .returned (.tuple #[.agg #[.int .i64 P0, .int .i64 P1, .int .i64 P2], .nilIface]) ∧ Below wr.heap.size wr w') := Lib.hid hwh
            clear hwh
            go_upto_region 8 with (first | (go_at_call 25
                                            refine HWX.out.mono ?_
                                            rintro e w5 ⟨rfl, hb5⟩) | fail)
            have hP := heap_alloc_new w5 (.cells #[.int .i64 P0, .int .i64 P1, .int .i64 P2] 67)
            have hb46 : Below wr.heap.size wr (w5.alloc (.cells #[.int .i64 P0, .int .i64 P1, .int .i64 P2] 67)) := hb5.alloc hb5.size _
            generalize w5.alloc (.cells #[.int .i64 P0, .int .i64 P1, .int .i64 P2] 67) = w6 at *
            generalize w5.heap.size = g5 at *
            obtain ⟨d0, d1', d2'⟩ : w6.cell? ⟨g5, 0, none⟩ = some (.int .i64 P0) ∧ w6.cell? ⟨g5, 1, none⟩ = some (.int .i64 P1) ∧ w6.cell? ⟨g5, 2, none⟩ = some (.int .i64 P2) := by
              obtain ⟨⟨d0, d1, d2⟩, _⟩ := three_cells _ _ _ _ _ _ hP
              exact ⟨d0, d1, d2⟩
            have hm6 := HMS.out.below hb46
            have hB6 := (hb46.block gB hgr).trans HBR.out
            have hf6 := HFR.out.trans (FrT.of_below hb46)
            have hb6 := HBW.out.trans (hb46.mono hNr)
            have HM6 := Lib.hid hm6
            have HB6 := Lib.hid hB6
            have HF6 := Lib.hid hf6
            have HBB6 := Lib.hid hb6
            clear y0 y1 y2 y3 hcx0 hb5
            rcases HPL.out.2 with hp0 | ⟨pi, pk, po_, ps_, hpe, hpi, hpk⟩
            · have hp0' : P1 = 0 := hp0
              subst hp0'
              have HMN := Lib.hid ((HNO.out (.inr (by show (0 : Int) < 1; omega))).below hb46)
              clear hm6 hB6 hf6 hb6 hb46 hP
              go_wp2_with fail
              go_roundw
              case rel => exact ⟨q + 1, by go_num, hlt2, HMN.out, HB6.out, HF6.out, HBB6.out⟩
              case measure => simp [intOf]; omega
            · obtain ⟨rfl, rfl⟩ : P0 = (pi : Int) ∧ P1 = (pk : Int) + 1 := by
                simp only [PlaceD.mk.injEq] at hpe
                exact ⟨hpe.1, hpe.2.1⟩
              have hpl : pi < ln := by have := (List.getElem?_eq_some_iff.1 hpi).1; have := HLN.out; omega
              obtain ⟨b0, hv⟩ := hm6.blk hpl hpi
              have r0 := hm6.cell hpi hv
              obtain ⟨t1, t2, t3, pv, u0, u1, u2, u3, _, _, _, hset, _⟩ := hm6.at_ (k := pk) hpl hpi hv hpk (rfl : namedF l D i q pi pk ps_ = ⟨pcsAt D (pi, pk, ps_), fstB l D pi pk ps_, groupB l pi ((pk : Int) + 1), (atTo ObjD.sig l i q).any (hitSig l D pi ((pk : Int) + 1))⟩)
              have t33 := t3 (pk * 4 + 3)
              obtain ⟨hS1, hS2⟩ := hset true
              have hS3 := hS1.congr (g := namedF l D i (q + 1)) (fun i' k' o' s' ho' hs' => HYS.out pi pk P2 ps_ (by trivial) (by first | rfl | trivial) i' k' o' s' ho' hs' (fun e => by
                  obtain ⟨rfl, rfl⟩ := e
                  have h1 := hpi
                  rw [ho'] at h1
                  cases h1
                  rw [hpk] at hs'
                  cases hs'
                  rfl))
              have HS3 := Lib.hid hS3
              have HBX := Lib.hid (hS2.heap hB6 (by decide))
              have HFX := Lib.hid (hf6.trans hS2)
              have HBBX := Lib.hid (hb6.trans (hS2.below (by have := (Array.getElem?_eq_some_iff.1 hB6).1; omega)))
              have hkl := (List.getElem?_eq_some_iff.1 hpk).1
              have hkb := (HOK.out po_ (List.mem_of_getElem? hpi)).few.1
              obtain ⟨ql, hqn⟩ : ∃ ql, ql = po_.secs.length := ⟨_, rfl⟩
              rw [← hqn] at hkl hkb r0
              obtain ⟨y0, y1, y2, y3⟩ : w6.cell? ⟨gB, 0, none⟩ = some (.slice (some ⟨b, off, none⟩) ln c) ∧ w6.cell? ⟨gB, 1, none⟩ = some (.slice q1 m1 d1) ∧ w6.cell? ⟨gB, 2, none⟩ = some (.slice q2 m2 d2) ∧ w6.cell? ⟨gB, 3, none⟩ = some (.slice (some ⟨g0, 0, none⟩) ln ln) := by
                refine ⟨?_, ?_, ?_, ?_⟩
                all_goals exact (cell_of_row w6 gB _ _ _ (0, 0) hB6).trans rfl
              have n1 : (pi : Int) < (ln : Int) := by omega
              have n0 : (0 : Int) ≤ (pi : Int) := by omega
              have n2 : IntKind.i64.wrap ((pk : Int) + 1 - 1) = (pk : Int) := by rw [show (pk : Int) + 1 - 1 = (pk : Int) by omega]; exact IntWalk.i64_in _ (by omega)
              have n3 : (pk : Int) < (ql : Int) := by omega
              have n4 : (0 : Int) ≤ (pk : Int) := by omega
              have n5 : (0 : Int) < (pk : Int) + 1 := by omega
              have n6 : IntKind.i64.wrap (pk : Int) = (pk : Int) := IntWalk.i64_in _ (by omega)
              have n7 : ¬ (ql : Int) ≤ (pk : Int) := by omega
              have n8 : ¬ (pk : Int) < 0 := by omega
              clear hpe hpi hpk hv t3 hset hS1 hS2 hS3 hm6 hB6 hf6 hb6 hb46 hP hqn
              go_upto_region 9 with fail
              go_still_tail 11, (by kernel_rfl)
              go_wp2_with fail
              go_roundw
              case rel => exact ⟨q + 1, by go_num, hlt2, HS3.out.below (Below.refl _ _).drew, HBX.out, HFX.out.trans (FrT.of_below (Below.refl _ _).drew), HBBX.out.drew⟩
              case measure => simp [intOf]; omega
          · have HWX : Hid (Calls Tryz.prog 25 #[.slice (some ⟨b, off, none⟩) ln c, .agg #[.slice q1 m1 d1, .slice q2 m2 d2], .int .i64 (i : Int), .int .i64 x] wr fun e w' => e = .returned (.tuple #[.agg #[.int .i64 P0, .int .i64 P1, .int .i64 P2], .iface 36 (.int .i64 cd1)]) ∧ Below wr.heap.size wr w') := Lib.hid (hwh.mono fun e w' ⟨h1, h2⟩ => ⟨by rw [h1]; unfold errV; rw [if_neg hc], h2⟩)
            clear hwh
            go_upto_region 8 with (first | (go_at_call 25
                                            refine HWX.out.mono ?_
                                            rintro e w5 ⟨rfl, hb5⟩) | fail)
            have hb46 : Below wr.heap.size wr (w5.alloc (.cells #[.int .i64 P0, .int .i64 P1, .int .i64 P2] 67)) := hb5.alloc hb5.size _
            generalize w5.alloc (.cells #[.int .i64 P0, .int .i64 P1, .int .i64 P2] 67) = w6 at *
            generalize w5.heap.size = g5 at *
            have HB6 := Lib.hid ((hb46.block gB hgr).trans HBR.out)
            have HF6 := Lib.hid (HFR.out.trans (FrT.of_below hb46))
            have HBB6 := Lib.hid (HBW.out.trans (hb46.mono hNr))
            have HMN := Lib.hid ((HNO.out (.inl hc)).below hb46)
            clear hb46 hb5 y0 y1 y2 y3 hcx0 hc
            go_wp2_with fail
            go_roundw
            case rel => exact ⟨q + 1, by go_num, hlt2, HMN.out, HB6.out, HF6.out, HBB6.out⟩
            case measure => simp [intOf]; omega
        · obtain rfl : q = sl := by omega
          have HMX := HMS.out
          rw [namedF_next HO.out (by rw [← HSN.out]; exact Nat.le_refl _)] at HMX
          have HMX := Lib.hid HMX
          have HBX := Lib.hid hBr
          have k1 : ¬ (q : Int) < (q : Int) := by omega
          clear hBr
          go_wp2_with fail
          go_roundw
          case rel => exact ⟨i + 1, by go_num, by omega, HMX.out, HBX.out, hf, hb⟩
          case measure => simp [intOf]; omega
    · obtain rfl : i = ln := by omega
      have HMX := hm
      rw [show i = l.length from HLN.out.symm, namedF_end] at HMX
      have HMX : Hid (SMem N wr g0 vs l (knowF l D) i) := Lib.hid (by rw [← HLN.out]; exact HMX)
      have k1 : ¬ (i : Int) < (i : Int) := by omega
      clear hm hBr
      go_wp2_with fail
      exact bodyPost_end (results_none rfl _ _ _) rfl ⟨rfl, HMX.out, hf⟩
end Go.Proofs.YteopgmieindojaaGreat

namespace Go.Proofs.YteopgmieindojaaGreat
open Go.RowKit
theorem Tryz.infoSect : (Tryz.prog.info? 211).map (fun i => (i.zero, i.size, i.bytes)) = some (some (.agg #[.slice none 0 0, .int .i64 0, .int .i64 0, .bool false]), 4, 48) := by kernel_rfl
theorem Tryz.infoSects : (Tryz.prog.info? 208).map (fun i => (i.zero, i.size, i.bytes)) = some (some (.slice none 0 0), 1, 24) := by kernel_rfl
theorem made_sects (n : Nat) : (madeCells #[.slice none 0 0, .int .i64 0, .int .i64 0, .bool false] (n * 4)).toList = (List.replicate n (SctV.mk ⟨[], 0, 0, false⟩ (.slice none 0 0))).flatMap SctV.cells := by
 apply List.ext_getElem?
 intro t
 have hm4 : t % 4 < 4 := Nat.mod_lt _ (by omega)
 by_cases ht : t < n * 4
 ·obtain ⟨q, hq⟩ : ∃ q, (SctV.mk ⟨[], 0, 0, false⟩ (.slice none 0 0)).cells[t % 4]? = some q := ⟨_, List.getElem?_eq_getElem (show t % 4 < 4 from hm4)⟩
  have e1 := flat_get (k := 4) (f := SctV.cells) (fun _ => rfl) (List.replicate n (SctV.mk ⟨[], 0, 0, false⟩ (.slice none 0 0))) (t / 4) _ (t % 4) q (by rw [List.getElem?_replicate, if_pos (by omega)]) hq
  rw [show t / 4 * 4 + t % 4 = t by omega] at e1
  rw [e1]
  simp only [madeCells, Array.toList_map, List.getElem?_map, Array.toList_range, List.getElem?_range ht, Option.map_some]
  have : ∀ m, m < 4 → ∀ q, (SctV.mk ⟨[], 0, 0, false⟩ (.slice none 0 0)).cells[m]? = some q → some ((#[Value.slice none 0 0, .int .i64 0, .int .i64 0, .bool false] : Array Value)[m]!) = some q := fun m hm q hq => by
   match m, hm with
   | 0, _ => cases hq; rfl
   | 1, _ => cases hq; rfl
   | 2, _ => cases hq; rfl
   | 3, _ => cases hq; rfl
  exact this (t % 4) hm4 q hq
 ·rw [List.getElem?_eq_none (by rw [Array.length_toList, size_madeCells]; omega), List.getElem?_eq_none (by rw [flat_len (k := 4) (fun _ => rfl), List.length_replicate]; omega)]
theorem SMem.start {N g0 : Nat} {w : World} {vs : List Value} {l : List ObjD} {f : SctF} (h : w.ownsRow N 208 1 (rowV g0 l.length) l.length vs) : SMem N w g0 vs l f 0 :=
 ⟨h, fun _ _ hi _ => absurd hi (Nat.not_lt_zero _), fun _ _ _ _ _ _ hi => absurd hi (Nat.not_lt_zero _)⟩
theorem SMem.make {N g0 n : Nat} {w : World} {vs : List Value} {l : List ObjD} {o : ObjD} (h : SMem N w g0 vs l zeroF n) (ho : l[n]? = some o) (hq : o.secs.length ≤ maxLen) :
  SMem N ((w.alloc (.cells (madeCells #[.slice none 0 0, .int .i64 0, .int .i64 0, .bool false] (o.secs.length * 4)) 211)).setCell ⟨g0, n, none⟩ (rowV w.heap.size o.secs.length)) g0 (vs.set n (rowV w.heap.size o.secs.length)) l zeroF (n + 1) := by
 have hnl : n < l.length := (List.getElem?_eq_some_iff.1 ho).1
 have hg := h.size
 have hvl : vs.length = l.length := by have := h.tab.1; omega
 have hrow := World.ownsRow_lit (base := N) (e := 211) (size := 4) w (madeCells #[.slice none 0 0, .int .i64 0, .int .i64 0, .bool false] (o.secs.length * 4)) o.secs.length (by omega) hq (size_madeCells _ _)
 rw [made_sects] at hrow
 have hst := (h.tab.alloc (.cells (madeCells #[.slice none 0 0, .int .i64 0, .int .i64 0, .bool false] (o.secs.length * 4)) 211)).stored n (rowV w.heap.size o.secs.length)
 have hrow2 := hrow.kept hst.2 (.inr (by simp only [Value.ownBlock, ne_eq, Option.some.injEq]; omega))
 have hf : FrT N [208] w ((w.alloc (.cells (madeCells #[.slice none 0 0, .int .i64 0, .int .i64 0, .bool false] (o.secs.length * 4)) 211)).setCell ⟨g0, n, none⟩ (rowV w.heap.size o.secs.length)) :=
  (FrT.of_below ((Below.refl _ w).alloc (Nat.le_refl _) _)).trans (FrT.grown (h.tab.alloc _) (show World.grownBy _ _ (some g0) from hst.2) (by simp) (Nat.le_refl _))
 have hold : ∀ i o', i < n → l[i]? = some o' → ∃ (b : Nat) (row : List SctV), vs[i]? = some (rowV b o'.secs.length) ∧ w.ownsRow N 211 4 (rowV b o'.secs.length) o'.secs.length (row.flatMap SctV.cells) ∧ (∀ x ∈ row, x.ok N w) ∧ row.map SctV.x = o'.secs.mapIdx (zeroF i) := h.row
 refine ⟨hst.1, fun i o' hi ho' => ?_, fun i j b c m k hi hj hb hc hij => ?_⟩
 ·by_cases hin : i = n
  ·subst hin
   rw [ho] at ho'
   cases ho'
   refine ⟨w.heap.size, List.replicate o.secs.length (SctV.mk ⟨[], 0, 0, false⟩ (.slice none 0 0)), by rw [List.getElem?_set, if_pos rfl, if_pos (by omega)], hrow2, fun x hx => ?_, ?_⟩
   ·rw [List.eq_of_mem_replicate hx]
    exact ⟨World.ownsRow_nil _ _ _ _, fun p hp => absurd hp (by simp)⟩
   ·apply List.ext_getElem?
    intro t
    rw [List.getElem?_map, List.getElem?_replicate, List.getElem?_mapIdx]
    by_cases ht : t < o.secs.length
    ·rw [if_pos ht, List.getElem?_eq_getElem ht]; rfl
    ·rw [if_neg ht, List.getElem?_eq_none (by omega)]; rfl
  ·obtain ⟨b, row, e1, e2, e3, e4⟩ := hold i o' (by omega) ho'
   exact ⟨b, row, by rw [List.getElem?_set, if_neg (fun e => hin e.symm)]; exact e1, hf.owns e2 (by decide), fun x hx => (e3 x hx).fr hf (by decide), e4⟩
 ·have hlt : ∀ t b m, t < n → vs[t]? = some (rowV b m) → b < w.heap.size := fun t b m ht hv => by
   obtain ⟨b', row, e1, e2, _⟩ := hold t (l[t]'(by omega)) ht (List.getElem?_eq_getElem (by omega))
   rw [hv] at e1
   cases e1
   exact (e2.lt b rfl).2
  rw [List.getElem?_set] at hb hc
  by_cases h1 : n = i
  ·rw [if_pos h1, if_pos (by omega)] at hb
   cases hb
   by_cases h2 : n = j
   ·omega
   ·rw [if_neg h2] at hc
    have := hlt j c k (by omega) hc
    omega
  ·rw [if_neg h1] at hb
   by_cases h2 : n = j
   ·rw [if_pos h2, if_pos (by omega)] at hc
    cases hc
    have := hlt i b m (by omega) hb
    omega
   ·rw [if_neg h2] at hc
    exact h.apart i j b c m k (by omega) (by omega) hb hc hij
theorem two_allocs (w : World) (x y : Obj) : ((w.alloc x).alloc y).drew.heap[w.heap.size]? = some x ∧ ((w.alloc x).alloc y).drew.heap[w.heap.size + 1]? = some y ∧ Below w.heap.size w ((w.alloc x).alloc y).drew := by
 refine ⟨?_, ?_, (((Below.refl _ w).alloc (Nat.le_refl _) _).alloc (by simp) _).drew⟩
 ·exact (Below.heap_alloc (w.alloc x) y w.heap.size (by simp)).trans (heap_alloc_new w x)
 ·have := heap_alloc_new (w.alloc x) y
  rw [show (w.alloc x).heap.size = w.heap.size + 1 by simp] at this
  exact this
theorem set_four {w : World} {g N : Nat} {v0 v1 v2 v3 : Value} {T : TypeId} (u0 u1 u2 u3 : Value) (hN : N ≤ g) (h : w.heap[g]? = some (.cells #[v0, v1, v2, v3] T (0, 0))) :
  ((((w.setCell ⟨g, 0, none⟩ u0).setCell ⟨g, 1, none⟩ u1).setCell ⟨g, 2, none⟩ u2).setCell ⟨g, 3, none⟩ u3).heap[g]? = some (.cells #[u0, u1, u2, u3] T (0, 0)) ∧ FrT N [T] w ((((w.setCell ⟨g, 0, none⟩ u0).setCell ⟨g, 1, none⟩ u1).setCell ⟨g, 2, none⟩ u2).setCell ⟨g, 3, none⟩ u3) := by
 have h0 := heap_setCell_same w g 0 _ _ u0 h
 have h1 := heap_setCell_same _ g 1 _ _ u1 h0
 have h2 := heap_setCell_same _ g 2 _ _ u2 h1
 have h3 := heap_setCell_same _ g 3 _ _ u3 h2
 exact ⟨h3, (((FrT.set h (by simp) hN _).trans (FrT.set h0 (by simp) hN _)).trans (FrT.set h1 (by simp) hN _)).trans (FrT.set h2 (by simp) hN _)⟩
theorem results_bld {fn : Func} {p : Tmp} (h : fn.results = #[.cell p 154]) (tmps : Array Value) (w : World) (g : Nat) (v0 v1 v2 v3 : Value) (hp : tmps.getD p undef = .pointer (some ⟨g, 0, none⟩))
  (hg : w.heap[g]? = some (.cells #[v0, v1, v2, v3] 154 (0, 0))) : (results fn tmps).run Tryz.prog w = .ok (.agg #[v0, v1, v2, v3]) w := by
 obtain ⟨r0, r1, r2, r3⟩ := cells4q _ _ _ _ _ _ _ hg
 have hp2 : tmps[p]?.getD undef = .pointer (some ⟨g, 0, none⟩) := by simpa using hp
 simp [results, h, hp2, go_sem, r0, r1, r2, r3]
def GivesK (p q1 q2 : Option Addr) (c m1 d1 m2 d2 : Nat) (l : List ObjD) (D : List (List Bool)) (w : World) (e : Ending) (w' : World) : Prop :=
 ∃ g0, e = .returned (.agg #[.slice p l.length c, .slice q1 m1 d1, .slice q2 m2 d2, rowV g0 l.length]) ∧ HasL 1 EScts w' (some ⟨g0, 0, none⟩) (knowS l D) ∧ Below w.heap.size w w'
set_option maxRecDepth 100000 in
set_option maxHeartbeats 8000000 in
theorem gNew_any (p pd pf : Option Addr) (c cd nf cf : Nat) (l : List ObjD) (D : List (List Bool)) (w : World) (h : HasL 5 EObj w p l) (hok : ∀ o ∈ l, OkD o) (hsg : SecsG l) (hlc : l.length ≤ 1000) (hD : DropOK w pd l D)
    (hW : ∀ W, Below w.heap.size w W → ∀ (o : Nat) (s : Int), i64bd s → o ≤ 1000000 → Calls Tryz.prog 25 #[.slice p l.length c, .agg #[.slice pd D.length cd, .slice pf nf cf], .int .i64 (o : Int), .int .i64 s] W (GivesNPl (whereB l D o s) W)) :
    Calls Tryz.prog 68 #[.slice p l.length c, .agg #[.slice pd D.length cd, .slice pf nf cf]] w (GivesK p pd pf c D.length cd nf cf l D w) := by
  obtain ⟨i0, gi, gz0, gz1, gz2⟩ := info_parts Tryz.infoSect
  obtain ⟨i1, ki, kz0, kz1, kz2⟩ := info_parts Tryz.infoSects
  have GI := Lib.hid gi
  have G0 := Lib.hid gz0
  have G1 := Lib.hid gz1
  have G2 := Lib.hid gz2
  have KI := Lib.hid ki
  have K0 := Lib.hid kz0
  have K1 := Lib.hid kz1
  have K2 := Lib.hid kz2
  have HSPLIT := Lib.hid fun g0 vs W hb hm => gSplit_any p pd pf c cd nf cf g0 l D vs w W h hok hsg hlc hD hb hm
  have HNUM := Lib.hid fun g0 vs W hb hm => gNumber_any p pd pf c D.length cd nf cf g0 l D vs w W h hok hlc hb hm
  have HMARK := Lib.hid fun g0 vs W hb hm => gMark_any p pd pf c D.length cd nf cf g0 l D vs w W h hok hlc hb hm hW
  have HH := Lib.hid h
  have HOK := Lib.hid hok
  generalize hln : l.length = ln at *
  have HLN := Lib.hid hln
  generalize hdn : D.length = dn at *
  have hw0 : Below w.heap.size w ((w.alloc (.cells #[.slice pd dn cd, .slice pf nf cf] 49)).alloc (.cells #[.slice none 0 0, .slice none 0 0, .slice none 0 0, .slice none 0 0] 154)) := ((Below.refl _ w).alloc (Nat.le_refl _) _).alloc (by simp) _
  have hT : ((w.alloc (.cells #[.slice pd dn cd, .slice pf nf cf] 49)).alloc (.cells #[.slice none 0 0, .slice none 0 0, .slice none 0 0, .slice none 0 0] 154)).heap[w.heap.size]? = some (.cells #[.slice pd dn cd, .slice pf nf cf] 49 (0, 0)) := by
    rw [Below.heap_alloc _ _ _ (by simp)]; exact heap_alloc_new w _
  have hZ : ((w.alloc (.cells #[.slice pd dn cd, .slice pf nf cf] 49)).alloc (.cells #[.slice none 0 0, .slice none 0 0, .slice none 0 0, .slice none 0 0] 154)).heap[w.heap.size + 1]? = some (.cells #[.slice none 0 0, .slice none 0 0, .slice none 0 0, .slice none 0 0] 154 (0, 0)) := by
    have := heap_alloc_new (w.alloc (.cells #[.slice pd dn cd, .slice pf nf cf] 49)) (.cells #[.slice none 0 0, .slice none 0 0, .slice none 0 0, .slice none 0 0] 154)
    simpa using this
  have hb8 : (i1.bytes : Int) * (ln : Int) ≤ 281474976710656 := by rw [kz2]; omega
  have hmk : ∀ W : World, (Instr.makeSlice 152 (.int .i64 (ln : Int)) (.int .i64 (ln : Int))).run Tryz.prog W = .ok (.slice (some ⟨W.heap.size, 0, none⟩) ln ln) (W.alloc (.cells (madeCells #[.slice none 0 0] (ln * 1)) 208)) := fun W => by
    have := run_make (P := Tryz.prog) W 152 208 i1 (.slice none 0 0) Tryz.underlying152 ki kz0 .i64 .i64 (ln : Int) (ln : Int) (by omega) (by omega) hb8 (by omega)
    rw [kz1] at this
    exact this
  clear gi gz0 gz1 gz2 ki kz0 kz1 kz2 h hok hsg hD hW hln hdn hb8
  generalize hgb : w.heap.size = gb at *
  have HGB := Lib.hid hgb
  have HMK := Lib.hid hmk
  have hms := size_madeCells #[Value.slice none 0 0] (ln * 1)
  generalize hmc : madeCells #[.slice none 0 0] (ln * 1) = MC at *
  have HMC := Lib.hid hmc
  have HMS := Lib.hid hms
  have HW0 := Lib.hid hw0
  have HT := Lib.hid hT
  have HZ := Lib.hid hZ
  clear hgb hmc hms hw0 hT hZ
  go_enter Tryz.func68, Tryz.ntmps68
  go_upto_region 1 with fail
  generalize (w.alloc (.cells #[.slice pd dn cd, .slice pf nf cf] 49)).alloc (.cells #[.slice none 0 0, .slice none 0 0, .slice none 0 0, .slice none 0 0] 154) = w1 at *
  rw [HGB.out]
  obtain ⟨⟨a0, a1⟩, _⟩ := pair_cells _ _ _ _ _ HT.out
  have hgs : gb + 1 < w1.heap.size := (Array.getElem?_eq_some_iff.1 HZ.out).1
  go_cut [5] (fun s5 wx => ∃ g0 g5, s5 = .pointer (some ⟨g5, 0, none⟩) ∧ wx.heap[g5]? = some (.cells #[.slice p ln c, .slice pd dn cd, .slice pf nf cf, .slice (some ⟨g0, 0, none⟩) ln ln] 154 (0, 0)) ∧ wx.heap[g0]? = some (.cells MC 208 (0, 0)) ∧ gb + 1 < g0 ∧ gb + 1 < g5 ∧ Below w1.heap.size w1 wx)
  case first =>
    go_region_held (fun W => W.cell? ⟨gb, 0, none⟩ = some (.slice pd dn cd) ∧ W.cell? ⟨gb, 1, none⟩ = some (.slice pf nf cf)) (first | exact ⟨a0, a1⟩ | go_keep | fail) (fail)
    all_goals go_wp2_with fail
    all_goals go_meet
    all_goals first
      | exact ⟨_, _, rfl, (two_allocs w1 _ _).2.1, (two_allocs w1 _ _).1, by omega, by omega, (two_allocs w1 _ _).2.2⟩
      | exact ⟨_, _, rfl, (two_allocs w1 _ _).1, (two_allocs w1 _ _).2.1, by omega, by omega, (two_allocs w1 _ _).2.2⟩
  case rest =>
    obtain ⟨g0, g5, rfl, hg5, hg0, hlt0, hlt5, hbc⟩ := hcut
    have hsm : SMem gb wc g0 MC.toList l zeroF 0 := SMem.start (by
      rw [HLN.out]
      exact ⟨by rw [Array.length_toList]; exact HMS.out, .inr ⟨g0, ln, MC, rfl, by omega, hg0, Nat.le_refl _, by unfold maxLen; omega, HMS.out, List.take_of_length_le (by rw [Array.length_toList, HMS.out]; exact Nat.le_refl _)⟩⟩)
    have HB := Lib.hid (HW0.out.trans (hbc.mono (by omega)))
    have HSM := Lib.hid hsm
    have hgs2 : gb + 1 < wc.heap.size := by have := hbc.size; omega
    have HZC := Lib.hid ((hbc.block (gb + 1) hgs).trans HZ.out)
    clear hsm hg0 hbc a0 a1 HMK
    go_wp2_with fail
    go_loopw [15, 6] (fun r15 _ wr => ∃ (i : Nat) (vs : List Value), r15 = .int .i64 (i : Int) ∧ i ≤ ln ∧ SMem gb wr g0 vs l zeroF i ∧ wr.heap[g5]? = some (.cells #[.slice p ln c, .slice pd dn cd, .slice pf nf cf, .slice (some ⟨g0, 0, none⟩) ln ln] 154 (0, 0)) ∧ wr.heap[gb + 1]? = some (.cells #[.slice none 0 0, .slice none 0 0, .slice none 0 0, .slice none 0 0] 154 (0, 0)) ∧ Below gb w wr) (fun r15 _ _ => ln - (intOf r15).toNat)
    case atStart => exact ⟨0, _, rfl, Nat.zero_le _, HSM.out, hg5, HZC.out, HB.out⟩
    case round =>
      obtain ⟨i, vs, rfl, hi, hm, hB5, hZ5, hb⟩ := hrel
      clear hg5
      by_cases hlt : i < ln
      · obtain ⟨o, ho⟩ : ∃ o, l[i]? = some o := ⟨_, List.getElem?_eq_getElem (by rw [HLN.out]; exact hlt)⟩
        have HO := Lib.hid ho
        have hoo := HOK.out o (List.mem_of_getElem? ho)
        have hql := hoo.few.1
        obtain ⟨b, off, p0, p1, p2, p4, c0, c1, c2, c4, hpe, e0', _⟩ := objs_at HH.out ho
        subst hpe
        have e0 := cell_later (by rw [HGB.out]; exact hb) e0'
        have hmm := hm.make ho (by unfold maxLen; omega)
        obtain ⟨ql, hqn⟩ : ∃ ql, ql = o.secs.length := ⟨_, rfl⟩
        rw [← hqn] at hql e0 e0' hmm
        obtain ⟨i0, gi, gz0, gz1, gz2⟩ := info_parts Tryz.infoSect
        have hb8 : (i0.bytes : Int) * (ql : Int) ≤ 281474976710656 := by rw [gz2]; omega
        have hmk : ∀ W : World, (Instr.makeSlice 208 (.int .i64 (ql : Int)) (.int .i64 (ql : Int))).run Tryz.prog W = .ok (.slice (some ⟨W.heap.size, 0, none⟩) ql ql) (W.alloc (.cells (madeCells #[.slice none 0 0, .int .i64 0, .int .i64 0, .bool false] (ql * 4)) 211)) := fun W => by
          have := run_make (P := Tryz.prog) W 208 211 i0 _ Tryz.underlying208 gi gz0 .i64 .i64 (ql : Int) (ql : Int) (by omega) (by omega) hb8 (by omega)
          rw [gz1] at this
          exact this
        generalize madeCells #[.slice none 0 0, .int .i64 0, .int .i64 0, .bool false] (ql * 4) = MC2 at *
        have hvl := hm.tab.1
        obtain ⟨vo, hvo⟩ : ∃ vo, vs[i]? = some vo := ⟨_, List.getElem?_eq_getElem (by rw [HLN.out] at hvl; omega)⟩
        have r0 : wr.cell? ⟨g0, i, none⟩ = some vo := (hm.tab.cellAt i (by rw [HLN.out]; omega)).trans hvo
        have f0 := hm.tab.frozenAt i
        have y3 : wr.cell? ⟨g5, 3, none⟩ = some (.slice (some ⟨g0, 0, none⟩) ln ln) := (cell_of_row wr g5 3 _ _ (0, 0) hB5).trans rfl
        have hal : Below wr.heap.size wr (wr.alloc (.cells MC2 211)) := (Below.refl _ wr).alloc (Nat.le_refl _) _
        have hne5 : g5 ≠ g0 := fun e => by
          rcases hm.tab.2 with ⟨e1, _⟩ | ⟨g1, cap, cur, e1, _, e2, _⟩
          · cases e1
          · cases e1
            rw [← e, hB5] at e2
            simp only [Option.some.injEq, Obj.cells.injEq] at e2
            exact absurd e2.2.1 (by decide)
        have hne1 : gb + 1 ≠ g0 := by omega
        have HMM := Lib.hid hmm
        have HBX : Hid (((wr.alloc (.cells MC2 211)).setCell ⟨g0, i, none⟩ (rowV wr.heap.size ql)).heap[g5]? = _) := Lib.hid ((heap_setCell_other _ ⟨g0, i, none⟩ g5 _ hne5).trans ((hal.block g5 (Array.getElem?_eq_some_iff.1 hB5).1).trans hB5))
        have HZX : Hid (((wr.alloc (.cells MC2 211)).setCell ⟨g0, i, none⟩ (rowV wr.heap.size ql)).heap[gb + 1]? = _) := Lib.hid ((heap_setCell_other _ ⟨g0, i, none⟩ (gb + 1) _ hne1).trans ((hal.block (gb + 1) (Array.getElem?_eq_some_iff.1 hZ5).1).trans hZ5))
        have HBBX : Hid (Below gb w ((wr.alloc (.cells MC2 211)).setCell ⟨g0, i, none⟩ (rowV wr.heap.size ql))) := Lib.hid ((hb.trans (hal.mono (by have := (Array.getElem?_eq_some_iff.1 hZ5).1; omega))).setCell (by simp only; omega) _)
        have j1 : (i : Int) < (ln : Int) := by omega
        have j0 : (0 : Int) ≤ (i : Int) := by omega
        have f0a : (wr.alloc (.cells MC2 211)).frozen? ⟨g0, i, none⟩ = false := (hm.tab.alloc (.cells MC2 211)).frozenAt i
        have r0a : (wr.alloc (.cells MC2 211)).cell? ⟨g0, i, none⟩ = some vo := cell_later hal r0
        have y3s : ((wr.alloc (.cells MC2 211)).setCell ⟨g0, i, none⟩ (rowV wr.heap.size ql)).drew.cell? ⟨g5, 3, none⟩ = some (.slice (some ⟨g0, 0, none⟩) ln ln) := (cell_of_row _ g5 3 _ _ (0, 0) HBX.out).trans rfl
        have e0s : ((wr.alloc (.cells MC2 211)).setCell ⟨g0, i, none⟩ (rowV wr.heap.size ql)).drew.cell? ⟨b, off + i * 5, none⟩ = some (.slice p0 ql c0) := cell_later (by rw [HGB.out]; exact HBBX.out.drew) e0'
        have Y3S := Lib.hid y3s
        have E0S := Lib.hid e0s
        clear ho hoo hqn e0' gi gz0 gz1 gz2 hb8 hvl hvo hmm hm hB5 hZ5 hb hne5 hne1 hal y3s e0s
        go_upto_region 5 with fail
        go_region_held (fun W => W.cell? ⟨g5, 3, none⟩ = some (.slice (some ⟨g0, 0, none⟩) ln ln) ∧ W.cell? ⟨b, off + i * 5, none⟩ = some (.slice p0 ql c0) ) (first | exact ⟨y3, e0⟩ | exact ⟨Y3S.out, E0S.out⟩ | go_keep | fail) (fail)
        all_goals go_wp2_with fail
        all_goals go_roundw
        case rel => exact ⟨i + 1, _, by go_num, hlt, HMM.out.below (Below.refl _ _).drew, HBX.out, HZX.out, HBBX.out.drew⟩
        case measure => simp [intOf]; omega
      · obtain rfl : i = ln := by omega
        have j1 : ¬ (i : Int) < (i : Int) := by omega
        have y : wr.cell? ⟨g5, 0, none⟩ = some (.slice p i c) ∧ wr.cell? ⟨g5, 1, none⟩ = some (.slice pd dn cd) ∧ wr.cell? ⟨g5, 2, none⟩ = some (.slice pf nf cf) ∧ wr.cell? ⟨g5, 3, none⟩ = some (.slice (some ⟨g0, 0, none⟩) i i) := by
          refine ⟨?_, ?_, ?_, ?_⟩
          all_goals exact (cell_of_row wr g5 _ _ _ (0, 0) hB5).trans rfl
        obtain ⟨y0, y1, y2, y3⟩ := y
        have hsp := HSPLIT.out g0 vs wr hb hm
        have HSP := Lib.hid hsp
        have HB5 := Lib.hid hB5
        have HZ5 := Lib.hid hZ5
        have HBB := Lib.hid hb
        clear hsp hB5 hZ5 hb hm
        go_upto_region 8 with (first | (go_at_call 112
                                        refine HSP.out.mono ?_
                                        rintro e w6 ⟨rfl, hm6, hf6⟩) | fail)
        have hB6 := hf6.heap HB5.out (by decide)
        have hb6 := HBB.out.trans (hf6.below (by have := (Array.getElem?_eq_some_iff.1 HZ5.out).1; omega))
        have HZ6 := Lib.hid (hf6.heap HZ5.out (by decide))
        have hm6' := hm6.congr (g := groupsF l D 0 0 []) (by rw [← HLN.out]; exact groupsF_start)
        have y : w6.cell? ⟨g5, 0, none⟩ = some (.slice p i c) ∧ w6.cell? ⟨g5, 1, none⟩ = some (.slice pd dn cd) ∧ w6.cell? ⟨g5, 2, none⟩ = some (.slice pf nf cf) ∧ w6.cell? ⟨g5, 3, none⟩ = some (.slice (some ⟨g0, 0, none⟩) i i) := by
          refine ⟨?_, ?_, ?_, ?_⟩
          all_goals exact (cell_of_row w6 g5 _ _ _ (0, 0) hB6).trans rfl
        clear y0 y1 y2 y3
        obtain ⟨y0, y1, y2, y3⟩ := y
        have HNU := Lib.hid (HNUM.out g0 vs w6 hb6 hm6')
        have HB6 := Lib.hid hB6
        have HBB6 := Lib.hid hb6
        clear hm6 hf6 hB6 hb6 hm6'
        go_upto_region 9 with (first | (go_at_call 113
                                        refine HNU.out.mono ?_
                                        rintro e w7 ⟨rfl, hm7, hf7⟩) | fail)
        have hB7 := hf7.heap HB6.out (by decide)
        have hb7 := HBB6.out.trans (hf7.below (by have := (Array.getElem?_eq_some_iff.1 HZ6.out).1; omega))
        have HZ7 := Lib.hid (hf7.heap HZ6.out (by decide))
        have hm7' := hm7.congr (g := namedF l D 0 0) (by rw [← HLN.out]; exact groupsF_end)
        have y : w7.cell? ⟨g5, 0, none⟩ = some (.slice p i c) ∧ w7.cell? ⟨g5, 1, none⟩ = some (.slice pd dn cd) ∧ w7.cell? ⟨g5, 2, none⟩ = some (.slice pf nf cf) ∧ w7.cell? ⟨g5, 3, none⟩ = some (.slice (some ⟨g0, 0, none⟩) i i) := by
          refine ⟨?_, ?_, ?_, ?_⟩
          all_goals exact (cell_of_row w7 g5 _ _ _ (0, 0) hB7).trans rfl
        clear y0 y1 y2 y3
        obtain ⟨y0, y1, y2, y3⟩ := y
        have HMK := Lib.hid (HMARK.out g0 vs w7 hb7 hm7')
        have HB7 := Lib.hid hB7
        have HBB7 := Lib.hid hb7
        clear hm7 hf7 hB7 hb7 hm7'
        go_wp2_with fail
        refine HMK.out.mono ?_
        rintro e w8 ⟨rfl, hm8, hf8⟩
        have hB8 := hf8.heap HB7.out (by decide)
        have hb8 := HBB7.out.trans (hf8.below (by have := (Array.getElem?_eq_some_iff.1 HZ7.out).1; omega))
        have hZ8 := hf8.heap HZ7.out (by decide)
        have y : w8.cell? ⟨g5, 0, none⟩ = some (.slice p i c) ∧ w8.cell? ⟨g5, 1, none⟩ = some (.slice pd dn cd) ∧ w8.cell? ⟨g5, 2, none⟩ = some (.slice pf nf cf) ∧ w8.cell? ⟨g5, 3, none⟩ = some (.slice (some ⟨g0, 0, none⟩) i i) := by
          refine ⟨?_, ?_, ?_, ?_⟩
          all_goals exact (cell_of_row w8 g5 _ _ _ (0, 0) hB8).trans rfl
        clear y0 y1 y2 y3
        obtain ⟨y0, y1, y2, y3⟩ := y
        have hset := set_four (.slice p i c) (.slice pd dn cd) (.slice pf nf cf) (.slice (some ⟨g0, 0, none⟩) i i) (show gb ≤ gb + 1 by omega) hZ8
        have hm9 := hm8.fr hset.2 (by decide) (by decide) (by decide)
        have HROWS : Hid (HasL 1 EScts ((((w8.setCell ⟨gb + 1, 0, none⟩ (.slice p i c)).setCell ⟨gb + 1, 1, none⟩ (.slice pd dn cd)).setCell ⟨gb + 1, 2, none⟩ (.slice pf nf cf)).setCell ⟨gb + 1, 3, none⟩ (.slice (some ⟨g0, 0, none⟩) i i)) (some ⟨g0, 0, none⟩) (knowS l D)) := Lib.hid (by
          rw [show i = l.length from HLN.out.symm] at hm9 ⊢
          exact hm9.rows)
        have HB9 := Lib.hid (hb8.trans (hset.2.below (by have := (Array.getElem?_eq_some_iff.1 hZ8).1; omega)))
        have HC9 : Hid (((((w8.setCell ⟨gb + 1, 0, none⟩ (.slice p i c)).setCell ⟨gb + 1, 1, none⟩ (.slice pd dn cd)).setCell ⟨gb + 1, 2, none⟩ (.slice pf nf cf)).setCell ⟨gb + 1, 3, none⟩ (.slice (some ⟨g0, 0, none⟩) i i)).heap[gb + 1]? = _) := Lib.hid hset.1
        obtain ⟨z0, z1, z2, z3⟩ := cells4q _ _ _ _ _ _ _ hZ8
        have f0 := frozen_of_row w8 (gb + 1) 0 _ _ hZ8
        have f1 := frozen_of_row w8 (gb + 1) 1 _ _ hZ8
        have f2 := frozen_of_row w8 (gb + 1) 2 _ _ hZ8
        have f3 := frozen_of_row w8 (gb + 1) 3 _ _ hZ8
        clear hset hm9 hm8 hf8 hB8 hb8 hZ8
        go_wp2_with fail
        exact bodyPost_ret (results_bld rfl _ _ _ _ _ _ _ (by rfl) HC9.out) rfl ⟨g0, by rw [HLN.out], HROWS.out, by rw [HGB.out]; exact HB9.out⟩
end Go.Proofs.YteopgmieindojaaGreat

namespace Go.Proofs.YteopgmieindojaaGreat
open Go.RowKit
end Go.Proofs.YteopgmieindojaaGreat

namespace Go.Proofs.YteopgmieindojaaGreat
open Go.RowKit
abbrev nodeZ : List Value := [.int .i64 0, .int .i64 0, .int .i64 0, .string ⟨#[]⟩, .int .i64 0, .int .i64 0, .int .i64 0, .int .i64 0, .int .i64 0, .slice none 0 0, .slice none 0 0, .bool false, .int .i64 0, .int .i64 0]
def GivesNd (x : NodeD) (n : Int) (w : World) (e : Ending) (w' : World) : Prop := ∃ (cs : List Value), e = .returned (.tuple #[.agg cs.toArray, errV n]) ∧ (n ≠ 0 ∧ cs = nodeZ ∨ n = 0 ∧ ∃ nv : NodeV, cs = nv.cells ∧ nv.x = x ∧ nv.ok w.heap.size w') ∧ Below w.heap.size w w'
theorem three_allocs (w : World) (x y z : Obj) : (((w.alloc x).alloc y).alloc z).heap[w.heap.size]? = some x ∧ (((w.alloc x).alloc y).alloc z).heap[w.heap.size + 1]? = some y ∧ (((w.alloc x).alloc y).alloc z).heap[w.heap.size + 1 + 1]? = some z ∧ Below w.heap.size w (((w.alloc x).alloc y).alloc z) := by
 have s1 : (w.alloc x).heap.size = w.heap.size + 1 := by simp
 have s2 : ((w.alloc x).alloc y).heap.size = w.heap.size + 1 + 1 := by simp
 refine ⟨?_, ?_, ?_, (((Below.refl _ w).alloc (Nat.le_refl _) _).alloc (by simp) _).alloc (by simp; omega) _⟩
 ·rw [Below.heap_alloc _ _ _ (by omega), Below.heap_alloc _ _ _ (by omega)]; exact heap_alloc_new w _
 ·rw [Below.heap_alloc _ _ _ (by omega)]
  have := heap_alloc_new (w.alloc x) y
  rwa [s1] at this
 ·have := heap_alloc_new ((w.alloc x).alloc y) z
  rwa [s2] at this
theorem Tryz.sizeNode : (Tryz.prog.info? 86).map (·.size) = some 14 := by kernel_rfl
theorem fourteen_all (a0 a1 a2 a4 a5 a6 a7 a8 a12 a13 : Int) (a3 : ByteArray) (p9 p10 : Option Addr) (n9 c9 n10 c10 : Nat) (a11 : Bool) : (#[Value.int .i64 a0, .int .i64 a1, .int .i64 a2, .string a3, .int .i64 a4, .int .i64 a5, .int .i64 a6, .int .i64 a7, .int .i64 a8, .slice p9 n9 c9, .slice p10 n10 c10, .bool a11, .int .i64 a12, .int .i64 a13] : Array Value).all (·.oneCell') = true := by
 simp [Value.oneCell']
theorem set_whole {w : World} {g N : Nat} {cs0 : Array Value} {T : TypeId} (cs : Array Value) (hN : N ≤ g) (h : w.heap[g]? = some (.cells cs0 T (0, 0))) : (w.setRow g cs).heap[g]? = some (.cells cs T (0, 0)) ∧ FrT N [T] w (w.setRow g cs) := by
 refine ⟨setRow_heap w g cs0 cs T (0, 0) h, rfl, rfl, rfl, by simp, fun k o hk ht => ?_⟩
 by_cases e : k = g
 ·subst e
  rw [h] at hk
  cases hk
  rcases ht with ht | ht
  ·omega
  ·exact absurd rfl (ht T (by simp))
 ·exact (setRow_other w g k cs e).trans hk
theorem set_fourteen {w : World} {g N : Nat} {v0 v1 v2 v3 v4 v5 v6 v7 v8 v9 v10 v11 v12 v13 : Value} {T : TypeId} (u0 u1 u2 u3 u4 u5 u6 u7 u8 u9 u10 u11 u12 u13 : Value) (hN : N ≤ g) (h : w.heap[g]? = some (.cells #[v0, v1, v2, v3, v4, v5, v6, v7, v8, v9, v10, v11, v12, v13] T (0, 0))) :
  ((((((((((((((w.setCell ⟨g, 0, none⟩ u0).setCell ⟨g, 1, none⟩ u1).setCell ⟨g, 2, none⟩ u2).setCell ⟨g, 3, none⟩ u3).setCell ⟨g, 4, none⟩ u4).setCell ⟨g, 5, none⟩ u5).setCell ⟨g, 6, none⟩ u6).setCell ⟨g, 7, none⟩ u7).setCell ⟨g, 8, none⟩ u8).setCell ⟨g, 9, none⟩ u9).setCell ⟨g, 10, none⟩ u10).setCell ⟨g, 11, none⟩ u11).setCell ⟨g, 12, none⟩ u12).setCell ⟨g, 13, none⟩ u13).heap[g]? = some (.cells #[u0, u1, u2, u3, u4, u5, u6, u7, u8, u9, u10, u11, u12, u13] T (0, 0)) ∧ FrT N [T] w ((((((((((((((w.setCell ⟨g, 0, none⟩ u0).setCell ⟨g, 1, none⟩ u1).setCell ⟨g, 2, none⟩ u2).setCell ⟨g, 3, none⟩ u3).setCell ⟨g, 4, none⟩ u4).setCell ⟨g, 5, none⟩ u5).setCell ⟨g, 6, none⟩ u6).setCell ⟨g, 7, none⟩ u7).setCell ⟨g, 8, none⟩ u8).setCell ⟨g, 9, none⟩ u9).setCell ⟨g, 10, none⟩ u10).setCell ⟨g, 11, none⟩ u11).setCell ⟨g, 12, none⟩ u12).setCell ⟨g, 13, none⟩ u13) := by
 obtain ⟨w0, e0⟩ : ∃ w0, w0 = w.setCell ⟨g, 0, none⟩ u0 := ⟨_, rfl⟩
 have h0 : w0.heap[g]? = some (.cells #[u0, v1, v2, v3, v4, v5, v6, v7, v8, v9, v10, v11, v12, v13] T (0, 0)) := by rw [e0]; exact heap_setCell_same w g 0 _ _ u0 h
 have f0 : FrT N [T] w w0 := by rw [e0]; exact FrT.set h (by simp) hN _
 obtain ⟨w1, e1⟩ : ∃ w1, w1 = w0.setCell ⟨g, 1, none⟩ u1 := ⟨_, rfl⟩
 have h1 : w1.heap[g]? = some (.cells #[u0, u1, v2, v3, v4, v5, v6, v7, v8, v9, v10, v11, v12, v13] T (0, 0)) := by rw [e1]; exact heap_setCell_same w0 g 1 _ _ u1 h0
 have f1 : FrT N [T] w w1 := by rw [e1]; exact f0.trans (FrT.set h0 (by simp) hN _)
 obtain ⟨w2, e2⟩ : ∃ w2, w2 = w1.setCell ⟨g, 2, none⟩ u2 := ⟨_, rfl⟩
 have h2 : w2.heap[g]? = some (.cells #[u0, u1, u2, v3, v4, v5, v6, v7, v8, v9, v10, v11, v12, v13] T (0, 0)) := by rw [e2]; exact heap_setCell_same w1 g 2 _ _ u2 h1
 have f2 : FrT N [T] w w2 := by rw [e2]; exact f1.trans (FrT.set h1 (by simp) hN _)
 obtain ⟨w3, e3⟩ : ∃ w3, w3 = w2.setCell ⟨g, 3, none⟩ u3 := ⟨_, rfl⟩
 have h3 : w3.heap[g]? = some (.cells #[u0, u1, u2, u3, v4, v5, v6, v7, v8, v9, v10, v11, v12, v13] T (0, 0)) := by rw [e3]; exact heap_setCell_same w2 g 3 _ _ u3 h2
 have f3 : FrT N [T] w w3 := by rw [e3]; exact f2.trans (FrT.set h2 (by simp) hN _)
 obtain ⟨w4, e4⟩ : ∃ w4, w4 = w3.setCell ⟨g, 4, none⟩ u4 := ⟨_, rfl⟩
 have h4 : w4.heap[g]? = some (.cells #[u0, u1, u2, u3, u4, v5, v6, v7, v8, v9, v10, v11, v12, v13] T (0, 0)) := by rw [e4]; exact heap_setCell_same w3 g 4 _ _ u4 h3
 have f4 : FrT N [T] w w4 := by rw [e4]; exact f3.trans (FrT.set h3 (by simp) hN _)
 obtain ⟨w5, e5⟩ : ∃ w5, w5 = w4.setCell ⟨g, 5, none⟩ u5 := ⟨_, rfl⟩
 have h5 : w5.heap[g]? = some (.cells #[u0, u1, u2, u3, u4, u5, v6, v7, v8, v9, v10, v11, v12, v13] T (0, 0)) := by rw [e5]; exact heap_setCell_same w4 g 5 _ _ u5 h4
 have f5 : FrT N [T] w w5 := by rw [e5]; exact f4.trans (FrT.set h4 (by simp) hN _)
 obtain ⟨w6, e6⟩ : ∃ w6, w6 = w5.setCell ⟨g, 6, none⟩ u6 := ⟨_, rfl⟩
 have h6 : w6.heap[g]? = some (.cells #[u0, u1, u2, u3, u4, u5, u6, v7, v8, v9, v10, v11, v12, v13] T (0, 0)) := by rw [e6]; exact heap_setCell_same w5 g 6 _ _ u6 h5
 have f6 : FrT N [T] w w6 := by rw [e6]; exact f5.trans (FrT.set h5 (by simp) hN _)
 obtain ⟨w7, e7⟩ : ∃ w7, w7 = w6.setCell ⟨g, 7, none⟩ u7 := ⟨_, rfl⟩
 have h7 : w7.heap[g]? = some (.cells #[u0, u1, u2, u3, u4, u5, u6, u7, v8, v9, v10, v11, v12, v13] T (0, 0)) := by rw [e7]; exact heap_setCell_same w6 g 7 _ _ u7 h6
 have f7 : FrT N [T] w w7 := by rw [e7]; exact f6.trans (FrT.set h6 (by simp) hN _)
 obtain ⟨w8, e8⟩ : ∃ w8, w8 = w7.setCell ⟨g, 8, none⟩ u8 := ⟨_, rfl⟩
 have h8 : w8.heap[g]? = some (.cells #[u0, u1, u2, u3, u4, u5, u6, u7, u8, v9, v10, v11, v12, v13] T (0, 0)) := by rw [e8]; exact heap_setCell_same w7 g 8 _ _ u8 h7
 have f8 : FrT N [T] w w8 := by rw [e8]; exact f7.trans (FrT.set h7 (by simp) hN _)
 obtain ⟨w9, e9⟩ : ∃ w9, w9 = w8.setCell ⟨g, 9, none⟩ u9 := ⟨_, rfl⟩
 have h9 : w9.heap[g]? = some (.cells #[u0, u1, u2, u3, u4, u5, u6, u7, u8, u9, v10, v11, v12, v13] T (0, 0)) := by rw [e9]; exact heap_setCell_same w8 g 9 _ _ u9 h8
 have f9 : FrT N [T] w w9 := by rw [e9]; exact f8.trans (FrT.set h8 (by simp) hN _)
 obtain ⟨w10, e10⟩ : ∃ w10, w10 = w9.setCell ⟨g, 10, none⟩ u10 := ⟨_, rfl⟩
 have h10 : w10.heap[g]? = some (.cells #[u0, u1, u2, u3, u4, u5, u6, u7, u8, u9, u10, v11, v12, v13] T (0, 0)) := by rw [e10]; exact heap_setCell_same w9 g 10 _ _ u10 h9
 have f10 : FrT N [T] w w10 := by rw [e10]; exact f9.trans (FrT.set h9 (by simp) hN _)
 obtain ⟨w11, e11⟩ : ∃ w11, w11 = w10.setCell ⟨g, 11, none⟩ u11 := ⟨_, rfl⟩
 have h11 : w11.heap[g]? = some (.cells #[u0, u1, u2, u3, u4, u5, u6, u7, u8, u9, u10, u11, v12, v13] T (0, 0)) := by rw [e11]; exact heap_setCell_same w10 g 11 _ _ u11 h10
 have f11 : FrT N [T] w w11 := by rw [e11]; exact f10.trans (FrT.set h10 (by simp) hN _)
 obtain ⟨w12, e12⟩ : ∃ w12, w12 = w11.setCell ⟨g, 12, none⟩ u12 := ⟨_, rfl⟩
 have h12 : w12.heap[g]? = some (.cells #[u0, u1, u2, u3, u4, u5, u6, u7, u8, u9, u10, u11, u12, v13] T (0, 0)) := by rw [e12]; exact heap_setCell_same w11 g 12 _ _ u12 h11
 have f12 : FrT N [T] w w12 := by rw [e12]; exact f11.trans (FrT.set h11 (by simp) hN _)
 obtain ⟨w13, e13⟩ : ∃ w13, w13 = w12.setCell ⟨g, 13, none⟩ u13 := ⟨_, rfl⟩
 have h13 : w13.heap[g]? = some (.cells #[u0, u1, u2, u3, u4, u5, u6, u7, u8, u9, u10, u11, u12, u13] T (0, 0)) := by rw [e13]; exact heap_setCell_same w12 g 13 _ _ u13 h12
 have f13 : FrT N [T] w w13 := by rw [e13]; exact f12.trans (FrT.set h12 (by simp) hN _)
 rw [← e0, ← e1, ← e2, ← e3, ← e4, ← e5, ← e6, ← e7, ← e8, ← e9, ← e10, ← e11, ← e12, ← e13]
 exact ⟨h13, f13⟩
theorem results_node {fn : Func} {p u : Tmp} (h : fn.results = #[.cell p 86, .tmp u]) (tmps : Array Value) (w : World) (g : Nat) (v0 v1 v2 v3 v4 v5 v6 v7 v8 v9 v10 v11 v12 v13 b : Value) (hp : tmps.getD p undef = .pointer (some ⟨g, 0, none⟩)) (hu : tmps.getD u undef = b)
  (hg : w.heap[g]? = some (.cells #[v0, v1, v2, v3, v4, v5, v6, v7, v8, v9, v10, v11, v12, v13] 86 (0, 0))) : (results fn tmps).run Tryz.prog w = .ok (.tuple #[.agg #[v0, v1, v2, v3, v4, v5, v6, v7, v8, v9, v10, v11, v12, v13], b]) w := by
 have hc : ∀ j v, (#[v0, v1, v2, v3, v4, v5, v6, v7, v8, v9, v10, v11, v12, v13] : Array Value)[j]? = some v → w.cell? ⟨g, j, none⟩ = some v := fun j v hv => (cell_of_row w g j _ _ (0, 0) hg).trans hv
 have r0 := hc 0 _ rfl
 have r1 := hc 1 _ rfl
 have r2 := hc 2 _ rfl
 have r3 := hc 3 _ rfl
 have r4 := hc 4 _ rfl
 have r5 := hc 5 _ rfl
 have r6 := hc 6 _ rfl
 have r7 := hc 7 _ rfl
 have r8 := hc 8 _ rfl
 have r9 := hc 9 _ rfl
 have r10 := hc 10 _ rfl
 have r11 := hc 11 _ rfl
 have r12 := hc 12 _ rfl
 have r13 := hc 13 _ rfl
 clear hc
 rw [results_cell_tmp h, hp, hu]
 go_simp
end Go.Proofs.YteopgmieindojaaGreat
