/-
  Contract of the reference's ahead: has a group ahead of a group the same name?
  Contract of the reference's Dropped: which sections of an object are dropped.
  Contract of the reference's put: definitions with one more, by rising names.
-/
import Derived.Test.YthnkehdcolnegaaGreatNR04
namespace Go.Proofs.YthnkehdcolnegaaGreat
open Go.RowKit

set_option maxRecDepth 100000 in
set_option maxHeartbeats 4000000 in
theorem rAhead_any (p : Option Addr) (c i k : Nat) (l : List ObjD) (w : World) (h : HasL 5 EObj w p l) (hok : ∀ o ∈ l, OkD o) (hlc : l.length ≤ 100000) {o : ObjD} {g : GroupD} (hi : l[i]? = some o) (hk : o.groups[k]? = some g) :
    Calls Tryz.prog 109 #[.slice p l.length c, .int .i64 (i : Int), .int .i64 (k : Int)] w fun e w' => e = .returned (.bool (metB l i k (symName o g.sym))) ∧ Below w.heap.size w w' := by
  obtain ⟨b, off, p0, p1, p2, p4, c0, c1, c2, c4, rfl, e0, e1, e2, _, _, _, hsy, hgr, _, _⟩ := objs_at h hi
  have hil : i < l.length := (List.getElem?_eq_some_iff.1 hi).1
  have hkl : k < o.groups.length := (List.getElem?_eq_some_iff.1 hk).1
  have hoo := hok o (List.mem_of_getElem? hi)
  obtain ⟨sn, s, hsn, hs, hnm⟩ := hoo.sym (List.mem_of_getElem? hk)
  obtain ⟨b2, off2, g', rfl, hg', hE, _⟩ := hgr.at_ hkl
  obtain rfl : g' = g := by rw [hk] at hg'; cases hg'; rfl
  have hg0 := hE.1
  rw [hsn] at hg0
  have hsl : sn < o.syms.length := (List.getElem?_eq_some_iff.1 hs).1
  obtain ⟨b1, off1, s', rfl, hs', hS⟩ := hsy.at_ hsl
  obtain rfl : s' = s := by rw [hs] at hs'; cases hs'; rfl
  have hs0 := hS.1.1
  have HH := Lib.hid h
  have HOK := Lib.hid hok
  have HI := Lib.hid hi
  have HK := Lib.hid hk
  obtain ⟨res, hres⟩ : ∃ res, res = metB l i k s'.name := ⟨_, rfl⟩
  rw [hnm, ← hres]
  have HRES := Lib.hid hres
  obtain ⟨nm, hnm2⟩ : ∃ nm, nm = s'.name := ⟨_, rfl⟩
  rw [← hnm2] at hs0
  rw [← hnm2] at HRES
  have hgl := hoo.few.2.2.1
  generalize hln : l.length = ln at *
  have HLN := Lib.hid hln
  generalize hgn : o.groups.length = gn at *
  have HGN := Lib.hid hgn
  generalize o.syms.length = yn at *
  generalize o.secs.length = qn at *
  have hJ : (i : Int) < (ln : Int) := by omega
  have hJ2 : (k : Int) < (gn : Int) := by omega
  have hJ3 : (sn : Int) < (yn : Int) := by omega
  clear h hok hi hk hsy hgr hg' hE hs' hS hs hnm hres hsn hln hgn hoo hnm2
  go_enter Tryz.func109, Tryz.ntmps109
  go_upto_region 1 with fail
  go_quiet (fail)
  have hbq : Below w.heap.size w (w.drewN nq) := below_drewN (Below.refl _ w) _
  generalize w.drewN nq = w1 at *
  generalize hgb : w.heap.size = gb at *
  have HGB := Lib.hid hgb
  clear e0 e1 e2 hg0 hs0 hgb hJ2 hJ3
  go_wp2_with fail
  go_loopw [8, 9] (fun r8 _ wr => ∃ a : Nat, r8 = .int .i64 (a : Int) ∧ a ≤ i + 1 ∧ Below gb w wr ∧ ((a ≤ i ∧ (allTo ObjD.groups l a).any (fun x => sEq (gNameAt l x) nm) = false) ∨ (a = i + 1 ∧ res = false))) (fun r8 _ _ => i + 1 - (intOf r8).toNat)
  case atStart => exact ⟨0, rfl, Nat.zero_le _, hbq, .inl ⟨Nat.zero_le _, rfl⟩⟩
  case round =>
    obtain ⟨a, rfl, ha, hbr, hcase⟩ := hrel
    by_cases hai : a ≤ i
    · have hany : (allTo ObjD.groups l a).any (fun x => sEq (gNameAt l x) nm) = false := by
        rcases hcase with ⟨_, h⟩ | ⟨h, _⟩
        · exact h
        · omega
      obtain ⟨oa, hoa⟩ : ∃ oa, l[a]? = some oa := ⟨_, List.getElem?_eq_getElem (by rw [HLN.out]; omega)⟩
      have HOA := Lib.hid hoa
      have hok2 := HOK.out oa (List.mem_of_getElem? hoa)
      have hgl2 := hok2.few.2.2.1
      have HO2 := Lib.hid hok2
      have HANY := Lib.hid hany
      have hA : (a : Int) ≤ (i : Int) := by omega
      have hA1 : (a : Int) < (ln : Int) := by omega
      have hA0 : (0 : Int) ≤ (a : Int) := by omega
      clear hcase hany hoa hok2
      go_wp2_with fail
      go_loopw [9] (fun r9 wq => ∃ bb : Nat, r9 = .int .i64 (bb : Int) ∧ bb ≤ oa.groups.length ∧ (a = i → bb ≤ k) ∧ Below gb w wq ∧ (atTo ObjD.groups l a bb).any (fun x => sEq (gNameAt l x) nm) = false) (fun r9 _ => oa.groups.length - (intOf r9).toNat)
      case atStart => exact ⟨0, rfl, Nat.zero_le _, fun _ => Nat.zero_le _, hbr, by rw [atTo_zero]; exact HANY.out⟩
      case round =>
        obtain ⟨bb, rfl, hbb, hbk, hbq2, hany⟩ := hrel
        have HANY2 := Lib.hid hany
        have hH := HH.out.below EObj.keeps (show Below w.heap.size w wr by rw [HGB.out]; exact hbq2)
        obtain ⟨b, off, p0, p1, p2, p4, c0, c1, c2, c4, hpe, e0, e1, e2, _, _, _, hsy, hgr, _, _⟩ := objs_at hH HOA.out
        cases hpe
        have hwr : Below gb w wr := hbq2
        by_cases hlt : bb < oa.groups.length
        · obtain ⟨b2, off2, g2, rfl, hg2, hE, _⟩ := hgr.at_ hlt
          obtain ⟨sn2, s2, hsn2, hs2, hnm2⟩ := HO2.out.sym (List.mem_of_getElem? hg2)
          have hg0 := hE.1
          rw [hsn2] at hg0
          have hsl2 : sn2 < oa.syms.length := (List.getElem?_eq_some_iff.1 hs2).1
          obtain ⟨b1, off1, s3, rfl, hs3, hS⟩ := hsy.at_ hsl2
          obtain rfl : s3 = s2 := by rw [hs2] at hs3; cases hs3; rfl
          have hs0 := hS.1.1
          have hgn : gNameAt l (a, bb, g2) = s3.name := by
            unfold gNameAt
            rw [HOA.out]
            exact hnm2
          have HSTEP : Hid ((atTo ObjD.groups l a (bb + 1)).any (fun x => sEq (gNameAt l x) nm) = sEq s3.name nm) := Lib.hid (by
            rw [atTo_step HOA.out hg2, List.any_append, HANY2.out, ← hgn]
            simp)
          have HYES : Hid ((a < i ∨ a = i ∧ bb < k) → sEq s3.name nm = true → res = true) := Lib.hid (fun h1 h2 => by
            rw [HRES.out]
            exact atTo_any HOA.out hg2 h1 (by rw [hgn]; exact h2))
          have HEND : Hid (a = i → bb = k → res = false) := Lib.hid (fun h1 h2 => by
            subst h1 h2
            rw [HRES.out]
            exact HANY2.out)
          obtain ⟨nm2, hnm3⟩ : ∃ nm2, nm2 = s3.name := ⟨_, rfl⟩
          rw [← hnm3] at hs0 HSTEP HYES
          generalize oa.syms.length = yl at *
          generalize hgl3 : oa.groups.length = gl at *
          have HGL3 := Lib.hid hgl3
          have hB : (bb : Int) < (gl : Int) := by omega
          have hS2 : (sn2 : Int) < (yl : Int) := by omega
          obtain ⟨brk, hbrk⟩ : ∃ brk, brk = (((a : Int) == (i : Int)) && decide ((k : Int) ≤ (bb : Int))) := ⟨_, rfl⟩
          have HBRK := Lib.hid hbrk
          clear hg2 hE hsn2 hs2 hnm2 hs3 hS hgn hnm3 hgl3 hany hsy hgr hH hbrk
          go_upto_region 8 with fail
          go_cut [49] (fun s49 wx => s49 = .bool brk ∧ wr = wx)
          case first =>
            cases hq : ((a : Int) == (i : Int)) with
            | false =>
              obtain rfl : brk = false := by rw [HBRK.out, hq]; rfl
              go_wp2_with fail
              go_meet
              exact ⟨rfl, rfl⟩
            | true =>
              by_cases hkb : (k : Int) ≤ (bb : Int)
              · obtain rfl : brk = true := by rw [HBRK.out, hq, decide_eq_true hkb]; rfl
                go_wp2_with fail
                go_meet
                exact ⟨rfl, rfl⟩
              · obtain rfl : brk = false := by rw [HBRK.out, hq, decide_eq_false hkb]; rfl
                go_wp2_with fail
                go_meet
                exact ⟨rfl, rfl⟩
          case rest =>
            obtain ⟨rfl, rfl⟩ := hcut
            cases brk with
            | true =>
              have hb2 := HBRK.out
              have h3 : a = i ∧ k ≤ bb := by
                have h4 := hb2.symm
                rw [Bool.and_eq_true, decide_eq_true_eq, beq_iff_eq] at h4
                omega
              obtain ⟨rfl, h5⟩ := h3
              have hE : Hid (res = false) := Lib.hid (HEND.out rfl (by have := hbk rfl; omega))
              clear hb2
              go_wp2_with fail
              go_roundw
              case rel => exact ⟨a + 1, by go_num, Nat.le_refl _, hwr, .inr ⟨rfl, hE.out⟩⟩
              case measure => simp [intOf]
            | false =>
              have h3 : a < i ∨ a = i ∧ bb < k := by
                have hb2 := HBRK.out.symm
                rw [Bool.and_eq_false_iff] at hb2
                rcases hb2 with h4 | h4
                · have : ¬ (a : Int) = (i : Int) := by simpa using h4
                  omega
                · have := of_decide_eq_false h4
                  omega
              have HH3 := Lib.hid h3
              have hbk2 : a = i → bb + 1 ≤ k := fun h => by omega
              obtain ⟨q, hq⟩ : ∃ q, q = sEq nm2 nm := ⟨_, rfl⟩
              rw [← hq] at HSTEP HYES
              have hq2 : (nm2.toList == nm.toList) = q := hq.symm
              clear h3 hq
              go_upto_region 9 with fail
              go_quiet (fail)
              have hwq : Below gb w (wr.drewN nq) := below_drewN hwr _
              generalize wr.drewN nq = w2 at *
              cases q with
              | true =>
                have hE : Hid (res = true) := Lib.hid (HYES.out HH3.out rfl)
                clear e0 e1 e2 hg0 hs0
                go_wp2_with fail
                go_ret
                rw [hE.out]
                exact ⟨rfl, by rw [HGB.out]; exact hwq⟩
              | false =>
                clear e0 e1 e2 hg0 hs0
                go_wp2_with fail
                go_roundw
                case rel => exact ⟨bb + 1, by go_num, hlt, hbk2, hwq, HSTEP.out⟩
                case measure => simp [intOf]; omega
        · have hbe : bb = oa.groups.length := by omega
          have hlti : a < i := by
            rcases Nat.lt_or_ge a i with h | h
            · exact h
            · obtain rfl : a = i := by omega
              have := hbk rfl
              have h1 := HOA.out
              rw [HI.out] at h1
              cases h1
              have := HGN.out
              omega
          have hany2 : Hid ((allTo ObjD.groups l (a + 1)).any (fun x => sEq (gNameAt l x) nm) = false) := Lib.hid (by rw [← atTo_end HOA.out (k := bb) (by omega)]; exact HANY2.out)
          generalize oa.groups.length = gl at *
          have hB : ¬ (bb : Int) < (gl : Int) := by omega
          clear hany hsy hgr hH
          go_wp2_with fail
          go_roundw
          case rel => exact ⟨a + 1, by go_num, by omega, hwr, .inl ⟨hlti, hany2.out⟩⟩
          case measure => simp [intOf]; omega
    · obtain rfl : a = i + 1 := by omega
      have hE : Hid (res = false) := Lib.hid (by
        rcases hcase with ⟨h, _⟩ | ⟨_, h⟩
        · omega
        · exact h)
      have hA : ¬ ((i + 1 : Nat) : Int) ≤ (i : Int) := by omega
      clear hcase
      go_wp2_with fail
      go_ret
      rw [hE.out]
      exact ⟨rfl, by rw [HGB.out]; exact hbr⟩
end Go.Proofs.YthnkehdcolnegaaGreat

namespace Go.Proofs.YthnkehdcolnegaaGreat
open Go.RowKit

theorem Tryz.infoBool9 : (Tryz.prog.info? 4).map (fun i => (i.zero, i.size, i.bytes)) = some (some (.bool false), 1, 1) := by kernel_rfl
theorem take_snocL {α : Type} {l : List α} {k : Nat} {x : α} (h : l[k]? = some x) : l.take (k + 1) = l.take k ++ [x] := by
  rw [List.take_succ_eq_append_getElem (List.getElem?_eq_some_iff.1 h).1, (List.getElem?_eq_some_iff.1 h).2]
set_option maxRecDepth 100000 in
set_option maxHeartbeats 4000000 in
theorem rDropped_any (p : Option Addr) (c i : Nat) (l : List ObjD) (w : World) (h : HasL 5 EObj w p l) (hok : ∀ o ∈ l, OkD o) (hlc : l.length ≤ 100000) {o : ObjD} (hi : l[i]? = some o) :
    Calls Tryz.prog 56 #[.slice p l.length c, .int .i64 (i : Int)] w fun e w' => ∃ q c', e = .returned (.slice q o.secs.length c') ∧ w'.ownsRow w.heap.size 4 1 (.slice q o.secs.length c') o.secs.length ((dropOf l i).map Value.bool) ∧ Below w.heap.size w w' := by
  obtain ⟨i0, gi, gz0, gz1, gz2⟩ := info_parts Tryz.infoBool9
  have GI := Lib.hid gi
  have G0 := Lib.hid gz0
  have G1 := Lib.hid gz1
  have G2 := Lib.hid gz2
  have hil : i < l.length := (List.getElem?_eq_some_iff.1 hi).1
  have hoo := hok o (List.mem_of_getElem? hi)
  have hdr : dropOf l i = dropTo l i o o.groups.length := by unfold dropOf; rw [hi]
  obtain ⟨b, off, p0, p1, p2, p4, c0, c1, c2, c4, hpe, e0, e1, e2, _, _, _, hsy, hgr, _, _⟩ := objs_at h hi
  subst hpe
  have HAH := Lib.hid fun (k : Nat) (g : GroupD) (hk : o.groups[k]? = some g) W (hW : Below w.heap.size w W) => rAhead_any (some ⟨b, off, none⟩) c i k l W (h.below EObj.keeps hW) hok hlc hi hk
  have HGR := Lib.hid hgr
  have HE2 := Lib.hid fun W (hW : Below w.heap.size w W) => cell_later hW e2
  have HMEM := Lib.hid hoo.mem
  have HFEW := Lib.hid hoo.few.2.2.2.2
  have hql := hoo.few.1
  rw [hdr]
  generalize hln : l.length = ln at *
  generalize hqn : o.secs.length = qn at *
  have hJ : (i : Int) < (ln : Int) := by omega
  have hgn0 := hoo.few.2.2.1
  generalize hgn : o.groups.length = gn at *
  have HGN := Lib.hid hgn
  have HQN := Lib.hid hqn
  clear gi gz0 gz1 gz2 h hok hi hoo hdr e1 hsy hgr hln hgn hqn
  go_enter Tryz.func56, Tryz.ntmps56
  generalize hgb : w.heap.size = gb at *
  have HGB := Lib.hid hgb
  have hb8 : i0.bytes * qn ≤ 281474976710656 := by rw [G2.out]; omega
  go_wp2_with (at_make; refine wpList_make_full _ rfl _ _ 138 rfl gb 4 i0 (.bool false) 1 Tryz.underlying138 GI.out G0.out G1.out _ _ _ _ qn rfl rfl rfl rfl hb8 (by unfold maxLen; omega) (by omega) ?_)
  intro w1 hown hgrow
  have hb1 : Below gb w w1 := by rw [← hgb]; exact (Below.refl _ w).grown hgrow (Nat.le_refl _) (fun k h => by cases h)
  have hown0 : w1.ownsRow gb 4 1 (.slice (some ⟨gb, 0, none⟩) qn qn) qn ((dropTo l i o 0).map Value.bool) := by
    rw [show dropTo l i o 0 = List.replicate qn false by unfold dropTo; rw [HQN.out], List.map_replicate, ← toList_madeCells_one]
    exact hown
  clear hown hgrow hb8 e0 e2 hgb
  go_wp2_with fail
  go_loopw [6, 7, 8] (fun r6 _ _ wr => ∃ k : Nat, k ≤ gn ∧ r6 = .int .i64 (k : Int) ∧ wr.ownsRow gb 4 1 (.slice (some ⟨gb, 0, none⟩) qn qn) qn ((dropTo l i o k).map Value.bool) ∧ Below gb w wr) (fun r6 _ _ _ => gn - (intOf r6).toNat)
  case atStart => exact ⟨0, Nat.zero_le _, rfl, hown0, hb1⟩
  case round =>
    obtain ⟨k, hk, rfl, hown, hb⟩ := hrel
    have HOWN := Lib.hid hown
    have e2 := HE2.out wr (by first | exact hb | (rw [HGB.out]; exact hb))
    have hgbs : gb ≤ wr.heap.size := by rw [← HGB.out]; exact hb.size
    clear hown
    by_cases hlt : k < gn
    · have hJ2 : (k : Int) < (gn : Int) := by omega
      obtain ⟨b2, off2, g, hpe2, hg, hE0, v2, hcv0, q2, c2', rfl, _, _, _, hml⟩ := HGR.out.at_ (i := k) (by rw [HGN.out]; exact hlt)
      have hcv := cell_later (show Below w.heap.size w wr by rw [HGB.out]; exact hb) hcv0
      subst hpe2
      have HG := Lib.hid hg
      have hah := HAH.out k g hg wr (by first | exact hb | (rw [HGB.out]; exact hb))
      have HML := Lib.hid hml
      have hgm := HMEM.out g (List.mem_of_getElem? hg)
      have hfw := HFEW.out g (List.mem_of_getElem? hg)
      have HGM := Lib.hid hgm
      obtain ⟨mb, hmb⟩ : ∃ mb, mb = metB l i k (symName o g.sym) := ⟨_, rfl⟩
      rw [← hmb] at hah
      have hst : dropTo l i o (k + 1) = bif mb then setAll (dropTo l i o k) g.members true else dropTo l i o k := by
        conv => lhs; unfold dropTo
        rw [hg]
        simp only
        rw [← hmb]
      have HST := Lib.hid hst
      have HAX := Lib.hid hah
      generalize hmn : g.members.length = mn at *
      have HMN := Lib.hid hmn
      clear hg hah hmb hst hml hgm hE0 hmn
      cases mb with
      | false =>
        have hst2 : Hid (dropTo l i o (k + 1) = dropTo l i o k) := Lib.hid HST.out
        go_wp2_with (first | (go_at_call 109; refine HAX.out.mono ?_; rintro e w2 ⟨rfl, hb2⟩) | fail)
        have hown2 := owns_belowN HOWN.out hb2
        have hbw2 := hb.trans (hb2.mono hgbs)
        go_roundw
        case rel => exact ⟨k + 1, hlt, by go_num, by rw [hst2.out]; exact hown2, hbw2⟩
        case measure => simp [intOf]; omega
      | true =>
        have hst2 : Hid (dropTo l i o (k + 1) = setAll (dropTo l i o k) g.members true) := Lib.hid HST.out
        go_upto_region 6 with (first | (go_at_call 109; refine HAX.out.mono ?_; rintro e w2 ⟨rfl, hb2⟩) | fail)
        have hown2 := owns_belowN HOWN.out hb2
        have hbw2 := hb.trans (hb2.mono hgbs)
        have e2' := cell_later hb2 e2
        have hcv' := cell_later hb2 hcv
        have hgbs2 : gb ≤ w2.heap.size := Nat.le_trans hgbs hb2.size
        have HOWN2 := Lib.hid hown2
        have HSTART := Lib.hid (show w2.ownsRow gb 4 1 (.slice (some ⟨gb, 0, none⟩) qn qn) qn ((setAll (dropTo l i o k) (g.members.take 0) true).map Value.bool) from hown2)
        clear hb2 hown2 e2 hcv hcv0 HAX
        go_wp2_with fail
        go_loopw [8] (fun r8 wx => ∃ j : Nat, j ≤ mn ∧ r8 = .int .i64 (j : Int) ∧ wx.ownsRow gb 4 1 (.slice (some ⟨gb, 0, none⟩) qn qn) qn ((setAll (dropTo l i o k) (g.members.take j) true).map Value.bool) ∧ Below gb w wx) (fun r8 _ => mn - (intOf r8).toNat)
        case atStart => exact ⟨0, Nat.zero_le _, rfl, HSTART.out, hbw2⟩
        case round =>
          obtain ⟨j, hj, rfl, hown3, hb3⟩ := hrel
          have hgbs3 : gb ≤ wr.heap.size := by rw [← HGB.out]; exact hb3.size
          by_cases hjl : j < mn
          · obtain ⟨b5, off5, x, hpe5, hx, hcx0⟩ := HML.out.at_ (i := j) (by rw [HMN.out]; exact hjl)
            subst hpe5
            have hcx := cell_later (show Below w.heap.size w wr by rw [HGB.out]; exact hb3) hcx0.1
            rw [Nat.mul_one] at hcx
            have hxm := HGM.out x (List.mem_of_getElem? hx)
            obtain ⟨m, hm⟩ : ∃ m : Nat, x = ((m + 1 : Nat) : Int) := ⟨(x - 1).toNat, by omega⟩
            have hmq : m < qn := by rw [HQN.out] at hxm; omega
            have hlen : (setAll (dropTo l i o k) (g.members.take j) true).length = qn := by rw [setAll_length, dropTo_length, HQN.out]
            have hf := hown3.frozenAt m
            obtain ⟨bv, hbv⟩ : ∃ bv, (setAll (dropTo l i o k) (g.members.take j) true)[m]? = some bv := ⟨_, List.getElem?_eq_getElem (by omega)⟩
            have hcl : wr.cell? ⟨gb, m, none⟩ = some (.bool bv) := (hown3.cellAt m (by omega)).trans (by rw [List.getElem?_map, hbv]; rfl)
            have hst := hown3.stored m (.bool true)
            have hset : ((setAll (dropTo l i o k) (g.members.take j) true).map Value.bool).set m (.bool true) = (setAll (dropTo l i o k) (g.members.take (j + 1)) true).map Value.bool := by
              rw [take_snocL hx, setAll_snoc, List.map_set, hm, show (((m + 1 : Nat) : Int) - 1).toNat = m by omega]
            rw [hset] at hst
            have HST3 := Lib.hid hst.1
            have k1 : IntKind.i64.wrap (x - 1) = (m : Int) := by rw [show x - 1 = (m : Int) by omega]; exact IntWalk.i64_in _ (by omega)
            have hJ3 : (j : Int) < (mn : Int) := by omega
            have hJ4 : (m : Int) < (qn : Int) := by omega
            have hJ5 : (0 : Int) ≤ (m : Int) := by omega
            have hJ6 : (0 : Int) ≤ (j : Int) := by omega
            clear hx hcx0 hxm hm hlen hbv hst hset hown3
            go_wp2_with fail
            go_roundw
            case rel => exact ⟨j + 1, hjl, by go_num, HST3.out, hb3.setCell (Nat.le_refl _) _⟩
            case measure => simp [intOf]; omega
          · have hJ3 : ¬ (j : Int) < (mn : Int) := by omega
            have hown4 : wr.ownsRow gb 4 1 (.slice (some ⟨gb, 0, none⟩) qn qn) qn ((dropTo l i o (k + 1)).map Value.bool) := by
              rw [hst2.out]
              rw [List.take_of_length_le (by rw [HMN.out]; omega)] at hown3
              exact hown3
            have HO4 := Lib.hid hown4
            clear hown3 hown4
            go_wp2_with fail
            go_roundw
            case rel => exact ⟨k + 1, hlt, by go_num, HO4.out, hb3⟩
            case measure => simp [intOf]; omega
    · obtain rfl : k = gn := by omega
      have hJ2 : ¬ (k : Int) < (k : Int) := by omega
      go_wp2_with fail
      go_ret
      exact ⟨_, _, rfl, HOWN.out, hb⟩
end Go.Proofs.YthnkehdcolnegaaGreat

namespace Go.Proofs.YthnkehdcolnegaaGreat
open Go.RowKit

def defC (d : DefD) : List Value := [.string d.name, .int .i64 (d.obj : Int), .int .i64 (d.sym : Int)]
theorem def_one (d : DefD) : ∀ u ∈ defC d, u.oneCell' = true := fun u hu => by
  simp only [defC, List.mem_cons, List.not_mem_nil, or_false] at hu
  rcases hu with rfl | rfl | rfl <;> rfl
theorem Tryz.infoDefR : (Tryz.prog.info? 63).map (fun i => (i.zero, i.size, i.bytes)) = some (some (.agg #[.string ⟨#[]⟩, .int .i64 0, .int .i64 0]), 3, 32) := by kernel_rfl
theorem def_cell_at (w : World) (d : DefD) (T : TypeId) : ∀ j u, (defC d)[j]? = some u → (w.alloc (.cells #[.string d.name, .int .i64 (d.obj : Int), .int .i64 (d.sym : Int)] T)).cell? ((⟨w.heap.size, 0, none⟩ : Addr).add j) = some u := by
  have h := heap_alloc_new w (.cells #[.string d.name, .int .i64 (d.obj : Int), .int .i64 (d.sym : Int)] T)
  intro j u hj
  have ha : (⟨w.heap.size, 0, none⟩ : Addr).add j = ⟨w.heap.size, j, none⟩ := by unfold Addr.add; split <;> simp_all
  rw [ha]
  exact (cell_of_row _ _ _ _ _ (0, 0) h).trans (by simpa [defC] using hj)
theorem isL_defs {w : World} {B : Nat} {T : TypeId} {v : Value} {l : List DefD} (h : w.ownsRow B T 3 v l.length (l.flatMap defC)) : IsL 3 EDef w v l := by
  have := isL_rows (k := 3) (E := EDef) (f := defC) (g := id) (fun _ => rfl) h (fun d _ b o hc => ⟨by simpa using hc 0 _ rfl, hc 1 _ rfl, hc 2 _ rfl⟩)
  simpa using this
theorem take_snocD {α : Type} {l : List α} {k : Nat} {x : α} (h : l[k]? = some x) : l.take (k + 1) = l.take k ++ [x] := by
  rw [List.take_succ_eq_append_getElem (List.getElem?_eq_some_iff.1 h).1, (List.getElem?_eq_some_iff.1 h).2]
/-- The definitions ahead of a name, and behind it. -/
def befores (l : List DefD) (d : DefD) : List DefD := l.filter fun e => sLt e.name d.name
def behinds (l : List DefD) (d : DefD) : List DefD := l.filter fun e => sLt d.name e.name
theorem sGt (a b : ByteArray) : (!(sLt a b || sEq a b)) = sLt b a := by
  cases h1 : sLt a b with
  | true =>
    cases h2 : sLt b a with
    | false => rfl
    | true => have := sLt_trans h1 h2; rw [sLt_irrefl] at this; cases this
  | false =>
    cases h2 : sEq a b with
    | true => obtain rfl := sEq_iff.1 h2; rw [sLt_irrefl]; rfl
    | false => rw [sLt_total h2 h1]; rfl
theorem run_gtr_str (a b : ByteArray) (W : World) : (binOp .gtr 9 (.string a) (.string b)).run Tryz.prog W = .ok (.bool (sLt b a)) W := by
  rw [← sGt]
  simp [binOp, Op.stringOp]
  rfl
theorem befores_snoc {l : List DefD} {k : Nat} {e d : DefD} (h : l[k]? = some e) : befores (l.take (k + 1)) d = befores (l.take k) d ++ bif sLt e.name d.name then [e] else [] := by
  unfold befores
  rw [take_snocD h, List.filter_append]
  congr 1
theorem behinds_snoc {l : List DefD} {k : Nat} {e d : DefD} (h : l[k]? = some e) : behinds (l.take (k + 1)) d = behinds (l.take k) d ++ bif sLt d.name e.name then [e] else [] := by
  unfold behinds
  rw [take_snocD h, List.filter_append]
  congr 1
theorem befores_le (l : List DefD) (d : DefD) : (befores l d).length ≤ l.length := List.length_filter_le _ _
theorem behinds_le (l : List DefD) (d : DefD) : (behinds l d).length ≤ l.length := List.length_filter_le _ _
theorem rput_yes {l : List DefD} {d e : DefD} {k : Nat} (h : l[k]? = some e) (hq : sEq e.name d.name = true) : putB l d = l := by
  unfold putB
  rw [List.any_eq_true.2 ⟨e, List.mem_of_getElem? h, hq⟩]
  rfl
theorem rput_no {l : List DefD} {d : DefD} (h : l.any (fun e => sEq e.name d.name) = false) : putB l d = befores l d ++ [d] ++ behinds l d := by
  unfold putB
  rw [h]
  rfl
set_option maxRecDepth 100000 in
set_option maxHeartbeats 8000000 in
theorem rPut_any (p : Option Addr) (n c : Nat) (l : List DefD) (d : DefD) (w : World) (h : HasL 3 EDef w p l) (hn : l.length = n) (hc : n ≤ c) (hm : c ≤ maxLen) (hp : p = none → c = 0) (hnb : n ≤ 100000) :
    Calls Tryz.prog 58 #[.slice p n c, .agg (defCs d)] w fun e w' => ∃ q m c', e = .returned (.slice q m c') ∧ IsL 3 EDef w' (.slice q m c') (putB l d) ∧ m = (putB l d).length ∧ Below w.heap.size w w' := by
  obtain ⟨i0, gi, gz0, gz1, gz2⟩ := info_parts Tryz.infoDefR
  have GI := Lib.hid gi
  have G0 := Lib.hid gz0
  have G1 := Lib.hid gz1
  have G2 := Lib.hid gz2
  have hb1 : Below w.heap.size w (w.alloc (.cells #[.string d.name, .int .i64 (d.obj : Int), .int .i64 (d.sym : Int)] 63)) := (Below.refl _ w).alloc (Nat.le_refl _) _
  have hg1 := heap_alloc_new w (.cells #[.string d.name, .int .i64 (d.obj : Int), .int .i64 (d.sym : Int)] 63)
  have hs1 : (w.alloc (.cells #[.string d.name, .int .i64 (d.obj : Int), .int .i64 (d.sym : Int)] 63)).heap.size = w.heap.size + 1 := by simp
  have HH := Lib.hid h
  have HN := Lib.hid hn
  have HP := Lib.hid hp
  have HS1 := Lib.hid hs1
  have hm' := hm
  unfold maxLen at hm'
  clear gi gz0 gz1 gz2 h hn hp hs1
  go_enter Tryz.func58, Tryz.ntmps58
  go_upto_region 1 with fail
  generalize w.alloc (.cells #[.string d.name, .int .i64 (d.obj : Int), .int .i64 (d.sym : Int)] 63) = w1 at *
  generalize hgb : w.heap.size = gb at *
  have HGB := Lib.hid hgb
  have HG1 := Lib.hid hg1
  clear hgb hg1
  go_wp2_with fail
  go_loopw [5, 6] (fun r5 r6 wr => ∃ (k : Nat) (pa : Option Addr) (ca : Nat), k ≤ n ∧ r6 = .int .i64 (k : Int) ∧ r5 = .slice pa (befores (l.take k) d).length ca ∧ wr.ownsRow (gb + 1) 63 3 (.slice pa (befores (l.take k) d).length ca) (befores (l.take k) d).length ((befores (l.take k) d).flatMap defC) ∧ (l.take k).any (fun e => sEq e.name d.name) = false ∧ Below (gb + 1) w1 wr) (fun _ r6 _ => n - (intOf r6).toNat)
  case atStart => exact ⟨0, none, 0, Nat.zero_le _, rfl, rfl, World.ownsRow_nil _ _ _ _, rfl, by rw [← HS1.out]; exact Below.refl _ _⟩
  case round =>
    obtain ⟨k, pa, ca, hk, rfl, rfl, hown, hany, hbr⟩ := hrel
    have HOWN := Lib.hid hown
    have HANY := Lib.hid hany
    have hbw : Below gb w wr := hb1.trans (hbr.mono (by omega))
    have hgr := (hbr.block gb (by omega)).trans HG1.out
    have HGR := Lib.hid hgr
    obtain ⟨⟨x0, x1, x2⟩, _⟩ := three_cells _ _ _ _ _ _ hgr
    have hszr : gb + 1 ≤ wr.heap.size := by rw [← HS1.out]; exact hbr.size
    clear hown hany hgr
    by_cases hlt : k < n
    · obtain ⟨b, off, e, hpe, he, f0, f1, f2⟩ := (HH.out.below EDef.keeps (show Below w.heap.size w wr by rw [HGB.out]; exact hbw)).at_ (i := k) (by rw [HN.out]; exact hlt)
      subst hpe
      have hK : (k : Int) < (n : Int) := by omega
      have hK0 : (0 : Int) ≤ (k : Int) := by omega
      have HSN := Lib.hid (befores_snoc (d := d) he)
      have HAN : Hid ((l.take (k + 1)).any (fun e => sEq e.name d.name) = sEq e.name d.name) := Lib.hid (by rw [take_snocD he, List.any_append, HANY.out]; simp)
      have HPY := Lib.hid (rput_yes (d := d) he)
      obtain ⟨q1, hq1⟩ : ∃ q1, q1 = sEq e.name d.name := ⟨_, rfl⟩
      obtain ⟨q2, hq2⟩ : ∃ q2, q2 = sLt e.name d.name := ⟨_, rfl⟩
      rw [← hq1] at HAN HPY
      rw [← hq2] at HSN
      have hq3 : (e.name.toList == d.name.toList) = q1 := hq1.symm
      have hq4 : Op.bytesLess e.name.toList d.name.toList = q2 := hq2.symm
      have hbl := befores_le (l.take k) d
      have hbl2 : (befores (l.take k) d).length ≤ 100000 := by rw [List.length_take] at hbl; omega
      clear he hq1 hq2 hbl
      generalize hacc : befores (l.take k) d = acc at *
      go_upto_region 5 with fail
      go_quiet (fail)
      cases q1 with
      | true =>
        have hE : Hid (putB l d = l) := Lib.hid (HPY.out rfl)
        have hbq : Below gb w (wr.drewN nq) := below_drewN hbw _
        generalize wr.drewN nq = wq at *
        clear f0 f1 f2 x0 x1 x2
        go_wp2_with fail
        go_ret
        refine ⟨_, _, _, rfl, ?_, by rw [hE.out]; exact HN.out.symm, by rw [HGB.out]; exact hbq⟩
        rw [hE.out]
        exact ⟨_, _, by rw [HN.out], by rw [HN.out]; exact hc, hm, HP.out, HH.out.below EDef.keeps (show Below w.heap.size w wq by rw [HGB.out]; exact hbq)⟩
      | false =>
        clear HPY
        have hd1 : Below wr.heap.size wr (wr.drewN nq) := below_drewN (Below.refl _ wr) _
        have HO1 := Lib.hid (owns_belowN HOWN.out hd1)
        have hbr1 := hbr.trans (hd1.mono hszr)
        have hz1 : gb + 1 ≤ (wr.drewN nq).heap.size := Nat.le_trans hszr hd1.size
        have f0' := cell_later hd1 f0
        have f1' := cell_later hd1 f1
        have f2' := cell_later hd1 f2
        have x0' := cell_later hd1 x0
        generalize wr.drewN nq = w5 at *
        clear f0 f1 f2 x0 x1 x2 hd1 HOWN HGR hbr hbw hszr
        go_upto_region 7 with fail
        go_quiet (fail)
        have hd2 : Below w5.heap.size w5 (w5.drewN nq) := below_drewN (Below.refl _ w5) _
        have HO2 := Lib.hid (owns_belowN HO1.out hd2)
        have hbr2 := hbr1.trans (hd2.mono hz1)
        have hz2 : gb + 1 ≤ (w5.drewN nq).heap.size := Nat.le_trans hz1 hd2.size
        have f0 := cell_later hd2 f0'
        have f1 := cell_later hd2 f1'
        have f2 := cell_later hd2 f2'
        generalize w5.drewN nq = w6 at *
        clear f0' f1' f2' x0' hd2 HO1 hbr1 hz1
        cases q2 with
        | false =>
          have hst : Hid (befores (l.take (k + 1)) d = acc) := Lib.hid (by rw [HSN.out]; simp)
          go_wp2_with fail
          go_roundw
          case rel => exact ⟨k + 1, pa, ca, hlt, by go_num, by rw [hst.out], by rw [hst.out]; exact HO2.out, HAN.out, hbr2⟩
          case measure => simp [intOf]; omega
        | true =>
          have hst : Hid (befores (l.take (k + 1)) d = acc ++ [e]) := Lib.hid (by rw [HSN.out]; rfl)
          go_upto_region 8 with fail
          go_wp2_with (at_builtin; refine wpList_append_own _ rfl (.tmp 31) (.tmp 36) 52 rfl (gb + 1) 63 i0 _ 3 32 Tryz.underlying52 GI.out G0.out G1.out G2.out rfl (by decide) _ acc.length _ rfl (HO2.out.alloc _) ⟨w6.heap.size, 0, none⟩ 1 1 (defC e) rfl rfl (def_cell_at w6 e 63) (def_one e) (by unfold maxLen; omega) (by omega) (by simp; omega) ?_)
          intro v9 w9 hown9 hg9 _
          obtain ⟨p9, c9, rfl, _, _, _⟩ := slice_form hown9
          rw [← flat_snoc] at hown9
          have hb9 : Below (gb + 1) w1 w9 := (hbr2.trans (((Below.refl _ w6).alloc (Nat.le_refl _) (.cells #[.string e.name, .int .i64 (e.obj : Int), .int .i64 (e.sym : Int)] 63)).mono hz2)).grown hg9 (by simp; omega) (fun k hk => (HO2.out.lt k hk).1)
          have HO9 := Lib.hid hown9
          clear hown9 hg9 f0 f1 f2
          go_wp2_with fail
          go_roundw
          case rel => exact ⟨k + 1, p9, c9, hlt, by go_num, by rw [hst.out, List.length_append]; rfl, by rw [hst.out, List.length_append]; exact HO9.out, HAN.out, hb9⟩
          case measure => simp [intOf]; omega
    · obtain rfl : k = n := by omega
      have hK : ¬ (k : Int) < (k : Int) := by omega
      have hany : l.any (fun e => sEq e.name d.name) = false := by have := HANY.out; rw [List.take_of_length_le (by rw [HN.out]; exact Nat.le_refl _)] at this; exact this
      have hE : Hid (putB l d = befores l d ++ [d] ++ behinds l d) := Lib.hid (rput_no hany)
      have HNO : Hid (∀ e ∈ l, sEq e.name d.name = false) := Lib.hid (fun e he => by have := List.any_eq_false.1 hany e he; simpa using this)
      have hown := HOWN.out
      rw [List.take_of_length_le (by rw [HN.out]; exact Nat.le_refl _)] at hown
      have hbl := befores_le l d
      have hbl3 : (befores l d).length ≤ 100000 := by have := HN.out; omega
      rw [List.take_of_length_le (by rw [HN.out]; exact Nat.le_refl _)]
      have HOWN2 := Lib.hid hown
      have HBR := Lib.hid hbr
      clear hany hown hbl
      generalize hac : befores l d = acc at *
      go_upto_region 9 with fail
      go_wp2_with (at_builtin; refine wpList_append_own _ rfl (.tmp 38) (.tmp 40) 52 rfl (gb + 1) 63 i0 _ 3 32 Tryz.underlying52 GI.out G0.out G1.out G2.out rfl (by decide) _ acc.length _ rfl (HOWN2.out.alloc _) ⟨wr.heap.size, 0, none⟩ 1 1 (defC d) rfl rfl (def_cell_at wr d 63) (def_one d) (by unfold maxLen; omega) (by omega) (by simp; omega) ?_)
      intro v9 w9 hown9 hg9 _
      obtain ⟨p9, c9, rfl, _, _, _⟩ := slice_form hown9
      rw [← flat_snoc] at hown9
      have hb9 : Below (gb + 1) w1 w9 := (HBR.out.trans (((Below.refl _ wr).alloc (Nat.le_refl _) (.cells #[.string d.name, .int .i64 (d.obj : Int), .int .i64 (d.sym : Int)] 63)).mono hszr)).grown hg9 (by simp; omega) (fun k hk => (HOWN2.out.lt k hk).1)
      have HO9 := Lib.hid hown9
      have HB9 := Lib.hid hb9
      obtain ⟨m9, hm9⟩ : ∃ m9, m9 = acc ++ [d] := ⟨_, rfl⟩
      have hml : m9.length = acc.length + 1 := by rw [hm9]; simp
      rw [← hm9] at HO9
      rw [← hml] at HO9 ⊢
      have HM9 := Lib.hid hm9
      have hmb : m9.length ≤ 100001 := by omega
      clear hown9 hg9 hb9 x0 x1 x2 hbw hbr HOWN HANY HGR hm9 hml HOWN2 HBR
      go_wp2_with fail
      go_loopw [5, 7] (fun r5 r7 wr => ∃ (j : Nat) (pa : Option Addr) (ca : Nat), j ≤ k ∧ r7 = .int .i64 (j : Int) ∧ r5 = .slice pa (m9 ++ behinds (l.take j) d).length ca ∧ wr.ownsRow (gb + 1) 63 3 (.slice pa (m9 ++ behinds (l.take j) d).length ca) (m9 ++ behinds (l.take j) d).length ((m9 ++ behinds (l.take j) d).flatMap defC) ∧ Below (gb + 1) w1 wr) (fun _ r7 _ => k - (intOf r7).toNat)
      case atStart => exact ⟨0, p9, c9, Nat.zero_le _, rfl, by rw [show behinds (l.take 0) d = [] from rfl, List.append_nil], by rw [show behinds (l.take 0) d = [] from rfl, List.append_nil]; exact HO9.out, HB9.out⟩
      case round =>
        obtain ⟨j, pa, ca, hj, rfl, rfl, hown, hbr⟩ := hrel
        have HOWN := Lib.hid hown
        have hbw : Below gb w wr := hb1.trans (hbr.mono (by omega))
        have hgr := (hbr.block gb (by omega)).trans HG1.out
        obtain ⟨⟨x0, x1, x2⟩, _⟩ := three_cells _ _ _ _ _ _ hgr
        have hszr : gb + 1 ≤ wr.heap.size := by rw [← HS1.out]; exact hbr.size
        clear hown hgr
        by_cases hlt : j < k
        · obtain ⟨b, off, e, hpe, he, f0, f1, f2⟩ := (HH.out.below EDef.keeps (show Below w.heap.size w wr by rw [HGB.out]; exact hbw)).at_ (i := j) (by rw [HN.out]; exact hlt)
          subst hpe
          have hJ : (j : Int) < (k : Int) := by omega
          have hJ0 : (0 : Int) ≤ (j : Int) := by omega
          have HSN := Lib.hid (behinds_snoc (d := d) he)
          have hne := HNO.out e (List.mem_of_getElem? he)
          obtain ⟨q2, hq2⟩ : ∃ q2, q2 = sLt d.name e.name := ⟨_, rfl⟩
          rw [← hq2] at HSN
          have hgt : ∀ W, (binOp .gtr 9 (.string e.name) (.string d.name)).run Tryz.prog W = .ok (.bool q2) W := fun W => by rw [run_gtr_str, hq2]
          have hbl := behinds_le (l.take j) d
          have hbl2 : (behinds (l.take j) d).length ≤ 100000 := by rw [List.length_take] at hbl; omega
          have hll : (m9 ++ behinds (l.take j) d).length = m9.length + (behinds (l.take j) d).length := List.length_append
          have hll2 : (m9 ++ behinds (l.take j) d).length ≤ 300000 := by omega
          clear he hq2 hbl hll hne
          generalize hacc : m9 ++ behinds (l.take j) d = ac2 at *
          have HAC := Lib.hid hacc
          clear hacc
          go_upto_region 13 with fail
          cases q2 with
          | false =>
            go_quiet (fail)
            have hd2 : Below wr.heap.size wr (wr.drewN nq) := below_drewN (Below.refl _ wr) _
            have HO2 := Lib.hid (owns_belowN HOWN.out hd2)
            have hbr2 := hbr.trans (hd2.mono hszr)
            have hz2 : gb + 1 ≤ (wr.drewN nq).heap.size := Nat.le_trans hszr hd2.size
            have f0' := cell_later hd2 f0
            have f1' := cell_later hd2 f1
            have f2' := cell_later hd2 f2
            generalize wr.drewN nq = w6 at *
            clear f0 f1 f2 x0 x1 x2 hd2 HOWN hbr hbw hszr
            have hst : Hid (m9 ++ behinds (l.take (j + 1)) d = ac2) := Lib.hid (by rw [HSN.out, ← HAC.out]; simp)
            go_wp2_with fail
            go_roundw
            case rel => exact ⟨j + 1, pa, ca, hlt, by go_num, by rw [hst.out], by rw [hst.out]; exact HO2.out, hbr2⟩
            case measure => simp [intOf]; omega
          | true =>
            go_quiet (fail)
            have hd2 : Below wr.heap.size wr (wr.drewN nq) := below_drewN (Below.refl _ wr) _
            have HO2 := Lib.hid (owns_belowN HOWN.out hd2)
            have hbr2 := hbr.trans (hd2.mono hszr)
            have hz2 : gb + 1 ≤ (wr.drewN nq).heap.size := Nat.le_trans hszr hd2.size
            have f0' := cell_later hd2 f0
            have f1' := cell_later hd2 f1
            have f2' := cell_later hd2 f2
            generalize wr.drewN nq = w6 at *
            clear f0 f1 f2 x0 x1 x2 hd2 HOWN hbr hbw hszr
            have hst : Hid (m9 ++ behinds (l.take (j + 1)) d = ac2 ++ [e]) := Lib.hid (by rw [HSN.out, ← HAC.out]; simp)
            go_upto_region 14 with fail
            go_wp2_with (at_builtin; refine wpList_append_own _ rfl (.tmp 56) (.tmp 61) 52 rfl (gb + 1) 63 i0 _ 3 32 Tryz.underlying52 GI.out G0.out G1.out G2.out rfl (by decide) _ ac2.length _ rfl (HO2.out.alloc _) ⟨w6.heap.size, 0, none⟩ 1 1 (defC e) rfl rfl (def_cell_at w6 e 63) (def_one e) (by unfold maxLen; omega) (by omega) (by simp; omega) ?_)
            intro v9 w9 hown9 hg9 _
            obtain ⟨p9, c9, rfl, _, _, _⟩ := slice_form hown9
            rw [← flat_snoc] at hown9
            have hb9 : Below (gb + 1) w1 w9 := (hbr2.trans (((Below.refl _ w6).alloc (Nat.le_refl _) (.cells #[.string e.name, .int .i64 (e.obj : Int), .int .i64 (e.sym : Int)] 63)).mono hz2)).grown hg9 (by simp; omega) (fun k hk => (HO2.out.lt k hk).1)
            have HO9 := Lib.hid hown9
            clear hown9 hg9 f0' f1' f2'
            go_wp2_with fail
            go_roundw
            case rel => exact ⟨j + 1, p9, c9, hlt, by go_num, by rw [hst.out, List.length_append]; rfl, by rw [hst.out, List.length_append]; exact HO9.out, hb9⟩
            case measure => simp [intOf]; omega
        · obtain rfl : j = k := by omega
          have hJ : ¬ (j : Int) < (j : Int) := by omega
          have hE2 : Hid (m9 ++ behinds (l.take j) d = putB l d) := Lib.hid (by rw [hE.out, HM9.out, List.take_of_length_le (by rw [HN.out]; exact Nat.le_refl _)])
          have hisl := isL_defs HOWN.out
          rw [hE2.out] at hisl ⊢
          have HIS := Lib.hid hisl
          clear hisl x0 x1 x2
          go_wp2_with fail
          go_ret
          exact ⟨_, _, _, rfl, HIS.out, rfl, by rw [HGB.out]; exact hbw⟩
end Go.Proofs.YthnkehdcolnegaaGreat
