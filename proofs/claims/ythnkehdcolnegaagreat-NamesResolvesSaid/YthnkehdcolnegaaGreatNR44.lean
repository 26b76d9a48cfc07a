/-
  Contract of the project's own lay: the bytes of parts, behind which that of the headers' names comes.
-/
import Derived.Test.YthnkehdcolnegaaGreatNR43
namespace Go.Proofs.YthnkehdcolnegaaGreat
open Go.RowKit

theorem hasBs_three (w : World) (T : TypeId) (v1 v2 v3 : Value) (l1 l2 l3 : List UInt8) (b1 b2 b3 n1 n2 n3 : Nat) (h1 : w.ownsRow b1 5 1 v1 n1 (l1.map u8v)) (h2 : w.ownsRow b2 5 1 v2 n2 (l2.map u8v)) (h3 : w.ownsRow b3 5 1 v3 n3 (l3.map u8v)) :
    HasBs (w.alloc (.cells #[v1, v2, v3] T)) (some ⟨w.heap.size, 0, none⟩) [l1, l2, l3] := fun i l hl => by
  have hn := heap_new w (.cells #[v1, v2, v3] T)
  have hb : Below w.heap.size w (w.alloc (.cells #[v1, v2, v3] T)) := (Below.refl _ w).alloc (Nat.le_refl _) _
  match i, hl with
  | 0, hl =>
    simp at hl
    subst hl
    obtain ⟨p, c, rfl, k1, k2, k3, k4⟩ := Has.of_owns h1
    exact ⟨_, _, p, _, c, rfl, (cell_of_row _ w.heap.size 0 _ T (0, 0) hn).trans rfl, k3, k1, k2, k4.below hb, none_cap h1⟩
  | 1, hl =>
    simp at hl
    subst hl
    obtain ⟨p, c, rfl, k1, k2, k3, k4⟩ := Has.of_owns h2
    exact ⟨_, _, p, _, c, rfl, (cell_of_row _ w.heap.size 1 _ T (0, 0) hn).trans rfl, k3, k1, k2, k4.below hb, none_cap h2⟩
  | 2, hl =>
    simp at hl
    subst hl
    obtain ⟨p, c, rfl, k1, k2, k3, k4⟩ := Has.of_owns h3
    exact ⟨_, _, p, _, c, rfl, (cell_of_row _ w.heap.size 2 _ T (0, 0) hn).trans rfl, k3, k1, k2, k4.below hb, none_cap h3⟩

set_option maxRecDepth 100000 in
set_option maxHeartbeats 4000000 in
theorem ownLay_any (p0 : Option Addr) (c0 n base : Nat) (pv : List PV) (pd : List PartD) (w : World) (hrow : w.ownsRow base 228 12 (.slice p0 n c0) n (pvs false pv)) (hpt : PartsAt w (fun b => 0 ≤ b ∧ some b ≠ (Value.slice p0 n c0).ownBlock) pv pd) (hn : pd.length = n) (hok : LayOK pd) :
    Calls Tryz.prog 78 #[.slice p0 n c0] w fun e w' => ∃ v, e = .returned v ∧ w'.ownsRow w.heap.size 5 1 v (ownLay pd).length ((ownLay pd).map u8v) ∧ w.grownBy w' (Value.slice p0 n c0).ownBlock := by
  obtain ⟨i0, hi, hz0, hz1, hz2⟩ := info_parts Tryz.infoOwnPart
  have HI := Lib.hid hi
  have H0 := Lib.hid hz0
  have H1 := Lib.hid hz1
  have H2 := Lib.hid hz2
  obtain ⟨i1, gi, gz0, gz1, gz2⟩ := info_parts Tryz.infoU8
  have GI := Lib.hid gi
  have G0 := Lib.hid gz0
  have G1 := Lib.hid gz1
  have G2 := Lib.hid gz2
  obtain ⟨j0, hj, hj0, hj1, hj2⟩ := info_parts Tryz.infoStr
  have JI := Lib.hid hj
  have J0 := Lib.hid hj0
  have J1 := Lib.hid hj1
  have J2 := Lib.hid hj2
  have hrow0 := owns_lower (c := 0) hrow (Nat.zero_le _)
  have HRW := Lib.hid hrow0
  have HPT := Lib.hid hpt
  have HNP := Lib.hid hn
  have HOK := Lib.hid hok
  have hn130 : n ≤ 130 := by have := hok.len; omega
  have hrlt := fun g hg => (hrow.lt g hg).2
  have HRLT := Lib.hid hrlt
  have hnq : headNames pd = (pd.map PartD.name ++ [nShstr]).map lst := by unfold headNames; simp
  have hnl : (pd.map PartD.name).length = n := by rw [List.length_map, hn]
  have hnk : ∀ (k : Nat) (y : PartD), pd[k]? = some y → (pd.map PartD.name)[k]? = some y.name := fun k y h => by rw [List.getElem?_map, h]; rfl
  have hnmb : ∀ x ∈ pd.map PartD.name ++ [nShstr], mayB (lst x) = true := fun x hx => lay_names hok (lst x) (by rw [hnq]; exact List.mem_map.2 ⟨x, hx, rfl⟩)
  generalize pd.map PartD.name = nms at *
  have HNQ := Lib.hid hnq
  have HNL := Lib.hid hnl
  have HNK := Lib.hid hnk
  have HNMB := Lib.hid hnmb
  clear hrow hrow0 hpt hn hok hrlt hnq hnl hnk hnmb hi hz0 hz1 hz2 gi gz0 gz1 gz2 hj hj0 hj1 hj2
  go_enter Tryz.func78, Tryz.ntmps78
  go_wp2_with fail
  go_loopw [3, 15] (fun r3 r15 wr => ∃ (k : Nat), k ≤ n ∧ r15 = .int .i64 (k : Int) ∧ wr.ownsRow w.heap.size 9 1 r3 k ((nms.take k).map Value.string) ∧ Below w.heap.size w wr) (fun _ r15 _ => n - (intOf r15).toNat)
  case atStart => exact ⟨0, Nat.zero_le _, rfl, World.ownsRow_nil _ _ _ _, Below.refl _ _⟩
  case round =>
    obtain ⟨k, hk, rfl, hown, hb⟩ := hrel
    by_cases hlt : k < n
    · obtain ⟨g, y, q, c, rfl, hyk, _, _, _, _, d0, d1, d2, d3, d4, d5, d6, d7, d8, d9, d10, d11⟩ := own_at HRW.out HPT.out HNP.out hlt
      have e0 := cell_later hb d0
      have e1 := cell_later hb d1
      have e2 := cell_later hb d2
      have e3 := cell_later hb d3
      have e4 := cell_later hb d4
      have e5 := cell_later hb d5
      have e6 := cell_later hb d6
      have e7 := cell_later hb d7
      have e8 := cell_later hb d8
      have e9 := cell_later hb d9
      have e10 := cell_later hb d10
      have e11 := cell_later hb d11
      have hst : nms.take (k + 1) = nms.take k ++ [y.name] := by rw [List.take_add_one, HNK.out k y hyk]; rfl
      have HST := Lib.hid hst
      have hba : Below wr.heap.size wr (wr.alloc (.cells #[.string y.name, .int .i64 y.h.a, .int .i64 y.h.b, .int .i64 y.h.c, .int .i64 y.h.d, .int .i64 y.h.e, .int .i64 y.h.f, .int .i64 y.h.g, .int .i64 y.h.h, .int .i64 y.h.i, .int .i64 y.h.j, .slice q y.b.length c] 228)) := (Below.refl _ wr).alloc (Nat.le_refl _) _
      have hha := heap_new wr (.cells #[.string y.name, .int .i64 y.h.a, .int .i64 y.h.b, .int .i64 y.h.c, .int .i64 y.h.d, .int .i64 y.h.e, .int .i64 y.h.f, .int .i64 y.h.g, .int .i64 y.h.h, .int .i64 y.h.i, .int .i64 y.h.j, .slice q y.b.length c] 228)
      have hJ : (k : Int) < (n : Int) := by omega
      have k2 : (0 : Int) ≤ (k : Int) := by omega
      have hbs := hb.size
      clear hyk d0 d1 d2 d3 d4 d5 d6 d7 d8 d9 d10 d11 hst
      go_upto_region 5 with fail
      generalize y.b.length = bn at *
      generalize wr.alloc (.cells #[.string y.name, .int .i64 y.h.a, .int .i64 y.h.b, .int .i64 y.h.c, .int .i64 y.h.d, .int .i64 y.h.e, .int .i64 y.h.f, .int .i64 y.h.g, .int .i64 y.h.h, .int .i64 y.h.i, .int .i64 y.h.j, .slice q bn c] 228) = ws at *
      obtain ⟨s0, _⟩ := cells12 _ _ _ _ _ _ _ _ _ _ _ _ _ _ _ hha
      have hown2 := owns_belowN hown hba
      have hb2 : Below w.heap.size w ws := hb.trans (hba.mono hbs)
      have hb2s := hb2.size
      clear e0 e1 e2 e3 e4 e5 e6 e7 e8 e9 e10 e11 hha hown hb hba
      go_wp2_with (at_builtin; refine wpList_append_own _ rfl (.tmp 19) (.tmp 22) 109 rfl w.heap.size 9 j0 _ 1 16 Tryz.underlying109 JI.out J0.out J1.out J2.out rfl (by decide) _ k _ rfl (hown2.alloc _) ⟨ws.heap.size, 0, none⟩ 1 1 [.string y.name] rfl rfl (cell_one_new ws _ _) (one_str _) (by unfold maxLen; omega) (by omega) (by simp; omega) ?_)
      intro v3 w4 hown4 hg4 _
      have hb4 : Below w.heap.size w w4 := (hb2.alloc hb2.size _).grown hg4 (by simp; omega) (fun g hg => (hown2.lt g hg).1)
      have hown5 : w4.ownsRow w.heap.size 9 1 v3 (k + 1) ((nms.take (k + 1)).map Value.string) := by
        rw [HST.out, List.map_append, List.map_take]
        exact hown4
      clear hown2 hg4 hb2 hown4
      go_wp2_with fail
      go_roundw
      case rel => exact ⟨k + 1, hlt, by go_num, hown5, hb4⟩
      case measure => simp [intOf]; omega
    · obtain rfl : k = n := by omega
      have hJ : ¬ (k : Int) < (k : Int) := by omega
      have hE : Hid (nms.take k = nms) := Lib.hid (List.take_of_length_le (by rw [HNL.out]; exact Nat.le_refl _))
      rw [hE.out] at hown
      have hbs := hb.size
      clear hE
      go_wp2_with (at_builtin; refine wpList_append_own _ rfl (.tmp 26) (.tmp 27) 109 rfl w.heap.size 9 j0 _ 1 16 Tryz.underlying109 JI.out J0.out J1.out J2.out rfl (by decide) _ k _ rfl (hown.alloc _) ⟨wr.heap.size, 0, none⟩ 1 1 [.string nShstr] rfl rfl (cell_one_new wr _ _) (one_str _) (by unfold maxLen; omega) (by omega) (by simp; omega) ?_)
      intro v3 w4 hown4 hg4 _
      have hb4 : Below w.heap.size w w4 := (hb.alloc hb.size _).grown hg4 (by simp; omega) (fun g hg => (hown.lt g hg).1)
      rw [str_snoc] at hown4
      obtain ⟨p5, c5, rfl, n1, n2, n3, hns⟩ := HasS.of_owns hown4
      have HMK := Lib.hid (sMake_wide p5 (k + 1) c5 _ _ hns n3 (by omega) HNMB.out)
      rw [← HNQ.out] at HMK
      have hb4s := hb4.size
      clear hown hg4 hb hns n1 n2 n3 hown4
      go_wp2_with fail
      refine HMK.out.mono ?_
      rintro e wm ⟨t1, t2, rfl, ht, hpl, hbm⟩
      have hbC2 : Below w.heap.size w wm := hb4.trans (hbm.mono hb4s)
      have hbC2s := hbC2.size
      have hbms := hbm.size
      have hpll : (placesOf (headNames pd)).length = k + 1 := by rw [placesOf_length, headNames_length, HNP.out]
      rw [hpll] at hpl
      obtain ⟨p9, c9, rfl, _, _, _, _⟩ := Has.of_owns ht
      have HT := Lib.hid ht
      have htb := lay_tab HOK.out
      have HNP9 := Lib.hid fun W => newPart_any nShstr tabHead p9 (tabOf (headNames pd)).tb.length c9 W
      clear hpll ht
      generalize htl : (tabOf (headNames pd)).tb.length = tl at *
      have HTL := Lib.hid htl
      clear htl
      go_wp2_with fail
      refine (HNP9.out _).mono ?_
      rintro e w5 ⟨rfl, hb5⟩
      have hbw5 : Below w.heap.size w w5 := hbC2.trans (hb5.mono hbC2s)
      have hb5s := hbw5.size
      have hb5s2 := hb5.size
      have hrow5 := owns_belowN HRW.out hbw5
      have HPT5 := Lib.hid (HPT.out.below hbw5)
      have hpl5 := owns_belowN hpl hb5
      have hsl : PartsAt w5 (fun b => 0 ≤ b ∧ some b ≠ (Value.slice p0 k c0).ownBlock) [⟨szT tabHead (tl : Int), nShstr, (.slice p9 tl c9)⟩] [szP ⟨tabHead, nShstr, (tabOf (headNames pd)).tb⟩] := by
        have h1 : PartsAt w5 (fun b => 0 ≤ b ∧ some b ≠ (Value.slice p0 k c0).ownBlock) [⟨szT tabHead (tl : Int), nShstr, (.slice p9 tl c9)⟩] [⟨szT tabHead (tl : Int), nShstr, (tabOf (headNames pd)).tb⟩] := PartsAt.one (SlB.of_owns (owns_below HT.out hb5) fun b hb => by
          have h1 := (HT.out.lt b hb).1
          exact ⟨by omega, fun e => by have := HRLT.out b e.symm; omega⟩)
        unfold szP
        rw [HTL.out]
        exact h1
      have h1c : ∀ u ∈ PV.cells false ⟨szT tabHead (tl : Int), nShstr, (.slice p9 tl c9)⟩, u.oneCell' = true := fun u hu => (hsl.oneCell (q := false)) u (by simpa [pvs] using hu)
      have H1C := Lib.hid h1c
      have HSL := Lib.hid hsl
      clear hsl h1c hpl
      go_wp2_with (at_builtin; refine wpList_append_own_at _ rfl (.tmp 32) (.tmp 36) 167 rfl 0 228 i0 _ 12 120 Tryz.underlying167 HI.out H0.out H1.out H2.out rfl (by decide) _ k _ rfl (hrow5.alloc _) ⟨w5.heap.size, 0, none⟩ 1 1 (PV.cells false ⟨szT tabHead (tl : Int), nShstr, (.slice p9 tl c9)⟩) rfl rfl (ten_cell_at w5 _ _) H1C.out (by unfold maxLen; omega) (by omega) (by simp) ?_)
      intro vD wD hown6 hg6 _ hat6
      have HP := Lib.hid (push_part HPT5.out HSL.out (by rw [HNP.out]; exact hown6) hg6 hat6)
      have hgw : w.grownBy wD (Value.slice p0 k c0).ownBlock := (Below.toGrown (hbw5.alloc hb5s (.cells #[.string nShstr, .int .i64 0, .int .i64 3, .int .i64 0, .int .i64 0, .int .i64 0, .int .i64 (tl : Int), .int .i64 0, .int .i64 0, .int .i64 1, .int .i64 0, .slice p9 tl c9] 228)) _).trans hg6
      have hplD : wD.ownsRow w4.heap.size 3 1 t2 (k + 1) (natV (placesOf (headNames pd))) := (hpl5.alloc _).kept hg6 (own_ne hpl5 fun b hb => by have := HRLT.out b hb; omega)
      have HGW := Lib.hid hgw
      have hgws := hgw.size
      have hall : (ownAll pd).length = k + 1 := by rw [ownAll_length, HNP.out]
      have hal : ownAll pd = pd ++ [szP ⟨tabHead, nShstr, (tabOf (headNames pd)).tb⟩] := rfl
      rw [← hal, hall] at HP
      have HRD := Lib.hid HP.out.1
      have HPD9 := Lib.hid HP.out.2
      have hrd := HP.out.1
      have HALL := Lib.hid hall
      have hle : ownLay pd = hdrB (64 + (bodyOf (ownAll pd)).length) (1 + (ownAll pd).length) (ownAll pd).length ++ bodyOf (ownAll pd) ++ ownHeads (placesOf (headNames pd)) (ownAll pd) (ownAll pd).length := rfl
      rw [hall] at hle
      have HLE := Lib.hid hle
      have HMY := Lib.hid fun i p h => own_may HOK.out i p h
      have HBT := Lib.hid fun i => own_body HOK.out i
      have hpln : (placesOf (headNames pd)).length = k + 1 := by have := hplD.1; simp [natV] at this; simpa using this
      have HPLN := Lib.hid hpln
      have HZ := Lib.hid fun W => (tput_ok nul10 W).1 nul_may
      obtain ⟨pD, cD, rfl, _, _, _⟩ := slice_form hrd
      clear hown6 hg6 hat6 hpl5 hrow5 HSL HPT5 HP hgw hrd hal hall hle hpln HMK HNQ HNL HNK HNMB HRW HPT HT HTL H1C HNP9 hbw5 hb5 hbm hb4 hbC2
      generalize ownAll pd = al at *
      generalize placesOf (headNames pd) = pls at *
      go_wp2_with fail
      refine (HZ.out _).mono ?_
      rintro e wH ⟨vH, rfl, hownH, hbH⟩
      have h64 : (sectB nul10).length = 64 := sectB_length _
      rw [h64] at hownH
      have hh0 : ownHeads pls al 0 = sectB nul10 := by unfold ownHeads; simp
      rw [← hh0] at hownH
      clear h64 hh0
      go_wp2_with fail
      go_loopw [8, 9, 42] (fun r8 r9 r42 wr => ∃ (i nb nh : Nat), i ≤ k + 1 ∧ r42 = .int .i64 (i : Int) ∧ nb = (bodyOf (al.take i)).length ∧ nh = 64 + 64 * i ∧ wr.ownsRow wD.heap.size 5 1 r8 nb ((bodyOf (al.take i)).map u8v) ∧ wr.ownsRow wD.heap.size 5 1 r9 nh ((ownHeads pls al i).map u8v) ∧ (∀ b, r8.ownBlock = some b → r9.ownBlock ≠ some b) ∧ Below wD.heap.size wD wr) (fun _ _ r42 _ => k + 1 - (intOf r42).toNat)
      case atStart => exact ⟨0, 0, 64, Nat.zero_le _, rfl, rfl, rfl, World.ownsRow_nil _ _ _ _, hownH, (fun b h => by cases h), hbH⟩
      case round =>
        obtain ⟨i, nb, nh, hi, rfl, hnb, hnh, hob, hoh, hne, hb⟩ := hrel
        have HNB := Lib.hid hnb
        have HNH := Lib.hid hnh
        have HNE := Lib.hid hne
        have hnbl : nb ≤ 60000000 := by rw [hnb]; exact HBT.out i
        have hbs := hb.size
        clear hnb hnh hne
        by_cases hlt : i < k + 1
        · obtain ⟨g, y, q, c, rfl, hyk, hq1, hq2, hq3, hq4, d0, d1, d2, d3, d4, d5, d6, d7, d8, d9, d10, d11⟩ := own_at HRD.out HPD9.out HALL.out hlt
          have e0 := cell_later hb d0
          have e1 := cell_later hb d1
          have e2 := cell_later hb d2
          have e3 := cell_later hb d3
          have e4 := cell_later hb d4
          have e5 := cell_later hb d5
          have e6 := cell_later hb d6
          have e7 := cell_later hb d7
          have e8 := cell_later hb d8
          have e9 := cell_later hb d9
          have e10 := cell_later hb d10
          have e11 := cell_later hb d11
          obtain ⟨g2, c2, cur2, rfl, _, _, _, hgc, hgm, _, _⟩ := owns_form hplD (by omega)
          have hplx := owns_belowN hplD hb
          obtain ⟨pq, hpq⟩ : ∃ pq, pls[i]? = some pq := ⟨_, List.getElem?_eq_getElem (by rw [HPLN.out]; exact hlt)⟩
          have hpc : wr.cell? ⟨g2, i, none⟩ = some (.int .i64 (pq : Int)) := by
            rw [hplx.cellAt i (by omega)]
            simp only [natV, List.getElem?_map, hpq]
            rfl
          have hht : ownHeadAt pls i (bodyOf (al.take i)).length y = ⟨(pq : Int), y.h.b, y.h.c, y.h.d, 64 + (nb : Int), y.h.f, y.h.g, y.h.h, y.h.i, y.h.j⟩ := by
            unfold ownHeadAt
            rw [← HNB.out, List.getD_eq_getElem?_getD, hpq]
            rfl
          have hmi := HMY.out i y hyk
          have hsu := ownHeads_succ (pl := pls) hyk
          have hbsu : bodyOf (al.take (i + 1)) = bodyOf (al.take i) ++ y.b := by rw [List.take_add_one, hyk]; exact bodyOf_snoc _ _
          rw [hht] at hmi hsu
          have HC := Lib.hid fun W => (tput_ok ⟨(pq : Int), y.h.b, y.h.c, y.h.d, 64 + (nb : Int), y.h.f, y.h.g, y.h.h, y.h.i, y.h.j⟩ W).1 hmi
          have hsl64 := sectB_length ⟨(pq : Int), y.h.b, y.h.c, y.h.d, 64 + (nb : Int), y.h.f, y.h.g, y.h.h, y.h.i, y.h.j⟩
          have hybl : (y.b).length ≤ 60000000 := by
            have := HBT.out (i + 1)
            rw [hbsu, List.length_append] at this
            omega
          generalize sectB ⟨(pq : Int), y.h.b, y.h.c, y.h.d, 64 + (nb : Int), y.h.f, y.h.g, y.h.h, y.h.i, y.h.j⟩ = sb at *
          have HSU := Lib.hid hsu
          have HBSU := Lib.hid hbsu
          have HSB := Lib.hid hsl64
          have HYB := Lib.hid hq4
          have HYN := Lib.hid hq3
          have hJ : (i : Int) < (k : Int) + 1 := by omega
          have k2 : (0 : Int) ≤ (i : Int) := by omega
          have hba : Below wr.heap.size wr (wr.alloc (.cells #[.string y.name, .int .i64 y.h.a, .int .i64 y.h.b, .int .i64 y.h.c, .int .i64 y.h.d, .int .i64 y.h.e, .int .i64 y.h.f, .int .i64 y.h.g, .int .i64 y.h.h, .int .i64 y.h.i, .int .i64 y.h.j, .slice q y.b.length c] 228)) := (Below.refl _ wr).alloc (Nat.le_refl _) _
          have hha := heap_new wr (.cells #[.string y.name, .int .i64 y.h.a, .int .i64 y.h.b, .int .i64 y.h.c, .int .i64 y.h.d, .int .i64 y.h.e, .int .i64 y.h.f, .int .i64 y.h.g, .int .i64 y.h.h, .int .i64 y.h.i, .int .i64 y.h.j, .slice q y.b.length c] 228)
          have hpa := cell_later hba hpc
          generalize hybn : y.b.length = bn at *
          have HYBN := Lib.hid hybn
          obtain ⟨pB, cB, rfl, _, _, _⟩ := slice_form hob
          have kw : IntKind.i64.wrap (64 + (nb : Int)) = 64 + (nb : Int) := IntWalk.i64_in _ (by omega)
          clear hplx hpq hht hmi hsu hbsu hsl64 hq3 hq4 hpc hyk hybn d0 d1 d2 d3 d4 d5 d6 d7 d8 d9 d10 d11
          go_upto_region 14 with fail
          generalize wr.alloc (.cells #[.string y.name, .int .i64 y.h.a, .int .i64 y.h.b, .int .i64 y.h.c, .int .i64 y.h.d, .int .i64 y.h.e, .int .i64 y.h.f, .int .i64 y.h.g, .int .i64 y.h.h, .int .i64 y.h.i, .int .i64 y.h.j, .slice q bn c] 228) = wh at *
          have s1 := (cells12 _ _ _ _ _ _ _ _ _ _ _ _ _ _ _ hha).2.1
          have hfz := frozen_of_row _ _ 1 _ _ hha
          have hst2 : (wh.setCell ⟨wr.heap.size, 1, none⟩ (.int .i64 (pq : Int))).heap[wr.heap.size]? = some (.cells #[.string y.name, .int .i64 (pq : Int), .int .i64 y.h.b, .int .i64 y.h.c, .int .i64 y.h.d, .int .i64 y.h.e, .int .i64 y.h.f, .int .i64 y.h.g, .int .i64 y.h.h, .int .i64 y.h.i, .int .i64 y.h.j, .slice q bn c] 228 (0, 0)) := heap_setCell_same wh wr.heap.size 1 _ _ (.int .i64 (pq : Int)) hha
          have hbst : Below wr.heap.size wr (wh.setCell ⟨wr.heap.size, 1, none⟩ (.int .i64 (pq : Int))) := hba.setCell (Nat.le_refl _) _
          clear e0 e1 e2 e3 e4 e5 e6 e7 e8 e9 e10 e11 hba
          go_upto_region 15 with fail
          generalize wh.setCell ⟨wr.heap.size, 1, none⟩ (.int .i64 (pq : Int)) = wi at *
          clear hha s1 hfz hpa
          have s5 := (cells12 _ _ _ _ _ _ _ _ _ _ _ _ _ _ _ hst2).2.2.2.2.2.1
          have hfz5 := frozen_of_row _ _ 5 _ _ hst2
          have hst3 : (wi.setCell ⟨wr.heap.size, 5, none⟩ (.int .i64 (64 + (nb : Int)))).heap[wr.heap.size]? = some (.cells #[.string y.name, .int .i64 (pq : Int), .int .i64 y.h.b, .int .i64 y.h.c, .int .i64 y.h.d, .int .i64 (64 + (nb : Int)), .int .i64 y.h.f, .int .i64 y.h.g, .int .i64 y.h.h, .int .i64 y.h.i, .int .i64 y.h.j, .slice q bn c] 228 (0, 0)) := heap_setCell_same wi wr.heap.size 5 _ _ (.int .i64 (64 + (nb : Int))) hst2
          have hbst3 : Below wr.heap.size wr (wi.setCell ⟨wr.heap.size, 5, none⟩ (.int .i64 (64 + (nb : Int)))) := hbst.setCell (Nat.le_refl _) _
          go_upto_region 16 with fail
          generalize wi.setCell ⟨wr.heap.size, 5, none⟩ (.int .i64 (64 + (nb : Int))) = wz at *
          clear hst2 s5 hfz5 hbst
          obtain ⟨t0, t1', t2', t3, t4, t5, t6, t7, t8, t9, t10, t11⟩ := cells12 _ _ _ _ _ _ _ _ _ _ _ _ _ _ _ hst3
          have hbD9 : Below wD.heap.size wD wz := hb.trans (hbst3.mono hbs)
          have hob2 := owns_belowN hob hbst3
          have hoh2 := owns_belowN hoh hbst3
          have hobl := fun b hb => (hob.lt b hb).2
          have hohl := fun b hb => (hoh.lt b hb).2
          have hbDs := hbD9.size
          have hbzs := hbst3.size
          clear hst3 hob hoh hbst3
          go_wp2_with fail
          refine (HC.out _).mono ?_
          rintro e wF ⟨vF, rfl, hownF, hbbF⟩
          rw [HSB.out] at hownF
          have hobF := owns_belowN hob2 hbbF
          have hohF := owns_belowN hoh2 hbbF
          have r11 := cell_later hbbF t11
          have hbF : Below wD.heap.size wD wF := hbD9.trans (hbbF.mono hbDs)
          obtain ⟨p8, c8, rfl, _, _, y3, y4⟩ := Has.of_owns hownF
          have hpn8 := none_cap hownF
          have Y4 := Lib.hid y4
          have Y3 := Lib.hid y3
          have hnh9 : nh ≤ 10000 := by have := HNH.out; omega
          have hbFs := hbF.size
          clear hownF hbbF hob2 hoh2 hbD9 y3 y4 t0 t1' t2' t3 t4 t5 t6 t7 t8 t9 t10 t11
          go_wp2_with (at_builtin; refine wpList_append_bytes _ rfl (.tmp 58) (.tmp 61) 31 rfl wD.heap.size 5 i1 Tryz.underlying31 GI.out G0.out G1.out G2.out _ nh _ rfl hohF p8 64 c8 sb rfl Y4.out Y3.out hpn8 (by omega) hbFs ?_)
          intro vG wG hohG hgG hatG
          have hobG := hobF.kept hgG (ne_or fun b hb he => HNE.out b he hb)
          have hneG := ne_step2 HNE.out (fun b hb => (hobF.lt b hb).2) hatG
          have hbG : Below wD.heap.size wD wG := hbF.grown hgG hbFs (fun g hg => (hohF.lt g hg).1)
          have hbGs := hbG.size
          have m11 := hgG.cell r11 (fun e => Nat.lt_irrefl _ (hohl _ e.symm))
          rw [← List.map_append, ← HSU.out] at hohG
          have HNEG := Lib.hid hneG
          have HYG := Lib.hid (HYB.out.below hbG)
          clear hobF hohF hgG hatG hneG r11 hohl hbF
          go_wp2_with (at_builtin; refine wpList_append_bytes _ rfl (.tmp 63) (.tmp 65) 31 rfl wD.heap.size 5 i1 Tryz.underlying31 GI.out G0.out G1.out G2.out _ nb _ rfl hobG q bn c y.b rfl HYG.out HYBN.out HYN.out (by omega) hbGs ?_)
          intro vE wE hobE hgE hatE
          have hohE := hohG.kept hgE (ne_or HNEG.out)
          have HNEE := Lib.hid (ne_step1 HNEG.out (fun b hb => (hohG.lt b hb).2) hatE)
          have hbE : Below wD.heap.size wD wE := hbG.grown hgE hbGs (fun g hg => (hobG.lt g hg).1)
          rw [← List.map_append, ← HBSU.out] at hobE
          have hbln : nb + bn = (bodyOf (al.take (i + 1))).length := by rw [HBSU.out, List.length_append, ← HNB.out, HYBN.out]
          have HBLN := Lib.hid hbln
          clear hobG hohG hgE hatE hbln hbG m11 hobl
          go_wp2_with fail
          go_roundw
          case rel => exact ⟨i + 1, nb + bn, nh + 64, by omega, by go_num, HBLN.out, by have := HNH.out; omega, hobE, hohE, HNEE.out, hbE⟩
          case measure => simp [intOf]; omega
        · obtain rfl : i = k + 1 := by omega
          have hJ : ¬ ((k + 1 : Nat) : Int) < (k : Int) + 1 := by omega
          have hE : Hid (al.take (k + 1) = al) := Lib.hid (List.take_of_length_le (by rw [HALL.out]; exact Nat.le_refl _))
          rw [hE.out] at hob
          have hnb2 : nb = (bodyOf al).length := by rw [HNB.out, hE.out]
          have HNB2 := Lib.hid hnb2
          have hohl : (ownHeads pls al (k + 1)).length = nh := by have := hoh.1; simpa using this
          have HOHL := Lib.hid hohl
          have HOB := Lib.hid hob
          have HOH := Lib.hid hoh
          obtain ⟨pB, cB, rfl, _, _, _⟩ := slice_form hob
          obtain ⟨pH, cH, rfl, _, _, _⟩ := slice_form hoh
          have HBG := Lib.hid fun W => hPut_yes (64 + nb) (1 + (k + 1)) (k + 1) W ⟨by omega, by omega, by omega, by omega, by omega, by omega⟩
          have kw : IntKind.i64.wrap (64 + (nb : Int)) = 64 + (nb : Int) := IntWalk.i64_in _ (by omega)
          have kk : IntKind.i64.wrap (1 + ((k : Int) + 1)) = 1 + ((k : Int) + 1) := IntWalk.i64_in _ (by omega)
          have hpu : ((64 + nb : Nat) : Int) = 64 + (nb : Int) := by omega
          have hpk : ((k + 1 : Nat) : Int) = (k : Int) + 1 := by omega
          have hpm : ((1 + (k + 1) : Nat) : Int) = 1 + ((k : Int) + 1) := by omega
          rw [hpu, hpm, hpk] at HBG
          have hnh9 : nh ≤ 10000 := by have := HNH.out; omega
          have hgD : w.grownBy wr (Value.slice p0 k c0).ownBlock := HGW.out.trans (Below.toGrown (hb.mono (Nat.le_refl _)) _)
          have HGD := Lib.hid hgD
          have hws := hgD.size
          clear hnb2 hob hoh hb hpu hpk hpm HNE hohl hgD
          go_wp2_with fail
          refine (HBG.out _).mono ?_
          rintro e wO ⟨vO, rfl, hownO, hbO⟩
          rw [hdrB_length] at hownO
          have hob9 := owns_belowN HOB.out hbO
          have hoh9 := owns_belowN HOH.out hbO
          obtain ⟨pO, cO, rfl, _, _, _⟩ := slice_form hownO
          have hlen3 : [hdrB (64 + nb) (1 + (k + 1)) (k + 1), bodyOf al, ownHeads pls al (k + 1)].flatten.length ≤ 100000000 := by
            simp only [List.flatten_cons, List.flatten_nil, List.length_append, List.length_nil, hdrB_length]
            have e1 := HNB2.out
            have e2 := HOHL.out
            omega
          have HCC := Lib.hid (concat_any (some ⟨wO.heap.size, 0, none⟩) 3 3 [hdrB (64 + nb) (1 + (k + 1)) (k + 1), bodyOf al, ownHeads pls al (k + 1)] _ (hasBs_three wO 31 (.slice pO 64 cO) (.slice pB nb cB) (.slice pH nh cH) _ _ _ _ _ _ 64 nb nh hownO hob9 hoh9) rfl (by omega) hlen3)
          have hbm : Below wO.heap.size wO (wO.alloc (.cells #[(.slice pO 64 cO), (.slice pB nb cB), (.slice pH nh cH)] 31)) := (Below.refl _ wO).alloc (Nat.le_refl _) _
          have HBM := Lib.hid hbm
          have hbOs := hbO.size
          clear hownO hob9 hoh9 hlen3 hbm
          go_wp2_with fail
          refine HCC.out.mono ?_
          rintro e wQ ⟨vQ, rfl, hownQ, hbQ⟩
          have hbmQ : Below wO.heap.size wO wQ := HBM.out.trans (hbQ.mono HBM.out.size)
          have hfin : w.grownBy wQ (Value.slice p0 k c0).ownBlock := HGD.out.trans (Below.toGrown (hbO.trans (hbmQ.mono hbOs)) _)
          have hms := HBM.out.size
          have hres : ownLay pd = [hdrB (64 + nb) (1 + (k + 1)) (k + 1), bodyOf al, ownHeads pls al (k + 1)].flatten := by
            rw [HLE.out, ← HNB2.out]
            simp
          have HRES := Lib.hid hres
          have HFIN := Lib.hid hfin
          have HOWQ := Lib.hid hownQ
          clear hownQ hbQ hbmQ hfin hres
          go_wp2_with fail
          go_ret
          refine ⟨vQ, rfl, ?_, HFIN.out⟩
          rw [HRES.out]
          exact owns_lower HOWQ.out (by omega)
end Go.Proofs.YthnkehdcolnegaaGreat
