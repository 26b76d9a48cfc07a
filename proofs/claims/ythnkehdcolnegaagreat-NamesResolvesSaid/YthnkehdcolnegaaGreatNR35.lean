/-
  Contract of the reference's Bytes.
-/
import Derived.Test.YthnkehdcolnegaaGreatNR34
import Derived.Deep.RegionHeld3
namespace Go.Proofs.YthnkehdcolnegaaGreat
open Go.RowKit

set_option maxRecDepth 100000 in
set_option maxHeartbeats 4000000 in
theorem refBytes_any (o : ObjD) (v0 v1 v2 v4 : Value) (w : World) (hp : ObjParts w v0 v1 v2 v4 o) (hl : Lays o) :
    Calls Tryz.prog 13 #[objV v0 v1 v2 o.hasSig v4] w (Gives (bytesOf o) w) := by
  obtain ⟨i0, hi, hz0, hz1, hz2⟩ := info_parts Tryz.infoRefPart
  have HI := Lib.hid hi
  have H0 := Lib.hid hz0
  have H1 := Lib.hid hz1
  have H2 := Lib.hid hz2
  have hb1 : Below w.heap.size w (w.alloc (.cells #[v0, v1, v2, .bool o.hasSig, v4] 27)) := (Below.refl _ w).alloc (Nat.le_refl _) _
  have hpW := hp.below hb1
  obtain ⟨hq, hys, hgp, hsg⟩ := hpW
  have HR := Lib.hid fun (a : Int) (W : World) (hW : Below (w.alloc (.cells #[v0, v1, v2, .bool o.hasSig, v4] 27)).heap.size (w.alloc (.cells #[v0, v1, v2, .bool o.hasSig, v4] 27)) W) => relParts_any o v0 v1 v2 v4 a W (hq.below ESec.keeps hW) hl
  have HG := Lib.hid fun (a : Int) (W : World) (hW : Below (w.alloc (.cells #[v0, v1, v2, .bool o.hasSig, v4] 27)).heap.size (w.alloc (.cells #[v0, v1, v2, .bool o.hasSig, v4] 27)) W) => groupParts_any o v0 v1 v2 v4 a W (hgp.below EGroup.keeps hW) (hsg.below EInt.keeps hW) hl
  have HY := Lib.hid fun (a : Int) (ha : 0 ≤ a ∧ a ≤ 1000) (W : World) (hW : Below (w.alloc (.cells #[v0, v1, v2, .bool o.hasSig, v4] 27)).heap.size (w.alloc (.cells #[v0, v1, v2, .bool o.hasSig, v4] 27)) W) => symParts_any o v0 v1 v2 v4 a W ha (hys.below ESym.keeps hW) hl
  obtain ⟨p0, c0, rfl, q1, q2, _, hqh⟩ := hq
  have a0 : (w.alloc (.cells #[.slice p0 o.secs.length c0, v1, v2, .bool o.hasSig, v4] 27)).cell? ⟨w.heap.size, 0, none⟩ = some (.slice p0 o.secs.length c0) := by simp
  have a1 : (w.alloc (.cells #[.slice p0 o.secs.length c0, v1, v2, .bool o.hasSig, v4] 27)).cell? ⟨w.heap.size, 1, none⟩ = some v1 := by simp
  have a2 : (w.alloc (.cells #[.slice p0 o.secs.length c0, v1, v2, .bool o.hasSig, v4] 27)).cell? ⟨w.heap.size, 2, none⟩ = some v2 := by simp
  have a3 : (w.alloc (.cells #[.slice p0 o.secs.length c0, v1, v2, .bool o.hasSig, v4] 27)).cell? ⟨w.heap.size, 3, none⟩ = some (.bool o.hasSig) := by simp
  have a4 : (w.alloc (.cells #[.slice p0 o.secs.length c0, v1, v2, .bool o.hasSig, v4] 27)).cell? ⟨w.heap.size, 4, none⟩ = some v4 := by simp
  have hgs : (w.alloc (.cells #[.slice p0 o.secs.length c0, v1, v2, .bool o.hasSig, v4] 27)).heap.size = w.heap.size + 1 := by simp
  have hns := hl.nsec
  have HS := Lib.hid hl.secs
  have HQ := Lib.hid hqh
  have HB1 := Lib.hid hb1
  have HL := Lib.hid hl
  have hat : symNo o = 1 + o.secs.length + (relPs 0 o.secs o.secs.length).length + (groupPs 0 o.groups o.hasSig o.sig).length := rfl
  have hpo : partsOf o = zeroPart :: o.secs.map secPart ++ relPs (symNo o) o.secs o.secs.length ++ groupPs (symNo o) o.groups o.hasSig o.sig ++ symPs (symNo o) o.syms := rfl
  have hale := symNo_le hl
  generalize hql : o.secs.length = ql at *
  generalize o.hasSig = sg at *
  have HQL := Lib.hid hql
  have HAT := Lib.hid hat
  have HPO := Lib.hid hpo
  clear hp hl hi hz0 hz1 hz2 hb1 hqh hql q1 q2 hat hpo hys hgp hsg
  go_enter Tryz.func13, Tryz.ntmps13
  go_upto_region 1 with fail
  generalize w.alloc (.cells #[.slice p0 ql c0, v1, v2, .bool sg, v4] 27) = W1 at *
  have hgs2 : w.heap.size < W1.heap.size := by omega
  clear hgs
  go_upto_block 0 with fail
  go_cut [3] (fun r3 wr => ∃ (pv : List PV) (pd : List PartD), pd = zeroPart :: o.secs.map secPart ∧ wr.ownsRow W1.heap.size 106 12 r3 pd.length (pvs true pv) ∧ PartsAt wr (fun b => 0 ≤ b ∧ some b ≠ r3.ownBlock) pv pd ∧ Below W1.heap.size W1 wr)
  case first =>
    clear HR HG HY HAT HPO
    go_wp2_with fail
    go_loopw [3, 4] (fun r3 r4 wr => ∃ (k : Nat) (pv : List PV) (pd : List PartD), k ≤ ql ∧ r4 = .int .i64 (k : Int) ∧ pd = zeroPart :: (o.secs.take k).map secPart ∧ pd.length ≤ k + 1 ∧ wr.ownsRow W1.heap.size 106 12 r3 pd.length (pvs true pv) ∧ PartsAt wr (fun b => 0 ≤ b ∧ some b ≠ r3.ownBlock) pv pd ∧ Below W1.heap.size W1 wr) (fun _ r4 _ => ql - (intOf r4).toNat)
    case atStart =>
      refine ⟨0, [⟨nul10, nNone, .slice none 0 0⟩], [zeroPart], Nat.zero_le _, rfl, rfl, Nat.le_refl _, World.ownsRow_lit W1 _ 1 (Nat.le_refl _) (by unfold maxLen; omega) rfl, ?_, (Below.refl _ W1).alloc (Nat.le_refl _) _⟩
      exact PartsAt.one ⟨none, 0, rfl, Nat.le_refl _, Nat.zero_le _, fun _ => rfl, fun i x hx => by simp at hx⟩
    case round =>
      obtain ⟨k, pv, pd, hk, rfl, hpd, hpl, hown, hpa, hb⟩ := hrel
      have HPD := Lib.hid hpd
      have HPA := Lib.hid hpa
      have z0 := cell_later hb a0
      have hbs := hb.size
      clear hpd hpa
      by_cases hlt : k < ql
      · obtain ⟨b, off, s, rfl, hsk, ⟨d0, _⟩, ⟨d1, _⟩, ⟨d2, _⟩, ⟨d3, _⟩, ⟨d4, _⟩, ⟨d5, _⟩, ⟨d6, _⟩, ⟨vd, d7, hvd⟩, ⟨vr, d8, hvr⟩⟩ := HQ.out.at_ (i := k) (by rw [HQL.out]; exact hlt)
        obtain ⟨dp, dc, rfl, l1, l2, l3, hdh⟩ := hvd
        obtain ⟨rp, rc, rfl, _, _, _, _⟩ := hvr
        have e0 := cell_later hb d0
        have e1 := cell_later hb d1
        have e2 := cell_later hb d2
        have e3 := cell_later hb d3
        have e4 := cell_later hb d4
        have e5 := cell_later hb d5
        have e6 := cell_later hb d6
        have e7 := cell_later hb d7
        have e8 := cell_later hb d8
        have hslr : SlB wr (fun b => 0 ≤ b ∧ some b ≠ u3.ownBlock) (.slice dp s.data.length dc) s.data := ((SlB.of_cells hdh rfl l1 l2 l3).below hb).weaken fun b _ h => ⟨Nat.zero_le _, fun e => by have := (hown.lt b e.symm).1; omega⟩
        have hE : Hid (zeroPart :: (o.secs.take (k + 1)).map secPart = pd ++ [secPart s]) := Lib.hid (by rw [HPD.out, List.take_add_one, hsk]; simp)
        have hba : Below wr.heap.size wr (wr.alloc (.cells #[.string s.name, .int .i64 s.type, .int .i64 s.flags, .int .i64 s.align, .int .i64 s.ent, .int .i64 s.link, .int .i64 s.size, .slice dp s.data.length dc, .slice rp s.rels.length rc] 89)) := (Below.refl _ wr).alloc (Nat.le_refl _) _
        have hsl : PartsAt (wr.alloc (.cells #[.string s.name, .int .i64 s.type, .int .i64 s.flags, .int .i64 s.align, .int .i64 s.ent, .int .i64 s.link, .int .i64 s.size, .slice dp s.data.length dc, .slice rp s.rels.length rc] 89)) (fun b => 0 ≤ b ∧ some b ≠ u3.ownBlock) [⟨secHead s, s.name, (.slice dp s.data.length dc)⟩] [secPart s] := PartsAt.one (hslr.below hba)
        have HPA2 := Lib.hid (HPA.out.below hba)
        have hown2 := owns_belowN hown hba
        have hha := heap_new wr (.cells #[.string s.name, .int .i64 s.type, .int .i64 s.flags, .int .i64 s.align, .int .i64 s.ent, .int .i64 s.link, .int .i64 s.size, .slice dp s.data.length dc, .slice rp s.rels.length rc] 89)
        have h1c : ∀ u ∈ PV.cells true ⟨secHead s, s.name, (.slice dp s.data.length dc)⟩, u.oneCell' = true := fun u hu => (hsl.oneCell (q := true)) u (by simpa [pvs] using hu)
        have H1C := Lib.hid h1c
        have HSL := Lib.hid hsl
        have hbw : Below W1.heap.size W1 (wr.alloc (.cells #[.string s.name, .int .i64 s.type, .int .i64 s.flags, .int .i64 s.align, .int .i64 s.ent, .int .i64 s.link, .int .i64 s.size, .slice dp s.data.length dc, .slice rp s.rels.length rc] 89)) := hb.trans (hba.mono hbs)
        have hbws := hbw.size
        have hJ : (k : Int) < (ql : Int) := by omega
        have k2 : (0 : Int) ≤ (k : Int) := by omega
        clear hsk d0 d1 d2 d3 d4 d5 d6 d7 d8 hdh l1 l2 l3 hslr hba hown h1c hsl HPA
        go_upto_region 6 with fail
        generalize s.data.length = dn at *
        generalize s.rels.length = rn at *
        generalize wr.alloc (.cells #[.string s.name, .int .i64 s.type, .int .i64 s.flags, .int .i64 s.align, .int .i64 s.ent, .int .i64 s.link, .int .i64 s.size, .slice dp dn dc, .slice rp rn rc] 89) = ws at *
        obtain ⟨s0, s1, s2, s3, s4, s5, s6, s7, s8⟩ := cells9 _ _ _ _ _ _ _ _ _ _ _ _ hha
        clear e0 e1 e2 e3 e4 e5 e6 e7 e8 hha z0 hb
        go_wp2_with (at_builtin; refine wpList_append_own_at _ rfl (.tmp 30) (.tmp 49) 107 rfl W1.heap.size 106 i0 _ 12 120 Tryz.underlying107 HI.out H0.out H1.out H2.out rfl (by decide) _ pd.length _ rfl (hown2.alloc _) ⟨ws.heap.size, 0, none⟩ 1 1 (PV.cells true ⟨secHead s, s.name, (.slice dp dn dc)⟩) rfl rfl (ten_cell_at ws _ _) H1C.out (by unfold maxLen; omega) (by omega) (by simp; omega) ?_)
        intro v1 w4 hown4 hg4 _ hat4
        have HP := Lib.hid (push_part HPA2.out HSL.out hown4 hg4 hat4)
        have hb4 : Below W1.heap.size W1 w4 := (hbw.alloc hbw.size _).grown hg4 (by simp; omega) (fun g hg => (hown2.lt g hg).1)
        clear hown4 hg4 hat4 hown2 HPA2 HSL hbw
        go_wp2_with fail
        go_roundw
        case rel => exact ⟨k + 1, _, _, hlt, by go_num, hE.out.symm, by simp; omega, HP.out.1, HP.out.2, hb4⟩
        case measure => simp [intOf]; omega
      · obtain rfl : k = ql := by omega
        have hJ : ¬ (k : Int) < (k : Int) := by omega
        have hE : Hid (pd = zeroPart :: o.secs.map secPart) := Lib.hid (by rw [HPD.out, List.take_of_length_le (by rw [HQL.out]; exact Nat.le_refl _)])
        go_wp2_with fail
        go_meet
        exact ⟨pv, pd, hE.out, hown, HPA.out, hb⟩
  case rest =>
    obtain ⟨pv, pd, hpd, hown, hpa, hb⟩ := hcut
    generalize wc = wl at *
    have hml : pd.length = ql + 1 := by rw [hpd]; simp; exact HQL.out
    have z0 := cell_later hb a0
    have z1 := cell_later hb a1
    have z2 := cell_later hb a2
    have z3 := cell_later hb a3
    have z4 := cell_later hb a4
    have hbs := hb.size
    have HPD := Lib.hid hpd
    have HPA := Lib.hid hpa
    have HR0 : Hid (∀ W, Below W1.heap.size W1 W → Calls Tryz.prog 34 #[objV (.slice p0 ql c0) v1 v2 sg v4, .int .i64 0] W fun e w' => ∃ p c, e = .returned (.slice p (relPs 0 o.secs ql).length c) ∧ Below W.heap.size W w') := Lib.hid fun W hW => (HR.out 0 W hW).mono fun e w' ⟨v, pv, he, ho, _, hbb⟩ => by
      obtain ⟨p, c, rfl, _⟩ := slice_form ho
      exact ⟨p, c, he, hbb⟩
    have HG0 : Hid (∀ W, Below W1.heap.size W1 W → Calls Tryz.prog 35 #[objV (.slice p0 ql c0) v1 v2 sg v4, .int .i64 0] W fun e w' => ∃ p c, e = .returned (.slice p (groupPs 0 o.groups sg o.sig).length c) ∧ Below W.heap.size W w') := Lib.hid fun W hW => (HG.out 0 W hW).mono fun e w' ⟨v, pv, he, ho, _, hbb⟩ => by
      obtain ⟨p, c, rfl, _⟩ := slice_form ho
      exact ⟨p, c, he, hbb⟩
    clear hpd hpa a0 a1 a2 a3 a4
    have hat2 : symNo o = pd.length + (relPs 0 o.secs ql).length + (groupPs 0 o.groups sg o.sig).length := by rw [HAT.out, hml]; omega
    obtain ⟨pl, cl, rfl, _, _, _⟩ := slice_form hown
    generalize hn1 : (relPs 0 o.secs ql).length = n1 at *
    generalize hn2 : (groupPs 0 o.groups sg o.sig).length = n2 at *
    generalize hsa : symNo o = sa at *
    generalize hm : pd.length = m at *
    have HM := Lib.hid hm
    have HML := Lib.hid hml
    have HAT2 := Lib.hid hat2
    have kk1 : IntKind.i64.wrap ((m : Int) + (n1 : Int)) = (m : Int) + (n1 : Int) := IntWalk.i64_in _ (by omega)
    have kk2 : IntKind.i64.wrap ((m : Int) + (n1 : Int) + (n2 : Int)) = (m : Int) + (n1 : Int) + (n2 : Int) := IntWalk.i64_in _ (by omega)
    clear hm hml hat2 hn1 hn2 HAT
    go_upto_region 7 with fail
    go_cut [6] (fun s6 wx => s6 = .int .i64 (sa : Int) ∧ Below wl.heap.size wl wx)
    case first =>
      go_region_held3 (fun W => W.cell? ⟨w.heap.size, 0, none⟩ = some (.slice p0 ql c0) ∧ W.cell? ⟨w.heap.size, 1, none⟩ = some v1 ∧ W.cell? ⟨w.heap.size, 2, none⟩ = some v2 ∧ W.cell? ⟨w.heap.size, 3, none⟩ = some (.bool sg) ∧ W.cell? ⟨w.heap.size, 4, none⟩ = some v4) (first | go_keep | exact ⟨z0, z1, z2, z3, z4⟩ | exact ⟨e0, e1, e2, e3, e4⟩ | exact ⟨g0, g1, g2, g3, g4⟩ | fail)
        ((first
          | (go_at_call 34
             refine (HR0.out _ (by exact hb.drew)).mono ?_
             rintro e w2 ⟨pr, cr, rfl, hbb2⟩
             have e0 : w2.cell? ⟨w.heap.size, 0, none⟩ = some (.slice p0 ql c0) := cell_later hbb2 z0
             have e1 : w2.cell? ⟨w.heap.size, 1, none⟩ = some v1 := cell_later hbb2 z1
             have e2 : w2.cell? ⟨w.heap.size, 2, none⟩ = some v2 := cell_later hbb2 z2
             have e3 : w2.cell? ⟨w.heap.size, 3, none⟩ = some (.bool sg) := cell_later hbb2 z3
             have e4 : w2.cell? ⟨w.heap.size, 4, none⟩ = some v4 := cell_later hbb2 z4
             have hb2 : Below W1.heap.size W1 w2 := hb.drew.trans (hbb2.mono (by exact hbs))
             have hbl2 : Below wl.heap.size wl w2 := (Below.refl _ wl).drew.trans hbb2)
          | (go_at_call 35
             refine (HG0.out _ (by exact hb2)).mono ?_
             rintro e w3 ⟨pg, cg, rfl, hbb3⟩
             have g0 : w3.cell? ⟨w.heap.size, 0, none⟩ = some (.slice p0 ql c0) := cell_later hbb3 e0
             have g1 : w3.cell? ⟨w.heap.size, 1, none⟩ = some v1 := cell_later hbb3 e1
             have g2 : w3.cell? ⟨w.heap.size, 2, none⟩ = some v2 := cell_later hbb3 e2
             have g3 : w3.cell? ⟨w.heap.size, 3, none⟩ = some (.bool sg) := cell_later hbb3 e3
             have g4 : w3.cell? ⟨w.heap.size, 4, none⟩ = some v4 := cell_later hbb3 e4
             have hbl3 : Below wl.heap.size wl w3 := hbl2.trans (hbb3.mono hbl2.size))
          | fail))
      go_wp2_with fail
      go_meet
      exact ⟨by rw [HAT2.out]; push_cast; rfl, hbl3⟩
    case rest =>
      obtain ⟨rfl, hbl⟩ := hcut
      have hbb0 : Below W1.heap.size W1 wc := hb.trans (hbl.mono hbs)
      have hbs0 := hbb0.size
      have hown0 := owns_belowN hown hbl
      have HPA0 := Lib.hid (HPA.out.below hbl)
      have y0 := cell_later hbl z0
      have y1 := cell_later hbl z1
      have y2 := cell_later hbl z2
      have y3 := cell_later hbl z3
      have y4 := cell_later hbl z4
      have hnr := relPs_len (sa : Int) o.secs ql
      have hm41 : m ≤ 41 := by have := HML.out; omega
      have hng := groupPs_len (sa : Int) o.groups sg o.sig
      have hgl := HL.out.ngrp
      have HPO2 : Hid (partsOf o = pd ++ relPs sa o.secs ql ++ groupPs sa o.groups sg o.sig ++ symPs sa o.syms) := Lib.hid (by rw [HPO.out, HPD.out])
      clear hbl hb HR0 HG0 kk1 kk2 z0 z1 z2 z3 z4 HPA hown HPO HPD
      have HRR := Lib.hid (HR.out (sa : Int))
      have HGG := Lib.hid (HG.out (sa : Int))
      clear HR HG
      generalize relPs (sa : Int) o.secs ql = rps at *
      generalize groupPs (sa : Int) o.groups sg o.sig = gps at *
      have hys : (symPs (sa : Int) o.syms).length = 2 := rfl
      have HYS := Lib.hid hys
      have HYY := Lib.hid (HY.out (sa : Int) ⟨by omega, by omega⟩)
      clear hys HY
      generalize symPs (sa : Int) o.syms = yps at *
      generalize wc = ww0 at *
      go_wp2_with fail
      refine (HRR.out _ hbb0).mono ?_
      rintro e wq ⟨vq, pvqa, rfl, howq, hpaq, hbbq⟩
      have hown1 := owns_belowN hown0 hbbq
      have hbq : Below W1.heap.size W1 wq := hbb0.trans (hbbq.mono hbs0)
      have hltq := fun g hg => (hown0.lt g hg).2
      have hocq := hpaq.oneCell (q := true)
      have HOC := Lib.hid hocq
      have x0 := cell_later hbbq y0
      have x1 := cell_later hbbq y1
      have x2 := cell_later hbbq y2
      have x3 := cell_later hbbq y3
      have x4 := cell_later hbbq y4
      clear hocq y0 y1 y2 y3 y4 hown0 hbb0
      go_wp2_with (at_builtin; refine wpList_append_rows _ rfl (.tmp 61) (.tmp 64) 107 rfl W1.heap.size 106 i0 _ 12 120 Tryz.underlying107 HI.out H0.out H1.out H2.out rfl (by decide) _ m _ rfl hown1 _ rps.length _ rfl _ howq HOC.out (by unfold maxLen; omega) (by omega) hbq.size ?_)
      intro vA wA hownA hgA hatA
      have HP := Lib.hid (join_parts HPA0.out hbbq hpaq hltq hownA (by rw [HM.out]) hgA hatA)
      have hbA : Below W1.heap.size W1 wA := hbq.grown hgA hbq.size (fun g hg => (hown1.lt g hg).1)
      have q0 := hgA.cell x0 (apart_own hown1 hgs2)
      have q1 := hgA.cell x1 (apart_own hown1 hgs2)
      have q2 := hgA.cell x2 (apart_own hown1 hgs2)
      have q3 := hgA.cell x3 (apart_own hown1 hgs2)
      have q4 := hgA.cell x4 (apart_own hown1 hgs2)
      clear x0 x1 x2 x3 x4 howq hpaq hbbq hownA hgA hatA hown1 hltq HPA0 HOC hbq
      have hbsA := hbA.size
      have hmp : pd.length ≤ 41 := by have := HM.out; omega
      go_wp2_with fail
      refine (HGG.out _ hbA).mono ?_
      rintro e wq ⟨vq, pvqb, rfl, howq, hpaq, hbbq⟩
      have hown1 := owns_belowN HP.out.1 hbbq
      have hbq : Below W1.heap.size W1 wq := hbA.trans (hbbq.mono hbsA)
      have hltq := fun g hg => (HP.out.1.lt g hg).2
      have hocq := hpaq.oneCell (q := true)
      have HOC := Lib.hid hocq
      have y0 := cell_later hbbq q0
      have y1 := cell_later hbbq q1
      have y2 := cell_later hbbq q2
      have y3 := cell_later hbbq q3
      have y4 := cell_later hbbq q4
      clear hocq q0 q1 q2 q3 q4 hbA
      go_wp2_with (at_builtin; refine wpList_append_rows _ rfl (.tmp 66) (.tmp 69) 107 rfl W1.heap.size 106 i0 _ 12 120 Tryz.underlying107 HI.out H0.out H1.out H2.out rfl (by decide) _ _ _ rfl hown1 _ gps.length _ rfl _ howq HOC.out (by simp; unfold maxLen; omega) (by simp; omega) hbq.size ?_)
      intro vB wB hownA hgA hatA
      have HP2 := Lib.hid (join_parts HP.out.2 hbbq hpaq hltq hownA (by simp) hgA hatA)
      have hbB : Below W1.heap.size W1 wB := hbq.grown hgA hbq.size (fun g hg => (hown1.lt g hg).1)
      have hbsB := hbB.size
      have q0 := hgA.cell y0 (apart_own hown1 hgs2)
      have q1 := hgA.cell y1 (apart_own hown1 hgs2)
      have q2 := hgA.cell y2 (apart_own hown1 hgs2)
      have q3 := hgA.cell y3 (apart_own hown1 hgs2)
      have q4 := hgA.cell y4 (apart_own hown1 hgs2)
      clear y0 y1 y2 y3 y4 howq hpaq hbbq hownA hgA hatA hown1 hltq HP HOC hbq
      go_wp2_with fail
      refine (HYY.out _ hbB).mono ?_
      rintro e wq ⟨vq, pvqc, rfl, howq, hpaq, hbbq⟩
      have hown1 := owns_belowN HP2.out.1 hbbq
      have hbq : Below W1.heap.size W1 wq := hbB.trans (hbbq.mono hbsB)
      have hltq := fun g hg => (HP2.out.1.lt g hg).2
      have hocq := hpaq.oneCell (q := true)
      have HOC := Lib.hid hocq
      clear hocq q0 q1 q2 q3 q4 hbB
      rw [HYS.out] at howq
      go_wp2_with (at_builtin; refine wpList_append_rows _ rfl (.tmp 71) (.tmp 74) 107 rfl W1.heap.size 106 i0 _ 12 120 Tryz.underlying107 HI.out H0.out H1.out H2.out rfl (by decide) _ _ _ rfl hown1 _ 2 _ rfl _ howq HOC.out (by simp; unfold maxLen; omega) (by simp; omega) hbq.size ?_)
      intro vC wC hownA hgA hatA
      rw [← List.append_assoc, ← Nat.add_assoc] at hownA
      have hnn : pd.length + rps.length + gps.length + 2 = (pd ++ rps ++ gps).length + yps.length := by rw [List.length_append, List.length_append, HYS.out]
      have HP3 := Lib.hid (join_parts HP2.out.2 hbbq hpaq hltq hownA hnn hgA hatA)
      have hbC : Below W1.heap.size W1 wC := hbq.grown hgA hbq.size (fun g hg => (hown1.lt g hg).1)
      clear howq hpaq hbbq hownA hgA hatA hown1 hltq HP2 HOC hbq
      have HP4 : Hid (wC.ownsRow W1.heap.size 106 12 vC (partsOf o).length (pvs true (pv ++ pvqa ++ pvqb ++ pvqc)) ∧ PartsAt wC (fun b => 0 ≤ b ∧ some b ≠ vC.ownBlock) (pv ++ pvqa ++ pvqb ++ pvqc) (partsOf o)) := Lib.hid (by rw [HPO2.out]; exact HP3.out)
      have hLn := partsOf_length o
      rw [hsa] at hLn
      have HMB := Lib.hid (partsOf_names HL.out)
      generalize pv ++ pvqa ++ pvqb ++ pvqc = pvp at *
      generalize hnp : (partsOf o).length = np at *
      have HNP := Lib.hid hnp
      have hnp2 : np ≤ 124 := by omega
      have hnp3 : 2 ≤ np := by omega
      have hrow := HP4.out.1
      obtain ⟨pC, cC, rfl, _, _, _⟩ := slice_form hrow
      have HRW := Lib.hid HP4.out.1
      have HPT := Lib.hid HP4.out.2
      have HWC : Hid (Below w.heap.size w wC) := Lib.hid (HB1.out.trans (hbC.mono (by omega)))
      have hwcs := hbC.size
      clear hrow HP4 hnp hLn HP3 hnn HRR HGG HYY HM HML HPO2 HAT2 hbC HMB
      have hnq : headNames (partsOf o) = ((partsOf o).map PartD.name ++ [nShstr]).map lst := by unfold headNames; simp
      have hnl : ((partsOf o).map PartD.name).length = np := by rw [List.length_map, HNP.out]
      have hnk : ∀ (k : Nat) (y : PartD), (partsOf o)[k]? = some y → ((partsOf o).map PartD.name)[k]? = some y.name := fun k y h => by rw [List.getElem?_map, h]; rfl
      have hnmb : ∀ x ∈ (partsOf o).map PartD.name ++ [nShstr], mayB (lst x) = true := fun x hx => by
        have := headNames_ok HL.out (lst x) (by rw [hnq]; exact List.mem_map.2 ⟨x, hx, rfl⟩)
        exact this
      generalize (partsOf o).map PartD.name = nms at *
      have HNQ := Lib.hid hnq
      have HNL := Lib.hid hnl
      have HNK := Lib.hid hnk
      have HNMB := Lib.hid hnmb
      clear hnq hnl hnk hnmb
      obtain ⟨j0, hj, hj0, hj1, hj2⟩ := info_parts Tryz.infoStr
      have JI := Lib.hid hj
      have J0 := Lib.hid hj0
      have J1 := Lib.hid hj1
      have J2 := Lib.hid hj2
      clear hj hj0 hj1 hj2
      go_wp2_with fail
      go_loopw [7, 8] (fun r7 r8 wr => ∃ (k : Nat), k ≤ np ∧ r8 = .int .i64 (k : Int) ∧ wr.ownsRow wC.heap.size 9 1 r7 k ((nms.take k).map Value.string) ∧ Below wC.heap.size wC wr) (fun _ r8 _ => np - (intOf r8).toNat)
      case atStart => exact ⟨0, Nat.zero_le _, rfl, World.ownsRow_nil _ _ _ _, Below.refl _ _⟩
      case round =>
        obtain ⟨k, hk, rfl, hown, hb⟩ := hrel
        by_cases hlt : k < np
        · obtain ⟨g, p, y, rfl, hyk, hph, hpn, hps, hcl⟩ := part_at HRW.out HPT.out HNP.out hlt
          have d10 : wC.cell? ⟨g, k * 12 + 10, none⟩ = some (.string y.name) := (hcl 10 (by omega)).trans (by rw [← hpn]; rfl)
          have e10 := cell_later hb d10
          have hst : nms.take (k + 1) = nms.take k ++ [y.name] := by rw [List.take_add_one, HNK.out k y hyk]; rfl
          have HST := Lib.hid hst
          have hJ : (k : Int) < (np : Int) := by omega
          have k2 : (0 : Int) ≤ (k : Int) := by omega
          have hbs := hb.size
          clear hyk hph hpn hps hcl d10 hst
          go_wp2_with (at_builtin; refine wpList_append_own _ rfl (.tmp 82) (.tmp 88) 109 rfl wC.heap.size 9 j0 _ 1 16 Tryz.underlying109 JI.out J0.out J1.out J2.out rfl (by decide) _ k _ rfl (hown.alloc _) ⟨wr.heap.size, 0, none⟩ 1 1 [.string y.name] rfl rfl (cell_one_new wr _ _) (one_str _) (by unfold maxLen; omega) (by omega) (by simp; omega) ?_)
          intro v3 w4 hown4 hg4 _
          have hb4 : Below wC.heap.size wC w4 := (hb.alloc hb.size _).grown hg4 (by simp; omega) (fun g hg => (hown.lt g hg).1)
          have hown5 : w4.ownsRow wC.heap.size 9 1 v3 (k + 1) ((nms.take (k + 1)).map Value.string) := by
            rw [HST.out, List.map_append, List.map_take]
            exact hown4
          clear hown hg4 hb hown4
          go_wp2_with fail
          go_roundw
          case rel => exact ⟨k + 1, hlt, by go_num, hown5, hb4⟩
          case measure => simp [intOf]; omega
        · obtain rfl : k = np := by omega
          have hJ : ¬ (k : Int) < (k : Int) := by omega
          have hE : Hid (nms.take k = nms) := Lib.hid (List.take_of_length_le (by rw [HNL.out]; exact Nat.le_refl _))
          rw [hE.out] at hown
          have hbs := hb.size
          clear hE
          go_wp2_with (at_builtin; refine wpList_append_own _ rfl (.tmp 90) (.tmp 91) 109 rfl wC.heap.size 9 j0 _ 1 16 Tryz.underlying109 JI.out J0.out J1.out J2.out rfl (by decide) _ k _ rfl (hown.alloc _) ⟨wr.heap.size, 0, none⟩ 1 1 [.string nShstr] rfl rfl (cell_one_new wr _ _) (one_str _) (by unfold maxLen; omega) (by omega) (by simp; omega) ?_)
          intro v3 w4 hown4 hg4 _
          have hb4 : Below wC.heap.size wC w4 := (hb.alloc hb.size _).grown hg4 (by simp; omega) (fun g hg => (hown.lt g hg).1)
          rw [str_snoc] at hown4
          obtain ⟨p5, c5, rfl, n1, n2, n3, hns⟩ := HasS.of_owns hown4
          have HMK := Lib.hid (refMake_wide p5 (k + 1) c5 _ _ hns n3 (by omega) HNMB.out)
          rw [← HNQ.out] at HMK
          have hb4s := hb4.size
          clear hown hg4 hb hns n1 n2 n3 hown4
          go_wp2_with fail
          refine HMK.out.mono ?_
          rintro e wm ⟨t1, t2, rfl, ht, hpl, hbm⟩
          have hbC2 : Below wC.heap.size wC wm := hb4.trans (hbm.mono hb4s)
          have hbC2s := hbC2.size
          have hrow5 := owns_belowN HRW.out hbC2
          have HPT5 := Lib.hid (HPT.out.below hbC2)
          have hpll : (placesOf (headNames (partsOf o))).length = k + 1 := by rw [placesOf_length, headNames_length, HNP.out]
          rw [hpll] at hpl
          have hltl := fun g hg => (hrow5.lt g hg)
          have hltC := fun g hg => (HRW.out.lt g hg).2
          obtain ⟨p9, c9, rfl, _, _, _, _⟩ := Has.of_owns ht
          have hsl : PartsAt wm (fun b => 0 ≤ b ∧ some b ≠ (Value.slice pC k cC).ownBlock) [⟨tabHead, nNone, (.slice p9 (tabOf (headNames (partsOf o))).tb.length c9)⟩] [lastPart (headNames (partsOf o))] := PartsAt.one (SlB.of_owns ht fun b hb => by
            have h1 := (ht.lt b hb).1
            exact ⟨by omega, fun e => by have := hltC b e.symm; omega⟩)
          have h1c : ∀ u ∈ PV.cells true ⟨tabHead, nNone, (.slice p9 (tabOf (headNames (partsOf o))).tb.length c9)⟩, u.oneCell' = true := fun u hu => (hsl.oneCell (q := true)) u (by simpa [pvs] using hu)
          have H1C := Lib.hid h1c
          have HSL := Lib.hid hsl
          have HT := Lib.hid ht
          have HBM : Hid (Below w.heap.size w wm) := Lib.hid (HWC.out.trans (hbC2.mono (by have := HWC.out.size; omega)))
          have HNSL : Hid ((tabOf (headNames (partsOf o))).tb.length ≤ 330001) := Lib.hid (tab_small _ (by rw [headNames_length, HNP.out]; omega) (headNames_ok HL.out))
          clear hsl h1c ht hpll
          generalize hns9 : headNames (partsOf o) = ns at *
          generalize (tabOf ns).tb.length = tl at *
          go_wp2_with (at_builtin; refine wpList_append_own_at _ rfl (.tmp 98) (.tmp 102) 107 rfl W1.heap.size 106 i0 _ 12 120 Tryz.underlying107 HI.out H0.out H1.out H2.out rfl (by decide) _ k _ rfl (hrow5.alloc _) ⟨wm.heap.size, 0, none⟩ 1 1 (PV.cells true ⟨tabHead, nNone, (.slice p9 tl c9)⟩) rfl rfl (ten_cell_at wm _ _) H1C.out (by unfold maxLen; omega) (by omega) (by simp; omega) ?_)
          intro vD wD hown6 hg6 _ hat6
          have HP := Lib.hid (push_part HPT5.out HSL.out (by rw [HNP.out]; exact hown6) hg6 hat6)
          have hplD : wD.ownsRow w4.heap.size 3 1 t2 (k + 1) (natV (placesOf ns)) := (hpl.alloc _).kept hg6 (own_ne hpl fun b hb => by have := hltC b hb; omega)
          have hbD : Below W1.heap.size wm wD := ((Below.refl _ wm).mono (by omega) |>.alloc (by omega) _).grown hg6 (by simp; omega) (fun g hg => (hrow5.lt g hg).1)
          have HBD : Hid (Below w.heap.size w wD) := Lib.hid (HBM.out.trans (hbD.mono (by omega)))
          clear hown6 hg6 hat6 hpl hbD hrow5 hltl hltC HSL HPT5
          have hal : allOf o = partsOf o ++ [lastPart ns] := by unfold allOf; rw [hns9]
          rw [← hal] at HP
          have hall : (allOf o).length = k + 1 := by rw [hal, List.length_append, HNP.out]; rfl
          rw [hall] at HP
          have HRD := Lib.hid HP.out.1
          have HPD9 := Lib.hid HP.out.2
          have hrd := HP.out.1
          have HALL := Lib.hid hall
          have hbe := bytesOf_eq o
          rw [hns9, hall] at hbe
          have HBE := Lib.hid hbe
          have hmy := fun i p h => heads_may HL.out i p h
          rw [hns9] at hmy
          have hple := fun i p h => places_le HL.out i p h
          rw [hns9] at hple
          have HMY := Lib.hid hmy
          have HPLE := Lib.hid hple
          have HBT := Lib.hid fun i => body_take HL.out i
          have hpln : (placesOf ns).length = k + 1 := by have := hplD.1; simp [natV] at this; simpa using this
          have HPLN := Lib.hid hpln
          obtain ⟨pD, cD, rfl, _, _, _⟩ := slice_form hrd
          clear HP hrd hal hall hbe hmy hple hpln HMK HNQ HNL HNK HNMB HRW HPT HNP HWC HBM HT HNSL HYS H1C
          generalize allOf o = al at *
          generalize placesOf ns = pls at *
          obtain ⟨i1, gi, gz0, gz1, gz2⟩ := info_parts Tryz.infoU8
          have GI := Lib.hid gi
          have G0 := Lib.hid gz0
          have G1 := Lib.hid gz1
          have G2 := Lib.hid gz2
          clear gi gz0 gz1 gz2
          go_wp2_with fail
          go_loopw [11, 12, 13] (fun r11 r12 r13 wr => ∃ (i nb nh : Nat), i ≤ k + 1 ∧ r13 = .int .i64 (i : Int) ∧ nb = (bodyOf (al.take i)).length ∧ nh = 64 * i ∧ wr.ownsRow wD.heap.size 5 1 r11 nb ((bodyOf (al.take i)).map u8v) ∧ wr.ownsRow wD.heap.size 5 1 r12 nh ((headsBy pls al i).map u8v) ∧ (∀ b, r11.ownBlock = some b → r12.ownBlock ≠ some b) ∧ Below wD.heap.size wD wr) (fun _ _ r13 _ => k + 1 - (intOf r13).toNat)
          case atStart => exact ⟨0, 0, 0, Nat.zero_le _, rfl, rfl, rfl, World.ownsRow_nil _ _ _ _, World.ownsRow_nil _ _ _ _, (fun b h => by cases h), Below.refl _ _⟩
          case round =>
            obtain ⟨i, nb, nh, hi, rfl, hnb, hnh, hob, hoh, hne, hb⟩ := hrel
            have HNB := Lib.hid hnb
            have HNH := Lib.hid hnh
            have HNE := Lib.hid hne
            have hnbl : nb ≤ 50000000 := by rw [hnb]; exact HBT.out i
            clear hnb hnh hne
            by_cases hlt : i < k + 1
            · obtain ⟨g, p, y, rfl, hyk, hph, hpn, hps, hcl⟩ := part_at HRD.out HPD9.out HALL.out hlt
              obtain ⟨pb, cb, hpv, b1, b2, b3, b4⟩ := hps.has
              have hc0 : wD.cell? ⟨g, i * 12, none⟩ = some (.int .i64 y.h.a) := by have := hcl 0 (by omega); rw [Nat.add_zero] at this; rw [this, ← hph]; rfl
              have hc1 : wD.cell? ⟨g, i * 12 + 1, none⟩ = some (.int .i64 y.h.b) := by rw [hcl 1 (by omega), ← hph]; rfl
              have hc2 : wD.cell? ⟨g, i * 12 + 2, none⟩ = some (.int .i64 y.h.c) := by rw [hcl 2 (by omega), ← hph]; rfl
              have hc3 : wD.cell? ⟨g, i * 12 + 3, none⟩ = some (.int .i64 y.h.d) := by rw [hcl 3 (by omega), ← hph]; rfl
              have hc4 : wD.cell? ⟨g, i * 12 + 4, none⟩ = some (.int .i64 y.h.e) := by rw [hcl 4 (by omega), ← hph]; rfl
              have hc5 : wD.cell? ⟨g, i * 12 + 5, none⟩ = some (.int .i64 y.h.f) := by rw [hcl 5 (by omega), ← hph]; rfl
              have hc6 : wD.cell? ⟨g, i * 12 + 6, none⟩ = some (.int .i64 y.h.g) := by rw [hcl 6 (by omega), ← hph]; rfl
              have hc7 : wD.cell? ⟨g, i * 12 + 7, none⟩ = some (.int .i64 y.h.h) := by rw [hcl 7 (by omega), ← hph]; rfl
              have hc8 : wD.cell? ⟨g, i * 12 + 8, none⟩ = some (.int .i64 y.h.i) := by rw [hcl 8 (by omega), ← hph]; rfl
              have hc9 : wD.cell? ⟨g, i * 12 + 9, none⟩ = some (.int .i64 y.h.j) := by rw [hcl 9 (by omega), ← hph]; rfl
              have hc11 : wD.cell? ⟨g, i * 12 + 11, none⟩ = some (.slice pb y.b.length cb) := by rw [hcl 11 (by omega), ← hpv]; rfl
              obtain ⟨pB, cB, rfl, _, _, _⟩ := slice_form hob
              have e0 := cell_later hb hc0
              have e1 := cell_later hb hc1
              have e2 := cell_later hb hc2
              have e3 := cell_later hb hc3
              have e4 := cell_later hb hc4
              have e5 := cell_later hb hc5
              have e6 := cell_later hb hc6
              have e7 := cell_later hb hc7
              have e8 := cell_later hb hc8
              have e9 := cell_later hb hc9
              have e11 := cell_later hb hc11
              clear hc0 hc1 hc2 hc3 hc4 hc5 hc6 hc7 hc8 hc9 hc11 hcl hph hpn hps hpv
              obtain ⟨g2, c2, cur2, rfl, _, _, _, hgc, hgm, _, _⟩ := owns_form hplD (by omega)
              have hplx := owns_belowN hplD hb
              obtain ⟨q, hq⟩ : ∃ q, pls[i]? = some q := ⟨_, List.getElem?_eq_getElem (by rw [HPLN.out]; exact hlt)⟩
              have hpc : wr.cell? ⟨g2, i, none⟩ = some (.int .i64 (q : Int)) := by
                rw [hplx.cellAt i (by omega)]
                simp only [natV, List.getElem?_map, hq]
                rfl
              have hht : headAt pls i (bodyOf (al.take i)).length y = ⟨(q : Int), y.h.b, y.h.c, y.h.d, if i = 0 then y.h.e else 64 + (nb : Int), if i = 0 ∨ y.h.b = 8 then y.h.f else (y.b.length : Int), y.h.g, y.h.h, y.h.i, y.h.j⟩ := by
                unfold headAt
                rw [← HNB.out, List.getD_eq_getElem?_getD, hq]
                rfl
              have hmi := HMY.out i y hyk
              have hsu := headsBy_succ (pl := pls) hyk
              have hbsu : bodyOf (al.take (i + 1)) = bodyOf (al.take i) ++ y.b := by rw [List.take_add_one, hyk]; exact bodyOf_snoc _ _
              rw [hht] at hmi hsu
              generalize hE4 : (if i = 0 then y.h.e else 64 + (nb : Int)) = E4 at *
              generalize hE5 : (if i = 0 ∨ y.h.b = 8 then y.h.f else (y.b.length : Int)) = E5 at *
              have HC := Lib.hid fun W => headBytes_yes ⟨(q : Int), y.h.b, y.h.c, y.h.d, E4, E5, y.h.g, y.h.h, y.h.i, y.h.j⟩ W hmi
              have hsl64 := sectB_length ⟨(q : Int), y.h.b, y.h.c, y.h.d, E4, E5, y.h.g, y.h.h, y.h.i, y.h.j⟩
              have hybl : (y.b).length ≤ 50000000 := by
                have := HBT.out (i + 1)
                rw [hbsu, List.length_append] at this
                omega
              generalize sectB ⟨(q : Int), y.h.b, y.h.c, y.h.d, E4, E5, y.h.g, y.h.h, y.h.i, y.h.j⟩ = sb at *
              have HSU := Lib.hid hsu
              have HBSU := Lib.hid hbsu
              have HSB := Lib.hid hsl64
              have HE4 := Lib.hid hE4
              have HE5 := Lib.hid hE5
              have HYB := Lib.hid b4
              have HYN := Lib.hid b3
              have hJ : (i : Int) < (k : Int) + 1 := by omega
              have k2 : (0 : Int) ≤ (i : Int) := by omega
              have hba : Below wr.heap.size wr (wr.alloc (.cells #[.int .i64 y.h.a, .int .i64 y.h.b, .int .i64 y.h.c, .int .i64 y.h.d, .int .i64 y.h.e, .int .i64 y.h.f, .int .i64 y.h.g, .int .i64 y.h.h, .int .i64 y.h.i, .int .i64 y.h.j] 104)) := (Below.refl _ wr).alloc (Nat.le_refl _) _
              have hha := heap_new wr (.cells #[.int .i64 y.h.a, .int .i64 y.h.b, .int .i64 y.h.c, .int .i64 y.h.d, .int .i64 y.h.e, .int .i64 y.h.f, .int .i64 y.h.g, .int .i64 y.h.h, .int .i64 y.h.i, .int .i64 y.h.j] 104)
              have hpa := cell_later hba hpc
              have f11 := cell_later hba e11
              generalize hybn : y.b.length = bn at *
              have HYBN := Lib.hid hybn
              clear hplx hq hht hmi hsu hbsu hsl64 hE4 hE5 b3 b4 hpc hyk hybn
              go_upto_region 25 with fail
              generalize wr.alloc (.cells #[.int .i64 y.h.a, .int .i64 y.h.b, .int .i64 y.h.c, .int .i64 y.h.d, .int .i64 y.h.e, .int .i64 y.h.f, .int .i64 y.h.g, .int .i64 y.h.h, .int .i64 y.h.i, .int .i64 y.h.j] 104) = wh at *
              obtain ⟨x0, x1, x2, x3, x4, x5, x6, x7, x8, x9⟩ := cells_ten _ _ _ _ _ _ _ _ _ _ _ _ _ hha
              have hfz := frozen_of_row _ _ 0 _ _ hha
              have hst := heap_setCell_same wh wr.heap.size 0 _ _ (.int .i64 (q : Int)) hha
              have hbst : Below wr.heap.size wr (wh.setCell ⟨wr.heap.size, 0, none⟩ (.int .i64 (q : Int))) := hba.setCell (Nat.le_refl _) _
              have g11 := cell_later hbst e11
              have hst2 : (wh.setCell ⟨wr.heap.size, 0, none⟩ (.int .i64 (q : Int))).heap[wr.heap.size]? = some (.cells #[.int .i64 (q : Int), .int .i64 y.h.b, .int .i64 y.h.c, .int .i64 y.h.d, .int .i64 y.h.e, .int .i64 y.h.f, .int .i64 y.h.g, .int .i64 y.h.h, .int .i64 y.h.i, .int .i64 y.h.j] 104 (0, 0)) := hst
              clear e0 e1 e2 e3 e4 e5 e6 e7 e8 e9 hst hba f11
              go_upto_region 26 with fail
              generalize wh.setCell ⟨wr.heap.size, 0, none⟩ (.int .i64 (q : Int)) = wi at *
              clear hha x0 x1 x2 x3 x4 x5 x6 x7 x8 x9 hfz hpa
              have kw : IntKind.i64.wrap (64 + (nb : Int)) = 64 + (nb : Int) := IntWalk.i64_in _ (by omega)
              have hfz4 := frozen_of_row _ _ 4 _ _ hst2
              have hv4 := (cells_ten _ _ _ _ _ _ _ _ _ _ _ _ _ hst2).2.2.2.2.1
              go_upto_if 121 with fail
              go_cut [] (fun wx => Below wr.heap.size wr wx ∧ wx.heap[wr.heap.size]? = some (.cells #[.int .i64 (q : Int), .int .i64 y.h.b, .int .i64 y.h.c, .int .i64 y.h.d, .int .i64 E4, .int .i64 y.h.f, .int .i64 y.h.g, .int .i64 y.h.h, .int .i64 y.h.i, .int .i64 y.h.j] 104 (0, 0)))
              case first =>
                by_cases hp0 : 0 < i
                · have hI : (0 : Int) < (i : Int) := by omega
                  have hE : Hid (E4 = 64 + (nb : Int)) := Lib.hid (by rw [← HE4.out, if_neg (by omega)])
                  have hst := heap_setCell_same wi wr.heap.size 4 _ _ (.int .i64 (64 + (nb : Int))) hst2
                  have hbs4 : Below wr.heap.size wr (wi.setCell ⟨wr.heap.size, 4, none⟩ (.int .i64 (64 + (nb : Int)))) := hbst.setCell (Nat.le_refl _) _
                  have HST := Lib.hid hst
                  have HBS := Lib.hid hbs4
                  clear hp0 hst hbs4
                  go_wp2_with fail
                  go_meet
                  rw [hE.out]
                  exact ⟨HBS.out, HST.out⟩
                · have hI : ¬ (0 : Int) < (i : Int) := by omega
                  have hE : Hid (E4 = y.h.e) := Lib.hid (by rw [← HE4.out, if_pos (by omega)])
                  clear hp0
                  go_wp2_with fail
                  go_meet
                  rw [hE.out]
                  exact ⟨hbst, hst2⟩
              case rest =>
                obtain ⟨hbx, hhx⟩ := hcut
                clear hbst hst2 g11 hfz4 hv4
                generalize wc = wx at *
                have m11 := cell_later hbx e11
                obtain ⟨_, n1, _, _, _, _, _, _, _, _⟩ := cells_ten _ _ _ _ _ _ _ _ _ _ _ _ _ hhx
                have hfz5 := frozen_of_row _ _ 5 _ _ hhx
                have n5 := (cells_ten _ _ _ _ _ _ _ _ _ _ _ _ _ hhx).2.2.2.2.2.1
                generalize hcd : (decide (0 < i) && !decide (y.h.b = 8)) = cnd at *
                have hE5 := cnd_yes hcd HE5.out
                have HE5b := Lib.hid hE5
                have HCD := Lib.hid hcd
                clear hE5 hcd HE5
                go_upto_region 28 with fail
                go_cut [132] (fun s132 wz => s132 = .bool cnd ∧ wx = wz)
                case first =>
                  by_cases hp0 : 0 < i
                  · have hI : (0 : Int) < (i : Int) := by omega
                    have hd1 : decide ((0 : Int) < (i : Int)) = true := decide_eq_true hI
                    by_cases h8 : y.h.b = 8
                    · have h8b : Hid ((y.h.b != 8) = false) := Lib.hid (by simp [h8])
                      have hE : Hid (cnd = false) := Lib.hid (by rw [← HCD.out]; simp [h8])
                      clear h8 hp0
                      go_wp2_with fail
                      go_meet
                      exact ⟨by rw [hE.out, h8b.out], rfl⟩
                    · have h8b : Hid ((y.h.b != 8) = true) := Lib.hid (by simp [h8])
                      have hE : Hid (cnd = true) := Lib.hid (by rw [← HCD.out]; simp [h8, hp0])
                      clear h8 hp0
                      go_wp2_with fail
                      go_meet
                      exact ⟨by rw [hE.out, h8b.out], rfl⟩
                  · have hI : ¬ (0 : Int) < (i : Int) := by omega
                    have hd1 : decide ((0 : Int) < (i : Int)) = false := decide_eq_false hI
                    have hE : Hid (cnd = false) := Lib.hid (by rw [← HCD.out]; simp; omega)
                    clear hp0
                    go_wp2_with fail
                    go_meet
                    exact ⟨by rw [hE.out], rfl⟩
                case rest =>
                  obtain ⟨rfl, rfl⟩ := hcut
                  have hcm := hbx.size
                  go_upto_if 132 with fail
                  go_cut [] (fun wz => Below wr.heap.size wr wz ∧ wz.heap[wr.heap.size]? = some (.cells #[.int .i64 (q : Int), .int .i64 y.h.b, .int .i64 y.h.c, .int .i64 y.h.d, .int .i64 E4, .int .i64 E5, .int .i64 y.h.g, .int .i64 y.h.h, .int .i64 y.h.i, .int .i64 y.h.j] 104 (0, 0)))
                  case first =>
                    cases cnd with
                    | true =>
                      have hE : Hid (E5 = (bn : Int)) := HE5b
                      have hst := heap_setCell_same wx wr.heap.size 5 _ _ (.int .i64 (bn : Int)) hhx
                      have hbs4 : Below wr.heap.size wr (wx.setCell ⟨wr.heap.size, 5, none⟩ (.int .i64 (bn : Int))) := hbx.setCell (Nat.le_refl _) _
                      have HST := Lib.hid hst
                      have HBS := Lib.hid hbs4
                      clear hst hbs4
                      go_wp2_with fail
                      go_meet
                      rw [hE.out]
                      exact ⟨HBS.out, HST.out⟩
                    | false =>
                      have hE : Hid (E5 = y.h.f) := HE5b
                      go_wp2_with fail
                      go_meet
                      rw [hE.out]
                      exact ⟨hbx, hhx⟩
                  case rest =>
                    obtain ⟨hbz, hhz⟩ := hcut
                    clear hbx hhx n1 n5 hfz5 m11 HE5b HCD hcm
                    generalize wc = wz at *
                    have m11 := cell_later hbz e11
                    have hbD9 : Below wD.heap.size wD wz := hb.trans (hbz.mono hb.size)
                    have HYZ := Lib.hid (HYB.out.below hbD9)
                    have hob2 := owns_belowN hob hbz
                    have hoh2 := owns_belowN hoh hbz
                    have hbzs := hbz.size
                    have hlob := fun b hb => (hob.lt b hb)
                    have hloh := fun b hb => (hoh.lt b hb)
                    have hhl : wr.heap.size < wz.heap.size := (Array.getElem?_eq_some_iff.1 hhz).1
                    have hnD := hbD9.size
                    clear hob hoh
                    go_wp2_with (at_builtin; refine wpList_append_bytes _ rfl (.tmp 140) (.tmp 145) 31 rfl wD.heap.size 5 i1 Tryz.underlying31 GI.out G0.out G1.out G2.out _ nb _ rfl hob2 pb bn cb y.b rfl HYZ.out HYBN.out HYN.out (by omega) hnD ?_)
                    intro vE wE hobE hgE hatE
                    have hohE := hoh2.kept hgE (ne_or HNE.out)
                    have hneE := ne_step1 HNE.out (fun b hb => (hoh2.lt b hb).2) hatE
                    have hhE : wE.heap[wr.heap.size]? = some (.cells #[.int .i64 (q : Int), .int .i64 y.h.b, .int .i64 y.h.c, .int .i64 y.h.d, .int .i64 E4, .int .i64 E5, .int .i64 y.h.g, .int .i64 y.h.h, .int .i64 y.h.i, .int .i64 y.h.j] 104 (0, 0)) := (hgE.block wr.heap.size hhl fun e => by have := (hlob wr.heap.size e.symm).2; omega).trans hhz
                    have hbE : Below wD.heap.size wD wE := hbD9.grown hgE hnD (fun g hg => (hob2.lt g hg).1)
                    rw [← List.map_append, ← HBSU.out] at hobE
                    obtain ⟨t0, t1, t2', t3, t4, t5, t6, t7, t8, t9⟩ := cells_ten _ _ _ _ _ _ _ _ _ _ _ _ _ hhE
                    have HNEE := Lib.hid hneE
                    clear hob2 hoh2 hgE hatE hneE hhz hhE hlob hloh
                    go_wp2_with fail
                    refine (HC.out _).mono ?_
                    rintro e wF ⟨vF, rfl, hownF, hbbF⟩
                    rw [HSB.out] at hownF
                    have hobF := owns_belowN hobE hbbF
                    have hohF := owns_belowN hohE hbbF
                    have hbF : Below wD.heap.size wD wF := hbE.trans (hbbF.mono hbE.size)
                    obtain ⟨p8, c8, rfl, _, _, y3, y4⟩ := Has.of_owns hownF
                    have hpn8 := none_cap hownF
                    have Y4 := Lib.hid y4
                    have Y3 := Lib.hid y3
                    have hnh9 : nh ≤ 10000 := by have := HNH.out; omega
                    have hbFs := hbF.size
                    clear hownF hbbF hobE hohE hbE y3 y4 t0 t1 t2' t3 t4 t5 t6 t7 t8 t9
                    go_wp2_with (at_builtin; refine wpList_append_bytes _ rfl (.tmp 147) (.tmp 149) 31 rfl wD.heap.size 5 i1 Tryz.underlying31 GI.out G0.out G1.out G2.out _ nh _ rfl hohF p8 64 c8 sb rfl Y4.out Y3.out hpn8 (by omega) hbFs ?_)
                    intro vG wG hohG hgG hatG
                    have hobG := hobF.kept hgG (by
                      rcases ne_or HNEE.out with h | h
                      · cases hE : vE.ownBlock with
                        | none => exact .inl rfl
                        | some b => rw [h]; exact .inr (fun e => by cases e)
                      · exact .inr fun e => h e.symm)
                    have HNEG := Lib.hid (ne_step2 HNEE.out (fun b hb => (hobF.lt b hb).2) hatG)
                    have hbG : Below wD.heap.size wD wG := hbF.grown hgG hbFs (fun g hg => (hohF.lt g hg).1)
                    rw [← List.map_append, ← HSU.out] at hohG
                    have hbln : nb + bn = (bodyOf (al.take (i + 1))).length := by rw [HBSU.out, List.length_append, ← HNB.out, HYBN.out]
                    have HBLN := Lib.hid hbln
                    clear hobF hohF hgG hatG hbln
                    go_wp2_with fail
                    go_roundw
                    case rel => exact ⟨i + 1, nb + bn, nh + 64, by omega, by go_num, HBLN.out, by have := HNH.out; omega, hobG, hohG, HNEG.out, hbG⟩
                    case measure => simp [intOf]; omega
            · obtain rfl : i = k + 1 := by omega
              have hJ : ¬ ((k + 1 : Nat) : Int) < (k : Int) + 1 := by omega
              have hE : Hid (al.take (k + 1) = al) := Lib.hid (List.take_of_length_le (by rw [HALL.out]; exact Nat.le_refl _))
              rw [hE.out] at hob
              have hnb2 : nb = (bodyOf al).length := by rw [HNB.out, hE.out]
              have HNB2 := Lib.hid hnb2
              obtain ⟨pB, cB, rfl, _, _, k3, hB⟩ := Has.of_owns hob
              obtain ⟨pH, cH, rfl, _, _, k4, hH⟩ := Has.of_owns hoh
              have hpnB := none_cap hob
              have hpnH := none_cap hoh
              have HBG := Lib.hid fun W => begin_yes (64 + nb) (k + 1) k W ⟨by omega, by omega, by omega, by omega, by omega, by omega⟩
              have hbT : Below w.heap.size w wr := HBD.out.trans (hb.mono HBD.out.size)
              have hbTs := hbT.size
              have kw : IntKind.i64.wrap (64 + (nb : Int)) = 64 + (nb : Int) := IntWalk.i64_in _ (by omega)
              have kk : IntKind.i64.wrap ((k : Int) + 1 - 1) = (k : Int) := by rw [show (k : Int) + 1 - 1 = (k : Int) by omega]; exact IntWalk.i64_in _ (by omega)
              have hpu : ((64 + nb : Nat) : Int) = 64 + (nb : Int) := by omega
              have hpk : ((k + 1 : Nat) : Int) = (k : Int) + 1 := by omega
              rw [hpu, hpk] at HBG
              have HB9 := Lib.hid hB
              have HH9 := Lib.hid hH
              have HKB := Lib.hid k3
              have HKH := Lib.hid k4
              have hnh9 : nh ≤ 10000 := by have := HNH.out; omega
              clear hnb2 hB hH hob hoh hb hpu hpk k3 k4 HNE
              go_wp2_with fail
              refine (HBG.out _).mono ?_
              rintro e wO ⟨vO, rfl, hownO, hbbO⟩
              rw [hdrB_length] at hownO
              have hbO : Below w.heap.size w wO := hbT.trans (hbbO.mono hbTs)
              have hbOs := hbbO.size
              have HBO := Lib.hid (HB9.out.below hbbO)
              have hbgr := fun b hb => (hownO.lt b hb).1
              have HHO := Lib.hid (HH9.out.below hbbO)
              have hsep : Below wr.heap.size wr wO := hbbO
              generalize hdB : hdrB (64 + nb) (k + 1) k = hd at *
              have HDB := Lib.hid hdB
              clear hdB hbbO
              go_wp2_with (at_builtin; refine wpList_append_bytes _ rfl (.tmp 160) (.tmp 161) 31 rfl wr.heap.size 5 i1 Tryz.underlying31 GI.out G0.out G1.out G2.out _ 64 _ rfl hownO pB nb cB (bodyOf al) rfl HBO.out HKB.out hpnB (by omega) hbOs ?_)
              intro vP wP hownP hgP _
              have hbP : Below wr.heap.size wr wP := hsep.grown hgP hbOs (fun g hg => (hownO.lt g hg).1)
              have HHP := Lib.hid (HH9.out.below hbP)
              have hbPs := hbP.size
              clear hownO hgP hsep
              go_wp2_with (at_builtin; refine wpList_append_bytes _ rfl (.tmp 162) (.tmp 163) 31 rfl wr.heap.size 5 i1 Tryz.underlying31 GI.out G0.out G1.out G2.out _ (64 + nb) (hd ++ bodyOf al) rfl (by rw [List.map_append]; exact hownP) pH nh cH (headsBy pls al (k + 1)) rfl HHP.out HKH.out hpnH (by omega) hbPs ?_)
              intro vQ wQ hownQ hgQ _
              have hbQ : Below wr.heap.size wr wQ := hbP.grown hgQ hbPs (fun g hg => (hownP.lt g hg).1)
              clear hgQ hownP
              go_wp2_with fail
              go_ret
              have hfin : bytesOf o = hd ++ bodyOf al ++ headsBy pls al (k + 1) := by rw [HBE.out, ← HDB.out, HNB2.out]; rfl
              have hlen : (bytesOf o).length = 64 + nb + nh := by
                have := hownQ.1
                rw [hfin]
                simpa using this
              refine ⟨vQ, rfl, ?_, hbT.trans (hbQ.mono hbTs)⟩
              rw [hlen, hfin, List.map_append, List.map_append, List.append_assoc]
              exact owns_lower hownQ hbTs
end Go.Proofs.YthnkehdcolnegaaGreat
