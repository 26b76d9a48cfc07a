/-
  Contract of the reference's Get.
-/
import Derived.Test.YtenmcmnhiejbgaaGreatJg40
import Derived.Test.YtenmcmnhiejbgaaGreatJg41
import Derived.Test.YtenmcmnhiejbgaaGreatJg25
import Derived.Test.YtenmcmnhiejbgaaGreatJg12
namespace Go.Proofs.YtenmcmnhiejbgaaGreat
open Go.RowKit

/-- What the reference's Get gives. -/
def GivesRGot (r : Option ObjD) (w : World) (e : Ending) (w' : World) : Prop := Below w.heap.size w w' ∧ ∃ (v0 v1 v2 v4 : Value) (o : ObjD), e = .returned (.tuple #[objV v0 v1 v2 o.hasSig v4, .bool r.isSome]) ∧ ObjParts w' v0 v1 v2 v4 o ∧ (r = none ∧ o = ⟨[], [], [], false, []⟩ ∨ r = some o)
theorem rget_end {tmps : Array Value} {W w : World} {B : Nat} {res : Option ObjD} {v0 v1 v2 v4 : Value} {b : Bool} {o : ObjD} (h2 : tmps.getD 2 undef = .pointer (some ⟨B, 0, none⟩)) (h3 : tmps.getD 3 undef = .bool b) (hB : w.heap.size = B)
    (hR : W.heap[B]? = some (.cells #[v0, v1, v2, .bool o.hasSig, v4] 27 (0, 0))) (hb : Below B w W) (hp : ObjParts W v0 v1 v2 v4 o) (hE : b = res.isSome) (ho : res = none ∧ o = ⟨[], [], [], false, []⟩ ∨ res = some o) : bodyPost Tryz.prog Tryz.f12 (GivesRGot res w) Exit.ret ⟨tmps, []⟩ W := by
  subst hE
  subst hB
  exact bodyPost_ret (results_obj rfl _ _ _ _ _ _ _ _ _ h2 h3 hR) rfl ⟨hb, v0, v1, v2, v4, o, rfl, hp, ho⟩
theorem rget_none {tmps : Array Value} {W W' w : World} {B : Nat} {res : Option ObjD} (h2 : tmps.getD 2 undef = .pointer (some ⟨B, 0, none⟩)) (h3 : tmps.getD 3 undef = .bool false) (hB : w.heap.size = B)
    (hR : W.heap[B]? = some (.cells #[.slice none 0 0, .slice none 0 0, .slice none 0 0, .bool false, .slice none 0 0] 27 (0, 0))) (hb : Below B w W) (hE : res = none)
    (hW : W' = ((((W.setCell ⟨B, 0, none⟩ (.slice none 0 0)).setCell ⟨B, 1, none⟩ (.slice none 0 0)).setCell ⟨B, 2, none⟩ (.slice none 0 0)).setCell ⟨B, 3, none⟩ (.bool false)).setCell ⟨B, 4, none⟩ (.slice none 0 0)) : bodyPost Tryz.prog Tryz.f12 (GivesRGot res w) Exit.ret ⟨tmps, []⟩ W' := by
  subst hW
  obtain ⟨x1, x2⟩ := five_set (.slice none 0 0) (.slice none 0 0) (.slice none 0 0) (.bool false) (.slice none 0 0) (Nat.le_refl B) hR
  have hBs : B ≤ W.heap.size := Nat.le_of_lt (Array.getElem?_eq_some_iff.1 hR).1
  exact rget_end (o := ⟨[], [], [], false, []⟩) h2 h3 hB x1 (hb.trans (x2.below hBs)) (zero_parts _) (by rw [hE]; rfl) (.inl ⟨hE, rfl⟩)

/-! ## What is called, where it is known what it tells -/
theorem rsecs_let {r : Option (List SecD)} {w : World} {e : Ending} {w' : World} (h : GivesRSecs r w e w') : ∃ (p : Option Addr) (n c : Nat) (ok : Bool), e = .returned (.tuple #[.slice p n c, .bool ok]) ∧ Below w.heap.size w w' ∧ ((ok = false ∧ r = none) ∨ (ok = true ∧ ∃ svs : List SecV, n = svs.length ∧ r = some (svs.map SecV.s) ∧ w'.ownsRow w.heap.size 48 9 (.slice p svs.length c) svs.length (svs.flatMap SecV.cells) ∧ ∀ x ∈ svs, x.ok w.heap.size w' ∧ x.r = .slice none 0 0 ∧ x.s.rels = [])) := by
  obtain ⟨hb, h | h⟩ := h
  · obtain ⟨rfl, rfl⟩ := h
    exact ⟨none, 0, 0, false, rfl, hb, .inl ⟨rfl, rfl⟩⟩
  · obtain ⟨p, c, svs, h1, rfl, h2, h3⟩ := h
    exact ⟨p, svs.length, c, true, rfl, hb, .inr ⟨rfl, svs, rfl, h1, h2, h3⟩⟩
theorem rsyms_let {r : Option (List SymD)} {tbl : Nat} {w : World} {e : Ending} {w' : World} (h : GivesRSyms r tbl w e w') : ∃ (p : Option Addr) (n c t : Nat), e = .returned (.tuple #[.slice p n c, .int .i64 (t : Int)]) ∧ Below w.heap.size w w' ∧ ((t = 0 ∧ r = none) ∨ (1 ≤ t ∧ t = tbl ∧ ∃ ys : List SymD, n = ys.length ∧ r = some ys ∧ w'.ownsRow w.heap.size 45 6 (.slice p ys.length c) ys.length (ys.flatMap symC))) := by
  obtain ⟨hb, h | h⟩ := h
  · obtain ⟨rfl, rfl⟩ := h
    exact ⟨none, 0, 0, 0, rfl, hb, .inl ⟨rfl, rfl⟩⟩
  · obtain ⟨p, c, ys, h1, rfl, h2, h3⟩ := h
    exact ⟨p, ys.length, c, tbl, rfl, hb, .inr ⟨h2, rfl, ys, rfl, h1, h3⟩⟩
theorem rrels_let {r : Option (List RelD)} {w : World} {e : Ending} {w' : World} (h : GivesRRels r w e w') : ∃ (p : Option Addr) (n c : Nat) (ok : Bool), e = .returned (.tuple #[.slice p n c, .bool ok]) ∧ Below w.heap.size w w' ∧ ((ok = false ∧ r = none) ∨ (ok = true ∧ ∃ rs : List RelD, n = rs.length ∧ r = some rs ∧ w'.ownsRow w.heap.size 89 4 (.slice p rs.length c) rs.length (rs.flatMap relC))) := by
  obtain ⟨hb, h | h⟩ := h
  · obtain ⟨rfl, rfl⟩ := h
    exact ⟨none, 0, 0, false, rfl, hb, .inl ⟨rfl, rfl⟩⟩
  · obtain ⟨p, c, rs, h1, rfl, h2⟩ := h
    exact ⟨p, rs.length, c, true, rfl, hb, .inr ⟨rfl, rs, rfl, h1, h2⟩⟩
theorem rgrp_let {r : Option GroupD} {w : World} {e : Ending} {w' : World} (h : GivesRGroup r w e w') : ∃ (x : Int) (p : Option Addr) (n c : Nat) (ok : Bool), e = .returned (.tuple #[.agg #[.int .i64 x, .slice p n c], .bool ok]) ∧ Below w.heap.size w w' ∧ ((ok = false ∧ r = none) ∨ (ok = true ∧ ∃ g : GroupD, x = g.sym ∧ n = g.members.length ∧ r = some g ∧ w'.ownsRow w.heap.size 3 1 (.slice p g.members.length c) g.members.length (g.members.map (Value.int .i64)))) := by
  obtain ⟨hb, h | h⟩ := h
  · obtain ⟨rfl, x, p, n, c, rfl⟩ := h
    exact ⟨x, p, n, c, false, rfl, hb, .inl ⟨rfl, rfl⟩⟩
  · obtain ⟨g, p, c, h1, rfl, h2⟩ := h
    exact ⟨g.sym, p, g.members.length, c, true, rfl, hb, .inr ⟨rfl, g, rfl, rfl, h1, h2⟩⟩
theorem rlist_let {r : Option (List Nat)} {w : World} {e : Ending} {w' : World} (h : GivesL r w e w') : ∃ (p : Option Addr) (n c : Nat), e = .returned (.tuple #[.slice p n c, .bool r.isSome]) ∧ Below w.heap.size w w' ∧ ∀ xs, r = some xs → n = xs.length ∧ w'.ownsRow w.heap.size 3 1 (.slice p n c) n ((xs.map fun (n : Nat) => (n : Int)).map (Value.int .i64)) := by
  obtain ⟨v, rfl, ho, hb⟩ := h
  obtain ⟨p, c, rfl, _⟩ := slice_form ho
  refine ⟨p, _, c, rfl, hb, fun xs hx => ?_⟩
  subst hx
  rw [natV_ints] at ho
  exact ⟨rfl, ho⟩

set_option maxRecDepth 100000 in
set_option maxHeartbeats 8000000 in
theorem rGetO_any (bp : Option Addr) (bc : Nat) (l : List UInt8) (w : World) (ht : Has w bp l) (h1 : l.length ≤ bc) (h2 : bc ≤ maxLen) (h3 : bp = none → bc = 0) (hbig : l.length ≤ 100000) :
    Calls Tryz.prog 12 #[.slice bp l.length bc] w (GivesRGot (gotB l) w) := by
  obtain ⟨i0, gi, gz0, gz1, gz2⟩ := info_parts Tryz.infoGrp
  have GI := Lib.hid gi
  have G0 := Lib.hid gz0
  have G1 := Lib.hid gz1
  have G2 := Lib.hid gz2
  obtain ⟨wa, hwa⟩ : ∃ wa, wa = w.alloc (.cells #[.slice none 0 0, .slice none 0 0, .slice none 0 0, .bool false, .slice none 0 0] 27) := ⟨_, rfl⟩
  have hba : Below w.heap.size w wa := by rw [hwa]; exact (Below.refl _ w).alloc (Nat.le_refl _) _
  have hra : wa.heap[w.heap.size]? = some (.cells #[.slice none 0 0, .slice none 0 0, .slice none 0 0, .bool false, .slice none 0 0] 27 (0, 0)) := by rw [hwa]; exact heap_alloc_new w _
  have hsa : w.heap.size < wa.heap.size := by rw [hwa]; simp
  have hrd := rRead_any bp bc l wa (ht.below hba) h1 h2 h3 hbig
  have HRD := Lib.hid hrd
  have HBA := Lib.hid hba
  have HRA := Lib.hid hra
  have HSA := Lib.hid hsa
  have HWA := Lib.hid hwa
  have HNO := Lib.hid (gotB_none (l := l))
  have HNS := Lib.hid fun (L : List Ten) (n : Nat) => gotB_secs (l := l) (L := L) (n := n)
  have HNY := Lib.hid fun (L : List Ten) (n : Nat) => gotB_syms (l := l) (L := L) (n := n)
  have HRT := Lib.hid fun (L : List Ten) (n : Nat) (ss : List SecD) (ys : List SymD) => gotB_rest (l := l) (L := L) (n := n) (ss := ss) (ys := ys)
  have HGV : Hid (GivesRGot (gotB l) w = GivesRGot (gotB l) w) := Lib.hid rfl
  generalize hres : gotB l = res at *
  clear gi gz0 gz1 gz2 hba hra hsa hrd hwa hres HGV ht
  go_enter Tryz.func12, Tryz.ntmps12
  go_upto_region 1 with fail
  rw [← HWA.out]
  clear HWA
  generalize hB : w.heap.size = B at *
  have HB := Lib.hid hB
  clear hB
  go_upto_region 2 with (first | (go_at_call 24; refine HRD.out.mono ?_; rintro e w1 ⟨hb1, F, rfl, hcase⟩) | fail)
  have hR1 := (hb1.block _ HSA.out).trans HRA.out
  have hbw1 : Below B w w1 := HBA.out.trans (hb1.mono (Nat.le_of_lt HSA.out))
  have hB1 : B < w1.heap.size := Nat.lt_of_lt_of_le HSA.out hb1.size
  have HR1 := Lib.hid hR1
  have HBW1 := Lib.hid hbw1
  clear hb1 HRD HBA HRA HSA
  rcases hcase with ⟨hn, c3⟩ | ⟨L, n, hp, hc, hrf, c3, c2, hRF, hty⟩
  · have hE : Hid (res = none) := Lib.hid (HNO.out hn)
    obtain ⟨⟨r0, r1, r2, r3, r4⟩, q0, q1, q2, q3, q4⟩ := cells5 _ _ _ _ _ _ _ _ hR1
    clear hR1 hn hbw1
    go_wp2_with fail
    exact rget_none (by rfl) (by rfl) HB.out HR1.out HBW1.out hE.out rfl
  have hnl : n < L.length := by
    unfold isTy at hty
    cases ht : L[n]? with
    | none => rw [ht] at hty; cases hty
    | some t => exact (List.getElem?_eq_some_iff.1 ht).1
  have hL1 : 1 ≤ L.length := by omega
  have hok := hRF.ok
  have hLl := hRF.hl
  have hrs := rSecs_any F n bp bc l hp hc L w1 hRF c2 hnl
  have hlast : last2 L L.length ≤ 100000 := by have := last2_lt L L.length hL1; omega
  have HRS := Lib.hid hrs
  have HRY := Lib.hid fun W (hW : Below w1.heap.size w1 W) => rSyms_any F bp bc l hp hc L W (hRF.below hW) hL1
  have HRL := Lib.hid fun W (hW : Below w1.heap.size w1 W) (i : Nat) (h : Ten) (hi : 1 ≤ i) (hh : L[i]? = some h) (hb : h.b = 4) => rRels_any F i (last2 L L.length) h bp bc l hp hc L W (hRF.below hW) hi hh hb hlast
  have HRG := Lib.hid fun W (hW : Below w1.heap.size w1 W) (i : Nat) (h : Ten) (hi : 1 ≤ i) (hh : L[i]? = some h) (hb : h.b = 17) => rGroup_any F i (last2 L L.length) h bp bc l hp hc L W (hRF.below hW) hi hh hb
  have HTO := Lib.hid fun W (hW : Below w1.heap.size w1 W) (i : Nat) (h : i < L.length) => rTold_any F i bp bc l hp hc L W (hRF.below hW) h
  have HLI := Lib.hid fun W (hW : Below w1.heap.size w1 W) (i : Nat) => refList_any (toldP bp bc L i) (toldB l L i).length (toldC bc L i) (toldB l L i) W (told_has (hRF.below hW) i).1 rfl (by have := (told_has hRF i).2.2.2.2; omega)
  have HNU := Lib.hid fun W (hW : Below w1.heap.size w1 W) (x : Nat) => rNumber_any F x bp bc l hp hc L W (hRF.below hW)
  have HRF := Lib.hid fun W (hW : Below w1.heap.size w1 W) => hRF.below hW
  have HOK := Lib.hid hok
  have HS0 := Lib.hid (HNS.out L n hrf hok hL1)
  have HY0 := Lib.hid (HNY.out L n hrf hok)
  have HR0 := Lib.hid fun ss ys => HRT.out L n ss ys hrf hok hL1
  have HSL := Lib.hid fun ss => refSecs_len (l := l) (n := n) (ss := ss) hok hL1
  have HYB := Lib.hid fun ys => symsB_bd (l := l) (L := L) (ns := numGo 0 L) (ys := ys) (fun n hn => by have := numGo_bd 0 n hn; omega)
  have HGB := Lib.hid fun sy h g => groupAt_bd (l := l) (L := L) (ns := numGo 0 L) (sy := sy) (h := h) (g := g) (fun n hn => by have := numGo_bd 0 n hn; omega)
  have HL1 := Lib.hid hL1
  clear hR1 hbw1 hrf c2 hRF hty hnl hok hrs HNO HNS HNY HRT hL1
  go_upto_region 5 with (first | (go_at_call 25; refine HRS.out.mono ?_; rintro e w2 hg2; obtain ⟨p0, n0, z0, ok, rfl, hb2, hcs⟩ := rsecs_let hg2; clear hg2) | fail)
  have HY2 := Lib.hid (HRY.out w2 hb2)
  have HCS := Lib.hid hcs
  clear hcs HRS HRY c3
  go_upto_region 6 with (first | (go_at_call 26; refine HY2.out.mono ?_; rintro e w3 hg3; obtain ⟨p1, n1, z1, tb, rfl, hb3, hcy⟩ := rsyms_let hg3; clear hg3) | fail)
  have hb23 : Below w1.heap.size w1 w3 := hb2.trans (hb3.mono hb2.size)
  have hR3 := (hb23.block _ hB1).trans HR1.out
  have hbw3 : Below B w w3 := HBW1.out.trans (hb23.mono (Nat.le_of_lt hB1))
  obtain ⟨⟨r0, r1, r2, r3, r4⟩, q0, q1, q2, q3, q4⟩ := cells5 _ _ _ _ _ _ _ _ hR3
  have HR3 := Lib.hid hR3
  have HBW3 := Lib.hid hbw3
  have HR1B := Lib.hid HR1.out
  clear hR3 hbw3 HR1 HY2
  rcases HCS.out with ⟨rfl, hcs⟩ | ⟨rfl, svs, rfl, hcs, hso, hsall⟩
  · have hE : Hid (res = none) := Lib.hid (HS0.out hcs)
    clear hcs hcy hb2 hb3 hb23 HCS
    go_wp2_with fail
    exact rget_none (by rfl) (by rfl) HB.out HR3.out HBW3.out hE.out rfl
  rcases hcy with ⟨rfl, hcy⟩ | ⟨ht1, htb, ys, rfl, hcy, hyo⟩
  · have hE : Hid (res = none) := Lib.hid (HY0.out hcy)
    clear hcs hcy hb2 hb3 hb23 HCS hso hsall
    go_wp2_with fail
    exact rget_none (by rfl) (by rfl) HB.out HR3.out HBW3.out hE.out rfl
  have ht0 : ((tb : Int) == 0) = false := by simp; omega
  have hE0 := HR0.out _ _ hcs hcy
  rw [← htb] at HRL HRG hE0
  have HYBD := Lib.hid (HYB.out _ hcy)
  have hsl : svs.length = cntS L := by have := HSL.out _ hcs; rw [List.length_map] at this; exact this
  have HSVL := Lib.hid hsl
  have HE0 := Lib.hid hE0
  have hs3 := owns_belowN hso hb3
  have hsok3 : ∀ x ∈ svs, x.ok w1.heap.size w3 := fun x hx => (hsall x hx).1.fr (Ts := []) (FrT.of_below (N := w1.heap.size) hb3) (by simp) (by simp)
  have hyo3 := owns_lower hyo hb2.size
  have HS3 := Lib.hid hs3
  have HSK3 := Lib.hid hsok3
  have HYO3 := Lib.hid hyo3
  have HB23 := Lib.hid hb23
  clear hcs hcy hb2 hb3 hb23 HCS hso hsall hyo hsl hE0 htb HS0 HY0 HR0 HSL HYB hs3 hsok3 hyo3
  generalize hn0 : svs.length = n0 at *
  go_upto_region 9 with fail
  have hb4 : Below w3.heap.size w3 (w3.alloc (.cells #[.slice p0 n0 z0, .slice p1 ys.length z1, .slice none 0 0, .bool false, .slice none 0 0] 27)) := (Below.refl _ w3).alloc (Nat.le_refl _) _
  have hg4 := heap_alloc_new w3 (.cells #[.slice p0 n0 z0, .slice p1 ys.length z1, .slice none 0 0, .bool false, .slice none 0 0] 27)
  have hB3 : w1.heap.size ≤ w3.heap.size := HB23.out.size
  generalize w3.alloc (.cells #[.slice p0 n0 z0, .slice p1 ys.length z1, .slice none 0 0, .bool false, .slice none 0 0] 27) = w4 at *
  have hf4 : FrT w1.heap.size [] w3 w4 := FrT.of_below hb4
  generalize w3.heap.size = G at *
  generalize hB1s : w1.heap.size = B1 at *
  have hrr : RRd B1 G (.slice p0 n0 z0) (.slice p1 ys.length z1) (.slice none 0 0) (.slice none 0 0) false ys svs [] [] w4 := by
    exact ⟨hg4, by rw [hn0]; exact hf4.owns HS3.out (by simp), fun x hx => (HSK3.out x hx).fr hf4 (by simp) (by simp), hf4.owns HYO3.out (by simp), World.ownsRow_nil _ _ _ _, (fun x hx => by cases hx), World.ownsRow_nil _ _ _ _⟩
  have hbw4 : Below B1 w1 w4 := HB23.out.trans (hb4.mono hB3)
  have HRR := Lib.hid hrr
  have HBW4 := Lib.hid hbw4
  have HN0 := Lib.hid hn0
  generalize hln : L.length = ln at *
  have HLN := Lib.hid hln
  have hl1 : 1 ≤ ln := HL1.out
  clear hb4 hg4 hrr hbw4 hn0 hln HS3 HSK3 HYO3 HB23 r0 r1 r2 r3 r4 q0 q1 q2 q3 q4
  go_wp2_with fail
  go_loopw [10, 11, 12, 13, 14, 15, 16, 17] (fun r10 _ _ _ _ _ _ _ wr => ∃ (i : Nat) (u2 u4 : Value) (hs : Bool) (vv : List SecV) (gv : List GroupV) (sg : List Int), 1 ≤ i ∧ i ≤ ln ∧ r10 = .int .i64 (i : Int) ∧ RRd B1 G (.slice p0 n0 z0) (.slice p1 ys.length z1) u2 u4 hs ys vv gv sg wr ∧ Below B1 w1 wr ∧ vv.length = n0 ∧
    res = rEndB ys (restGo l L (numGo 0 L) ((tb : Nat) : Int) (L.drop i) ⟨vv.map SecV.s, gv.map GroupV.g, hs, sg, nmOf L i⟩) ∧ gv.length ≤ i ∧ (∀ x ∈ sg, i64bd x) ∧ ∀ y ∈ gv, y.g.members.length ≤ 100000) (fun r10 _ _ _ _ _ _ _ _ => ln - (intOf r10).toNat)
  case atStart => exact ⟨1, _, _, false, svs, [], [], Nat.le_refl _, hl1, rfl, HRR.out, HBW4.out, HN0.out, HE0.out, Nat.zero_le _, (fun x hx => by cases hx), (fun x hx => by cases hx)⟩
  case round =>
    obtain ⟨i, u2, u4, hs, vv, gv, sg, hi1, hi2, rfl, hrd, hbw, hvl, hgo, hgl, hsb, hgm⟩ := hrel
    have HRD := Lib.hid hrd
    have HBW := Lib.hid hbw
    have HVL := Lib.hid hvl
    have HGO := Lib.hid hgo
    have HSB := Lib.hid hsb
    have HGM := Lib.hid hgm
    have hrf := HRF.out wr hbw
    have c1 := hrf.c1
    rw [HLN.out] at c1
    have hBr : B1 ≤ wr.heap.size := by rw [← hB1s]; exact hbw.size
    have hR7 := (hbw.block B (by omega)).trans HR1B.out
    clear hvl
    by_cases hlt : i < ln
    · obtain ⟨b, off, x, hpe, hx, e0, e1, e2, e3, e4, e5, e6, e7, e8, e9⟩ := hrf.h.at_ (i := i) (by rw [HLN.out]; exact hlt)
      subst hpe
      have hmx := (HOK.out i x hx).1
      have hth := (fitsB_iff _).1 (hmx x.h (by simp [Ten.l]))
      have hba : Below wr.heap.size wr (wr.alloc (.cells #[.int .i64 x.a, .int .i64 x.b, .int .i64 x.c, .int .i64 x.d, .int .i64 x.e, .int .i64 x.f, .int .i64 x.g, .int .i64 x.h, .int .i64 x.i, .int .i64 x.j] 54)) := (Below.refl _ wr).alloc (Nat.le_refl _) _
      have hha := heap_alloc_new wr (.cells #[.int .i64 x.a, .int .i64 x.b, .int .i64 x.c, .int .i64 x.d, .int .i64 x.e, .int .i64 x.f, .int .i64 x.g, .int .i64 x.h, .int .i64 x.i, .int .i64 x.j] 54)
      have hJ : (i : Int) < (ln : Int) := by omega
      have hJ0 : (0 : Int) ≤ (i : Int) := by omega
      have HX := Lib.hid hx
      have HMX := Lib.hid hmx
      have hR8 := (hba.block B (by omega)).trans hR7
      clear hrf hx hmx hrd hgo hsb hgm hR7
      go_upto_region 13 with fail
      have hrd2 := HRD.out.below hba
      have hbw2 := HBW.out.trans (hba.mono hBr)
      generalize wr.alloc (.cells #[.int .i64 x.a, .int .i64 x.b, .int .i64 x.c, .int .i64 x.d, .int .i64 x.e, .int .i64 x.f, .int .i64 x.g, .int .i64 x.h, .int .i64 x.i, .int .i64 x.j] 54) = ws at *
      generalize wr.heap.size = gh at *
      obtain ⟨s0, s1, s2, s3, s4, s5, s6, s7, s8, s9⟩ := cells_ten _ _ _ _ _ _ _ _ _ _ _ _ _ hha
      have hBs : B1 ≤ ws.heap.size := by rw [← hB1s]; exact hbw2.size
      have HRDS := Lib.hid hrd2
      have HWS := Lib.hid hbw2
      have HRS8 := Lib.hid hR8
      have HHX := Lib.hid hha
      clear e0 e1 e2 e3 e4 e5 e6 e7 e8 e9 hba hrd2 hbw2 hbw hR8 hha c1 HRD HBW
      cases h4 : (x.b == 4) with
      | true =>
        have hx4 : x.b = 4 := by simpa using h4
        have HRLX := Lib.hid (HRL.out ws HWS.out i x hi1 HX.out hx4)
        go_upto_region 16 with (first | (go_at_call 27; refine HRLX.out.mono ?_; rintro e w7 hg7; obtain ⟨q, m, z, ok, rfl, hb7, hcr⟩ := rrels_let hg7; clear hg7) | fail)
        have hR9 := (hb7.block B (by omega)).trans HRS8.out
        have hrd7 := HRDS.out.below hb7
        have hbw7 := HWS.out.trans (hb7.mono hBs)
        have hbB7 := HBW1.out.trans (hbw7.mono (by omega))
        rcases hcr with ⟨rfl, hcr⟩ | ⟨rfl, rs, rfl, hcr, hro⟩
        · have hE : Hid (res = none) := Lib.hid (by rw [HGO.out, rstep_rels HX.out hx4 hth.1, hcr]; rfl)
          obtain ⟨⟨r0, r1, r2, r3, r4⟩, q0, q1, q2, q3, q4⟩ := cells5 _ _ _ _ _ _ _ _ hR9
          have HR9 := Lib.hid hR9
          have HBB7 := Lib.hid hbB7
          clear hR9 hrd7 hbw7 hbB7 hb7 hcr s0 s1 s2 s3 s4 s5 s6 s7 s8 s9
          go_wp2_with fail
          exact rget_none (by rfl) (by rfl) HB.out HR9.out HBB7.out hE.out rfl
        · obtain ⟨xi, sv, hnx, hsv, hxl⟩ := rels_sec (svs := vv) hcr (by rw [HVL.out]; exact HSVL.out)
          have hd : Below w7.heap.size w7 w7.drew := (Below.refl _ w7).drew
          have hn0b : n0 ≤ 100000 := by have := cntS_le L; have := HSVL.out; have := HLN.out; omega
          have hsec := hrd7.secs
          rw [HVL.out] at hsec hxl
          obtain ⟨b0, cap0, ev, hb0, hb0s⟩ := hsec.form (by omega)
          injection ev with e1 e2 e3
          subst e1
          subst e3
          have hst := hsec.stored (xi * 9 + 8) (.slice q rs.length z)
          rw [flat_set (k := 9) (f := SecV.cells) (fun _ => rfl) vv xi 8 sv (sv.withRels rs (.slice q rs.length z)) (.slice q rs.length z) hsv (by decide) rfl] at hst
          have hf7 : FrT B1 [48] w7 (w7.setCell ⟨b0, xi * 9 + 8, none⟩ (.slice q rs.length z)) := FrT.grown hsec hst.2 (by simp) (Nat.le_refl _)
          have hrd8 := hrd7.rels hf7 hsv (by rw [HVL.out]; exact hst.1) (hf7.owns (owns_lower hro hBs) (by decide)) (relsAt_bd hcr)
          have hbwd := hbw7.trans (hd.mono (by omega))
          have hbw8 := hbw7.trans (hf7.below (by omega))
          have hrd9 := hrd8.below (Below.refl _ _).drew
          have hbw9 := hbw8.drew
          have hst2 : Hid (res = rEndB ys (restGo l L (numGo 0 L) ((tb : Nat) : Int) (L.drop (i + 1)) ⟨(vv.set xi (sv.withRels rs (.slice q rs.length z))).map SecV.s, gv.map GroupV.g, hs, sg, nmOf L (i + 1)⟩)) := Lib.hid (by
            rw [HGO.out, rstep_rels HX.out hx4 hth.1, hcr, map_setRels hsv, hnx]
            simp only
            rw [show (((xi + 1 : Nat) : Int) - 1).toNat = xi by omega])
          have hnu := HNU.out w7.drew hbwd x.h.toNat
          rw [hnx, Int.toNat_of_nonneg hth.1] at hnu
          obtain ⟨nn, hnn⟩ : ∃ nn : Int, nn = ((xi + 1 : Nat) : Int) := ⟨_, rfl⟩
          rw [← hnn] at hnu
          have HNUX := Lib.hid hnu
          have z8 := hsec.frozenAt (xi * 9 + 8)
          have y8 : w7.cell? ⟨b0, xi * 9 + 8, none⟩ = some sv.r := row_cell (k := 9) (f := SecV.cells) (fun _ => rfl) hsec hsv rfl HVL.out
          obtain ⟨⟨g0, g1, g2, g3, g4⟩, _⟩ := cells5 _ _ _ _ _ _ _ _ hrd7.g
          have s7' := cell_later hb7 s7
          have k1 : IntKind.i64.wrap (nn - 1) = (xi : Int) := by rw [show nn - 1 = (xi : Int) by omega]; exact IntWalk.i64_in _ (by omega)
          have hI0 : (0 : Int) ≤ (xi : Int) := by omega
          have hI1 : (xi : Int) < (n0 : Int) := by omega
          have HRD9 := Lib.hid hrd9
          have HBW9 := Lib.hid hbw9
          have HL9 : Hid ((vv.set xi (sv.withRels rs (.slice q rs.length z))).length = n0) := Lib.hid (by rw [List.length_set]; exact HVL.out)
          clear hnu hsec hst hf7 hrd9 hbw9 hb7 hcr hro hR9 hrd7 hbw7 hbB7 s0 s1 s2 s3 s4 s5 s6 s7 s8 s9 hnx hsv hd hrd8 hbw8 hbwd hnn
          go_upto_region 18 with fail
          go_region_with (go_at_call 28; refine HNUX.out.mono ?_; rintro e w8 ⟨rfl, rfl⟩)
          all_goals
            clear g0 g1 g2 g3 g4 s7' y8 z8 k1 hI0 hI1
            go_wp2_with fail
            go_roundw
            case rel => exact ⟨i + 1, u2, u4, hs, _, gv, sg, by omega, hlt, by go_num, HRD9.out, HBW9.out, HL9.out, hst2.out, by omega, HSB.out, HGM.out⟩
            case measure => simp [intOf]; omega
      | false =>
        have hx4 : x.b ≠ 4 := by simpa using h4
        cases h17 : (x.b == 17) with
        | true =>
          have hx17 : x.b = 17 := by simpa using h17
          have HRGX := Lib.hid (HRG.out ws HWS.out i x hi1 HX.out hx17)
          go_upto_region 21 with (first | (go_at_call 29; refine HRGX.out.mono ?_; rintro e w7 hg7; obtain ⟨gx, q, m, z, ok, rfl, hb7, hcr⟩ := rgrp_let hg7; clear hg7) | fail)
          have hbg : Below w7.heap.size w7 (w7.alloc (.cells #[.int .i64 gx, .slice q m z] 50)) := (Below.refl _ w7).alloc (Nat.le_refl _) _
          have hgg := heap_alloc_new w7 (.cells #[.int .i64 gx, .slice q m z] 50)
          generalize w7.alloc (.cells #[.int .i64 gx, .slice q m z] 50) = w8 at *
          have hb8 := hb7.trans (hbg.mono hb7.size)
          have hR9 := (hb8.block B (by omega)).trans HRS8.out
          have hrd8 := HRDS.out.below hb8
          have hbw8 := HWS.out.trans (hb8.mono hBs)
          have hbB8 := HBW1.out.trans (hbw8.mono (by omega))
          have hB8 : B1 ≤ w8.heap.size := by rw [← hB1s]; exact hbw8.size
          have hbgf : FrT B1 [] w7 w8 := FrT.of_below hbg
          generalize w7.heap.size = g7 at *
          obtain ⟨⟨t0, t1⟩, _⟩ := two_cells _ _ _ _ _ hgg
          rcases hcr with ⟨rfl, hcr⟩ | ⟨rfl, g, rfl, rfl, hcr, hro⟩
          · have hE : Hid (res = none) := Lib.hid (by rw [HGO.out, rstep_group HX.out hx17, hcr]; rfl)
            obtain ⟨⟨r0, r1, r2, r3, r4⟩, q0, q1, q2, q3, q4⟩ := cells5 _ _ _ _ _ _ _ _ hR9
            have HR9 := Lib.hid hR9
            have HBB8 := Lib.hid hbB8
            clear hR9 hrd8 hbw8 hbB8 hb7 hb8 hbg hbgf hgg hcr s0 s1 s2 s3 s4 s5 s6 s7 s8 s9 t0 t1
            go_wp2_with fail
            exact rget_none (by rfl) (by rfl) HB.out HR9.out HBB8.out hE.out rfl
          · have hgb := HGB.out _ _ _ hcr
            have hst2 : Hid (∀ v, res = rEndB ys (restGo l L (numGo 0 L) ((tb : Nat) : Int) (L.drop (i + 1)) ⟨vv.map SecV.s, (gv ++ [(⟨g, v⟩ : GroupV)]).map GroupV.g, hs, sg, nmOf L (i + 1)⟩)) := Lib.hid (fun v => by
              rw [HGO.out, rstep_group HX.out hx17, hcr, List.map_append]
              rfl)
            have hgml : g.members.length ≤ 100000 := by have := groupAt_len hcr; have := (fitsB_iff _).1 (HMX.out x.f (by simp [Ten.l])); have := heads_in HOK.out HX.out (by omega); have := (fitsB_iff _).1 (HMX.out x.e (by simp [Ten.l])); omega
            have hgsy : i64bd g.sym := by rw [hgb.1]; exact ⟨by omega, by omega⟩
            have HRD8 := Lib.hid hrd8
            have HBW8 := Lib.hid hbw8
            have HRO8 := Lib.hid (owns_lower (hbgf.owns hro (by simp)) hBs)
            have HGBD := Lib.hid hgb.2
            obtain ⟨pu, cu, rfl, _, _, _⟩ := slice_form hrd8.grps
            obtain ⟨⟨g0, g1, g2, g3, g4⟩, _⟩ := cells5 _ _ _ _ _ _ _ _ hrd8.g
            have hgl2 : gv.length ≤ 100000 := by have := HLN.out; omega
            clear hR9 hrd8 hbw8 hbB8 hb7 hb8 hbg hbgf hgg hcr hro hgb s0 s1 s2 s3 s4 s5 s6 s7 s8 s9
            go_upto_region 23 with fail
            go_wp2_with (at_builtin; refine wpList_append_own _ rfl (.tmp 100) (.tmp 102) 24 rfl B1 50 i0 _ 2 32 Tryz.underlying24 GI.out G0.out G1.out G2.out rfl (by decide) _ gv.length _ rfl (HRD8.out.grps.alloc _) ⟨w8.heap.size, 0, none⟩ 1 1 (GroupV.cells ⟨g, .slice q g.members.length z⟩) rfl rfl (ten_cell_at w8 #[.int .i64 g.sym, .slice q g.members.length z] 50) (group_cells_one _ rfl) (by unfold maxLen; omega) (by omega) (by simp; omega) ?_)
            intro v9 w9 hown9 hg9 _
            obtain ⟨p9, c9, rfl, _, _, _⟩ := slice_form hown9
            have hal : Below w8.heap.size w8 (w8.alloc (.cells #[.int .i64 g.sym, .slice q g.members.length z] 50)) := (Below.refl _ w8).alloc (Nat.le_refl _) _
            have hf9 : FrT B1 [50] w8 w9 := ((FrT.of_below (N := B1) (Ts := []) hal).mono (by simp)).trans (FrT.grown (HRD8.out.grps.alloc _) hg9 (by simp) (Nat.le_refl _))
            rw [← flat_snoc] at hown9
            have hG9 := hf9.heap HRD8.out.g (by decide)
            have hfs : FrT B1 [27] w9 (w9.setCell ⟨G, 2, none⟩ (.slice p9 (gv.length + 1) c9)) := FrT.set hG9 (by simp) hB3 _
            have hG10 := heap_setCell_same w9 G 2 _ _ (.slice p9 (gv.length + 1) c9) hG9
            have hfa : FrT B1 [27, 50] w8 (w9.setCell ⟨G, 2, none⟩ (.slice p9 (gv.length + 1) c9)) := (hf9.mono (by simp)).trans (hfs.mono (by simp))
            have HRD10 := Lib.hid (HRD8.out.group hfa hG10 (hfs.owns hown9 (by decide)) (hfs.owns (hf9.owns HRO8.out (by decide)) (by decide)) hgsy HGBD.out)
            have HBW10 := Lib.hid (HBW8.out.trans (hfa.below hB8))
            obtain ⟨⟨f0, f1, f2, f3, f4⟩, f5, f6, f7, f8, f9⟩ := cells5 _ _ _ _ _ _ _ _ hG9
            clear hown9 hg9 hal hf9 hG9 hfs hG10 hfa g0 g1 g2 g3 g4 t0 t1
            go_wp2_with fail
            go_roundw
            case rel => exact ⟨i + 1, _, u4, hs, vv, _, sg, by omega, hlt, by go_num, HRD10.out, HBW10.out, HVL.out, hst2.out _, by rw [List.length_append]; simp; omega, HSB.out, (fun y hy => by
              rcases List.mem_append.1 hy with hy | hy
              · exact HGM.out y hy
              · obtain rfl := List.mem_singleton.1 hy
                exact hgml)⟩
            case measure => simp [intOf]; omega
        | false =>
          have hx17 : x.b ≠ 17 := by simpa using h17
          cases h18 : (x.b == 1879002115) with
          | true =>
            have hx18 : x.b = 1879002115 := by simpa using h18
            have htl : toldB l L i = win l x.e.toNat x.f.toNat := by
              unfold toldB
              rw [HX.out]
              simp only
              rw [hx18, show ((1879002115 : Int) == 8 || i == 0) = false by simp; omega]
              rfl
            have hsg : sigGo l hs ((tb : Nat) : Int) x = bif hs || (x.g != (tb : Int)) then none else (listA (toldB l L i)).map fun r => r.map fun (n : Nat) => (n : Int) := by
              unfold sigGo
              rw [htl]
            have HTOX := Lib.hid (HTO.out ws HWS.out i hlt)
            have HLIX := Lib.hid fun W (hW : Below ws.heap.size ws W) => HLI.out W (HWS.out.trans (hW.mono hBs)) i
            have hgo : res = rEndB ys (match sigGo l hs ((tb : Nat) : Int) x with
              | none => none
              | some xs => restGo l L (numGo 0 L) ((tb : Nat) : Int) (L.drop (i + 1)) ⟨vv.map SecV.s, gv.map GroupV.g, true, xs, nmOf L (i + 1)⟩) := by
              rw [HGO.out, rstep_sig HX.out hx18]
              cases sigGo l hs ((tb : Nat) : Int) x <;> rfl
            rw [hsg] at hgo
            generalize hla : listA (toldB l L i) = r at *
            have hbdx : ∀ xs, r = some xs → ∀ y ∈ xs.map (fun (n : Nat) => (n : Int)), i64bd y := fun xs hx => listA_bd (hla.trans hx)
            have HBDX := Lib.hid hbdx
            obtain ⟨bad, hbad⟩ : ∃ bad, bad = (!r.isSome || (hs || (x.g != (tb : Int)))) := ⟨_, rfl⟩
            have HBAD := Lib.hid hbad
            have HGO8 := Lib.hid hgo
            clear htl hsg hla hbdx hgo hbad
            generalize (toldB l L i).length = tl at *
            generalize toldP bp bc L i = tp at *
            generalize toldC bc L i = tc at *
            go_upto_region 26 with (first
              | (go_at_call 31; refine HTOX.out.mono ?_; rintro e w6 ⟨rfl, hb6⟩)
              | (go_at_call 30; refine (HLIX.out w6 hb6).mono ?_; rintro e w7 hg7; obtain ⟨q, m, z, rfl, hb7, hxs⟩ := rlist_let hg7; clear hg7)
              | fail)
            have hb67 := hb6.trans (hb7.mono hb6.size)
            have hR9 := (hb67.block B (by omega)).trans HRS8.out
            have hrd7 := HRDS.out.below hb67
            have hbw7 := HWS.out.trans (hb67.mono hBs)
            have hbB7 := HBW1.out.trans (hbw7.mono (by omega))
            have hB7 : B1 ≤ w7.heap.size := by rw [← hB1s]; exact hbw7.size
            obtain ⟨⟨g0, g1, g2, g3, g4⟩, f0, f1, f2, f3, f4⟩ := cells5 _ _ _ _ _ _ _ _ hrd7.g
            have s6' := cell_later hb67 s6
            have hXO : ∀ xs, r = some xs → m = xs.length ∧ w7.ownsRow B1 3 1 (.slice q m z) m ((xs.map fun (n : Nat) => (n : Int)).map (Value.int .i64)) := fun xs hx => ⟨(hxs xs hx).1, owns_lower (hxs xs hx).2 (by have := hb6.size; omega)⟩
            have HXO := Lib.hid hXO
            have HR9 := Lib.hid hR9
            have HRD7 := Lib.hid hrd7
            have HBW7 := Lib.hid hbw7
            have HBB7 := Lib.hid hbB7
            clear hxs hb6 hb7 hb67 hR9 hrd7 hbw7 hbB7 hXO s0 s1 s2 s3 s4 s5 s6 s7 s8 s9
            go_cut [125] (fun s125 wx => s125 = .bool bad ∧ w7 = wx)
            case first =>
              cases r with
              | none =>
                obtain rfl : bad = true := by rw [HBAD.out]; rfl
                go_wp2_with fail
                go_meet
                exact ⟨rfl, rfl⟩
              | some xs =>
                cases hs with
                | true =>
                  obtain rfl : bad = true := by rw [HBAD.out]; rfl
                  go_wp2_with fail
                  go_meet
                  exact ⟨rfl, rfl⟩
                | false =>
                  have hb2 : bad = (x.g != (tb : Int)) := by rw [HBAD.out]; rfl
                  subst hb2
                  go_wp2_with fail
                  go_meet
                  exact ⟨rfl, rfl⟩
            case rest =>
              obtain ⟨rfl, rfl⟩ := hcut
              cases bad with
              | true =>
                have hE : Hid (res = none) := Lib.hid (by
                  have hb := HBAD.out
                  rw [HGO8.out]
                  cases r with
                  | none => cases hq : (hs || (x.g != (tb : Int))) <;> rfl
                  | some xs =>
                    have hq : (hs || (x.g != (tb : Int))) = true := by simpa using hb.symm
                    rw [hq]
                    rfl)
                clear f0 f1 f2 f3 f4
                obtain ⟨⟨r0, r1, r2, r3, r4⟩, q0, q1, q2, q3, q4⟩ := cells5 _ _ _ _ _ _ _ _ HR9.out
                go_wp2_with fail
                exact rget_none (by rfl) (by rfl) HB.out HR9.out HBB7.out hE.out rfl
              | false =>
                obtain ⟨xs, rfl, hq⟩ : ∃ xs, r = some xs ∧ (hs || (x.g != (tb : Int))) = false := by
                  have hb := HBAD.out.symm
                  rw [Bool.or_eq_false_iff] at hb
                  cases r with
                  | none => cases hb.1
                  | some xs => exact ⟨xs, rfl, hb.2⟩
                obtain ⟨rfl, ho⟩ := HXO.out xs rfl
                have hst2 : Hid (res = rEndB ys (restGo l L (numGo 0 L) ((tb : Nat) : Int) (L.drop (i + 1)) ⟨vv.map SecV.s, gv.map GroupV.g, true, xs.map (fun (n : Nat) => (n : Int)), nmOf L (i + 1)⟩)) := Lib.hid (by rw [HGO8.out, hq]; rfl)
                have hBG : B1 ≤ G := hB3
                have h8a := heap_setCell_same w7 G 3 _ _ (.bool true) HRD7.out.g
                have h8b := heap_setCell_same _ G 4 _ _ (.slice q xs.length z) h8a
                have hf8 : FrT B1 [27] w7 ((w7.setCell ⟨G, 3, none⟩ (.bool true)).setCell ⟨G, 4, none⟩ (.slice q xs.length z)) := (FrT.set HRD7.out.g (by simp) hBG _).trans (FrT.set h8a (by simp) hBG _)
                have HRD8 := Lib.hid (HRD7.out.sigs (xs := xs.map (fun (n : Nat) => (n : Int))) hf8 h8b (by rw [List.length_map]; exact hf8.owns ho (by decide)))
                have HBW8 := Lib.hid (HBW7.out.trans (hf8.below hB7))
                clear h8a h8b hf8 ho
                go_wp2_with fail
                go_roundw
                case rel => exact ⟨i + 1, u2, _, true, vv, gv, _, by omega, hlt, by go_num, HRD8.out, HBW8.out, HVL.out, hst2.out, by omega, HBDX.out xs rfl, HGM.out⟩
                case measure => simp [intOf]; omega
          | false =>
            have hx18 : x.b ≠ 1879002115 := by simpa using h18
            have hst2 : Hid (res = rEndB ys (restGo l L (numGo 0 L) ((tb : Nat) : Int) (L.drop (i + 1)) ⟨vv.map SecV.s, gv.map GroupV.g, hs, sg, nmOf L (i + 1)⟩)) := Lib.hid (by rw [HGO.out, rstep_other HX.out hx4 hx17 hx18])
            clear s0 s2 s3 s4 s5 s6 s7 s8 s9
            go_wp2_with fail
            go_roundw
            case rel => exact ⟨i + 1, u2, u4, hs, vv, gv, sg, by omega, hlt, by go_num, HRDS.out, HWS.out, HVL.out, hst2.out, by omega, HSB.out, HGM.out⟩
            case measure => simp [intOf]; omega
    · obtain rfl : i = ln := by omega
      have hJ : ¬ (i : Int) < (i : Int) := by omega
      have hE : res = bif shapeB ⟨vv.map SecV.s, ys, gv.map GroupV.g, hs, sg⟩ then some ⟨vv.map SecV.s, ys, gv.map GroupV.g, hs, sg⟩ else none := by
        rw [HGO.out, List.drop_eq_nil_of_le (by rw [HLN.out]; exact Nat.le_refl _)]
        rfl
      have HE := Lib.hid hE
      obtain ⟨pu, cu, rfl, _, _, _⟩ := slice_form HRD.out.grps
      obtain ⟨ps, cs, rfl, _, _, _⟩ := slice_form HRD.out.sg
      have hpp := HRD.out.parts HYBD.out HSB.out
      have hsh := shape_any ⟨vv.map SecV.s, ys, gv.map GroupV.g, hs, sg⟩ _ _ _ _ wr hpp (by rw [List.length_map]; have := HLN.out; omega) (fun g hg => by
        obtain ⟨y, hy, rfl⟩ := List.mem_map.1 hg
        have := HGM.out y hy
        omega)
      obtain ⟨o, ho⟩ : ∃ o : ObjD, o = ⟨vv.map SecV.s, ys, gv.map GroupV.g, hs, sg⟩ := ⟨_, rfl⟩
      have hos : o.hasSig = hs := by rw [ho]
      rw [← ho] at hpp hsh hE
      rw [hos] at hsh
      have HSH := Lib.hid hsh
      have HPP := Lib.hid hpp
      have HR7 := Lib.hid hR7
      have HBB := Lib.hid (HBW1.out.trans (hbw.mono (by omega)))
      obtain ⟨⟨g0, g1, g2, g3, g4⟩, _⟩ := cells5 _ _ _ _ _ _ _ _ HRD.out.g
      obtain ⟨q, hq⟩ : ∃ q, q = shapeB o := ⟨_, rfl⟩
      rw [← hq] at HSH hE
      have HE := Lib.hid hE
      have h5c : ObjParts wr (.slice p0 n0 z0) (.slice p1 ys.length z1) (.slice pu gv.length cu) (.slice ps sg.length cs) o := hpp
      have hrr : ∀ W, FrT 0 [27] wr W → ObjParts W (.slice p0 n0 z0) (.slice p1 ys.length z1) (.slice pu gv.length cu) (.slice ps sg.length cs) o := fun W hW => by
        rw [ho]
        have h0 := hW.owns HRD.out.secs (by decide)
        have h1 := isL_secs h0 (fun y hy => (HRD.out.secok y hy).fr hW (by decide) (by decide))
        exact ⟨h1, isL_syms (hW.owns HRD.out.syms (by decide)) HYBD.out, isL_groups (hW.owns HRD.out.grps (by decide)) (fun y hy => (HRD.out.grpok y hy).fr hW (by decide)), isL_ints (hW.owns HRD.out.sg (by decide)) HSB.out⟩
      have HRR := Lib.hid hrr
      have hoh : Hid (o.hasSig = hs) := Lib.hid hos
      clear hpp hsh hE ho hq hrf hrd hgo hsb hgm hR7 hbw hrr h5c hos
      go_upto_region 31 with (first | (go_at_call 14; refine HSH.out.mono ?_; rintro e w7 ⟨rfl, hb7⟩) | fail)
      have hR8 := (hb7.block B (by omega)).trans HR7.out
      have hbB8 := HBB.out.trans (hb7.mono (by omega))
      have HR8 := Lib.hid hR8
      have HBB8 := Lib.hid hbB8
      have HB7 := Lib.hid hb7
      obtain ⟨⟨r0, r1, r2, r3, r4⟩, q0, q1, q2, q3, q4⟩ := cells5 _ _ _ _ _ _ _ _ hR8
      have g0' := cell_later hb7 g0
      have g1' := cell_later hb7 g1
      have g2' := cell_later hb7 g2
      have g3' := cell_later hb7 g3
      have g4' := cell_later hb7 g4
      have hB8 : B ≤ w7.heap.size := Nat.le_of_lt (Array.getElem?_eq_some_iff.1 hR8).1
      clear g0 g1 g2 g3 g4 hR8 hbB8 hb7 c1
      cases q with
      | false =>
        have hE2 : Hid (res = none) := Lib.hid HE.out
        go_wp2_with fail
        exact rget_none (by rfl) (by rfl) HB.out HR8.out HBB8.out hE2.out rfl
      | true =>
        have hE2 : Hid (res = some o) := Lib.hid HE.out
        have hf5 := five_set (.slice p0 n0 z0) (.slice p1 ys.length z1) (.slice pu gv.length cu) (.bool hs) (.slice ps sg.length cs) (Nat.le_refl B) HR8.out
        have HF5 := Lib.hid hf5
        clear hf5
        go_wp2_with fail
        exact rget_end (o := o) (by rfl) (by rfl) HB.out (by rw [hoh.out]; exact HF5.out.1) (HBB8.out.trans (HF5.out.2.below hB8)) (HRR.out _ ((FrT.of_below HB7.out).trans HF5.out.2.zero)) (by rw [hE2.out]; rfl) (.inr hE2.out)
end Go.Proofs.YtenmcmnhiejbgaaGreat
