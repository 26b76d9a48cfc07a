/-
  Contract of the project's own parts: all of an object that has a header, but for the zero one and that of the headers' names.
  Contract: the reference's Begun.
-/
import Derived.Test.YthnkehdcolnegaaGreatNR40
import Derived.Test.YthnkehdcolnegaaGreatNR17
import Derived.Deep.RegionHeld
import Derived.Deep.DeepCutAuto
namespace Go.Proofs.YthnkehdcolnegaaGreat
open Go.RowKit

def linkT (a : Int) (t : Ten) : Ten := ⟨t.a, t.b, t.c, t.d, t.e, t.f, a, t.h, t.i, t.j⟩
def linkV (a : Int) (p : PV) : PV := ⟨linkT a p.h, p.name, p.v⟩
def linkD (a : Int) (p : PartD) : PartD := ⟨linkT a p.h, p.name, p.b⟩
def linkK (a : Int) (k : Nat) (l : List PV) : List PV := (l.take k).map (linkV a) ++ l.drop k
theorem linkK_zero (a : Int) (l : List PV) : linkK a 0 l = l := by simp [linkK]
theorem linkK_all (a : Int) (l : List PV) : linkK a l.length l = l.map (linkV a) := by simp [linkK]
theorem linkK_length (a : Int) (k : Nat) (l : List PV) : (linkK a k l).length = l.length := by simp [linkK]; omega
theorem linkK_step {a : Int} {k : Nat} {l : List PV} (h : k < l.length) : (pvs false (linkK a k l)).set (k * 12 + 7) (.int .i64 a) = pvs false (linkK a (k + 1) l) := by
  have e1 : linkK a k l = (l.take k).map (linkV a) ++ (l[k] :: l.drop (k + 1)) := by unfold linkK; rw [List.drop_eq_getElem_cons h]
  have e2 : linkK a (k + 1) l = (l.take k).map (linkV a) ++ (linkV a l[k] :: l.drop (k + 1)) := by
    unfold linkK
    rw [List.take_add_one, List.getElem?_eq_getElem h, List.map_append]
    simp only [Option.toList, List.map_cons, List.map_nil, List.append_assoc, List.cons_append, List.nil_append]
  have hl : (pvs false ((l.take k).map (linkV a))).length = k * 12 := by rw [pvs_length]; simp; omega
  rw [e1, e2, pvs_append, pvs_append, List.set_append_right _ _ (by omega), hl, show k * 12 + 7 - k * 12 = 7 by omega]
  congr 1
theorem link_parts {w : World} {K : Nat → Prop} {pv : List PV} {pd : List PartD} (a : Int) (h : PartsAt w K pv pd) : PartsAt w K (pv.map (linkV a)) (pd.map (linkD a)) := by
  refine ⟨by simp [h.1], fun i x y hx hy => ?_⟩
  rw [List.getElem?_map] at hx hy
  obtain ⟨x0, hx0, rfl⟩ := Option.map_eq_some_iff.1 hx
  obtain ⟨y0, hy0, rfl⟩ := Option.map_eq_some_iff.1 hy
  obtain ⟨h1, h2, h3⟩ := h.2 i x0 y0 hx0 hy0
  exact ⟨by unfold linkV linkD; rw [h1], h2, h3⟩
theorem link_rel (a : Int) (secs : List SecD) (k : Nat) : ((relPs 0 secs k).map szP).map (linkD a) = (relPs a secs k).map szP := by
  unfold relPs
  rw [List.map_flatMap, List.map_flatMap, List.map_flatMap]
  congr 1
  funext i
  unfold relPartAt relPart
  split
  · split <;> rfl
  · rfl
theorem link_group (a : Int) (gs : List GroupD) (sg : Bool) (sig : List Int) : ((groupPs 0 gs sg sig).map szP).map (linkD a) = (groupPs a gs sg sig).map szP := by
  unfold groupPs
  simp only [List.map_append, List.map_map]
  cases sg <;> rfl
/-- All parts, as the project has them. -/
def ownPs (o : ObjD) : List PartD := o.secs.map secPart ++ ((relPs (symNo o) o.secs o.secs.length ++ groupPs (symNo o) o.groups o.hasSig o.sig).map szP ++ (symPs (symNo o) o.syms).map szP)
theorem hasPs_three (w : World) (T : TypeId) (v1 v2 v3 : Value) (l1 l2 l3 : List PV) (b1 b2 b3 : Nat) (h1 : w.ownsRow b1 228 12 v1 l1.length (pvs false l1)) (h2 : w.ownsRow b2 228 12 v2 l2.length (pvs false l2)) (h3 : w.ownsRow b3 228 12 v3 l3.length (pvs false l3))
    (o1 : ∀ u ∈ pvs false l1, u.oneCell' = true) (o2 : ∀ u ∈ pvs false l2, u.oneCell' = true) (o3 : ∀ u ∈ pvs false l3, u.oneCell' = true) :
    HasPs (w.alloc (.cells #[v1, v2, v3] T)) (some ⟨w.heap.size, 0, none⟩) [l1, l2, l3] := fun i l hl => by
  have hn := heap_new w (.cells #[v1, v2, v3] T)
  match i, hl with
  | 0, hl =>
    simp at hl
    subst hl
    exact ⟨_, _, v1, b1, rfl, (cell_of_row _ w.heap.size 0 _ T (0, 0) hn).trans rfl, h1.alloc _, o1⟩
  | 1, hl =>
    simp at hl
    subst hl
    exact ⟨_, _, v2, b2, rfl, (cell_of_row _ w.heap.size 1 _ T (0, 0) hn).trans rfl, h2.alloc _, o2⟩
  | 2, hl =>
    simp at hl
    subst hl
    exact ⟨_, _, v3, b3, rfl, (cell_of_row _ w.heap.size 2 _ T (0, 0) hn).trans rfl, h3.alloc _, o3⟩

theorem three_parts {w4 wm w5 : World} {lo N : Nat} {T : TypeId} {vO v1 v2 v3 : Value} {l1 l2 l3 : List PV} {d1 d2 d3 d : List PartD} (hd : d = d1 ++ (d2 ++ d3)) (h1 : PartsAt w4 (fun b => lo ≤ b ∧ some b ≠ v1.ownBlock) l1 d1) (h2 : PartsAt w4 (fun b => lo ≤ b ∧ some b ≠ v2.ownBlock) l2 d2) (h3 : PartsAt w4 (fun b => lo ≤ b ∧ some b ≠ v3.ownBlock) l3 d3)
    (hb : Below w4.heap.size w4 wm) (hb5 : Below wm.heap.size wm w5) (ho : w5.ownsRow wm.heap.size T 12 vO ([l1, l2, l3].flatten).length (pvs false [l1, l2, l3].flatten)) (hN : N ≤ w4.heap.size) :
    w5.ownsRow N T 12 vO d.length (pvs false [l1, l2, l3].flatten) ∧ PartsAt w5 (fun b => lo ≤ b ∧ some b ≠ vO.ownBlock) [l1, l2, l3].flatten d := by
  have hf : [l1, l2, l3].flatten = l1 ++ (l2 ++ l3) := by simp
  have hs := hb.size
  have hpt : PartsAt w4 (fun b => lo ≤ b ∧ b < w4.heap.size) (l1 ++ (l2 ++ l3)) (d1 ++ (d2 ++ d3)) := (h1.weaken fun b hb h => ⟨h.1, hb⟩).append ((h2.weaken fun b hb h => ⟨h.1, hb⟩).append (h3.weaken fun b hb h => ⟨h.1, hb⟩))
  subst hd
  rw [hf] at ho ⊢
  constructor
  · rw [← hpt.1]
    exact owns_lower ho (by omega)
  · refine ((hpt.below hb).below hb5).weaken fun b _ h => ⟨h.1, fun e => ?_⟩
    have := (ho.lt b e.symm).1
    omega

theorem own_lt {w : World} {base s n : Nat} {T : TypeId} {v v2 : Value} {xs : List Value} (h : w.ownsRow base T s v n xs) (hlo : ∀ g, v2.ownBlock = some g → w.heap.size ≤ g) : v.ownBlock = none ∨ v.ownBlock ≠ v2.ownBlock := by
  cases hv : v.ownBlock with
  | none => exact .inl rfl
  | some b =>
    refine .inr fun e => ?_
    have h1 := (h.lt b hv).2
    have h2 := hlo b e.symm
    omega

set_option maxRecDepth 100000 in
set_option maxHeartbeats 4000000 in
theorem ownParts_any (o : ObjD) (v0 v1 v2 v4 : Value) (w : World) (hp : ObjParts w v0 v1 v2 v4 o) (hl : Lays o) :
    Calls Tryz.prog 79 #[objV v0 v1 v2 o.hasSig v4] w (GivesParts 228 false 0 (ownPs o) w) := by
  have hb1 : Below w.heap.size w (w.alloc (.cells #[v0, v1, v2, .bool o.hasSig, v4] 27)) := (Below.refl _ w).alloc (Nat.le_refl _) _
  have hpW := hp.below hb1
  obtain ⟨hq, hys, hgp, hsg⟩ := hpW
  have hsgx := hsg
  obtain ⟨p0, c0, rfl, _, _, _, hqh⟩ := hq
  obtain ⟨p1, c1, rfl, _, _, _, hyh⟩ := hys
  obtain ⟨p2, c2, rfl, _, _, _, hgh⟩ := hgp
  have a0 : (w.alloc (.cells #[.slice p0 o.secs.length c0, .slice p1 o.syms.length c1, .slice p2 o.groups.length c2, .bool o.hasSig, v4] 27)).cell? ⟨w.heap.size, 0, none⟩ = some (.slice p0 o.secs.length c0) := by simp
  have a1 : (w.alloc (.cells #[.slice p0 o.secs.length c0, .slice p1 o.syms.length c1, .slice p2 o.groups.length c2, .bool o.hasSig, v4] 27)).cell? ⟨w.heap.size, 1, none⟩ = some (.slice p1 o.syms.length c1) := by simp
  have a2 : (w.alloc (.cells #[.slice p0 o.secs.length c0, .slice p1 o.syms.length c1, .slice p2 o.groups.length c2, .bool o.hasSig, v4] 27)).cell? ⟨w.heap.size, 2, none⟩ = some (.slice p2 o.groups.length c2) := by simp
  have a3 : (w.alloc (.cells #[.slice p0 o.secs.length c0, .slice p1 o.syms.length c1, .slice p2 o.groups.length c2, .bool o.hasSig, v4] 27)).cell? ⟨w.heap.size, 3, none⟩ = some (.bool o.hasSig) := by simp
  have a4 : (w.alloc (.cells #[.slice p0 o.secs.length c0, .slice p1 o.syms.length c1, .slice p2 o.groups.length c2, .bool o.hasSig, v4] 27)).cell? ⟨w.heap.size, 4, none⟩ = some v4 := by simp
  have hbs1 := hb1.size
  have hnsec := hl.nsec
  have hngrp := hl.ngrp
  have hnsym := hl.nsym
  generalize hW1 : w.alloc (.cells #[.slice p0 o.secs.length c0, .slice p1 o.syms.length c1, .slice p2 o.groups.length c2, .bool o.hasSig, v4] 27) = W1 at *
  have hgW : w.heap.size < W1.heap.size := World.block_lt_of_cell? W1 _ a0
  have HSP := Lib.hid fun (W : World) (hW : Below W1.heap.size W1 W) => ownSecParts_any p0 c0 o.secs W (hqh.below ESec.keeps hW) hl.nsec
  have HR := Lib.hid fun (W : World) (hW : Below W1.heap.size W1 W) => ownRelParts_any p0 c0 o.secs W (hqh.below ESec.keeps hW) hl.nsec (fun s hs => ⟨(hl.secs s hs).2.2.2.2.2.2.2.2.1, (hl.secs s hs).2.2.2.2.2.2.2.2.2.2⟩)
  have HG := Lib.hid fun (W : World) (hW : Below W1.heap.size W1 W) => ownGroupParts_any p2 c2 o.groups W (hgh.below EGroup.keeps hW) hl.ngrp (fun g hg => (hl.grps g hg).2.1)
  have HX := Lib.hid fun (W : World) (hW : Below W1.heap.size W1 W) => ownSigParts_any (.slice p0 o.secs.length c0) (.slice p1 o.syms.length c1) (.slice p2 o.groups.length c2) v4 o.hasSig o.sig W (hsgx.below EInt.keeps hW) (by have := hl.nsig; omega) hl.sigs
  have HY := Lib.hid fun (a : Int) (ha : 0 ≤ a ∧ a ≤ 1000) (W : World) (hW : Below W1.heap.size W1 W) => ownSymParts_any p1 c1 o.syms a W ha (hyh.below ESym.keeps hW) hl.nsym hl.syms
  have HSN := Lib.hid (symNo_le hl)
  have HB1 := Lib.hid hb1
  have hop : ownPs o = o.secs.map secPart ++ ((relPs (symNo o) o.secs o.secs.length ++ groupPs (symNo o) o.groups o.hasSig o.sig).map szP ++ (symPs (symNo o) o.syms).map szP) := rfl
  have hsn : symNo o = 1 + o.secs.length + (relPs 0 o.secs o.secs.length).length + (groupPs 0 o.groups o.hasSig o.sig).length := rfl
  have hod : (relPs 0 o.secs o.secs.length ++ groupPs 0 o.groups o.hasSig o.sig).map szP = (relPs 0 o.secs o.secs.length).map szP ++ ((o.groups.map (groupPart 0)).map szP ++ (bif o.hasSig then [sigPart 0 o.sig] else []).map szP) := by unfold groupPs; rw [List.map_append, List.map_append]
  have HOP := Lib.hid hop
  have HSNO := Lib.hid hsn
  have HOD := Lib.hid hod
  clear hp hl hb1 hqh hyh hgh hsg hsgx hop hsn hod
  generalize hql : o.secs.length = ql at *
  generalize hyl : o.syms.length = yl at *
  generalize hgl : o.groups.length = gl at *
  generalize o.hasSig = sg at *
  have HQL := Lib.hid hql
  have HGL := Lib.hid hgl
  clear hql hyl hgl
  go_enter Tryz.func79, Tryz.ntmps79
  go_upto_region 1 with fail
  clear hW1
  go_wp2_with fail
  refine (HSP.out _ (Below.refl _ _)).mono ?_
  rintro e wa ⟨vS, pvS, rfl, hownS, hpaS, hbA⟩
  have hbAs := hbA.size
  have z0 := cell_later hbA a0
  have z1 := cell_later hbA a1
  have z2 := cell_later hbA a2
  have z3 := cell_later hbA a3
  have z4 := cell_later hbA a4
  have HPS := Lib.hid hpaS
  clear hpaS a0 a1 a2 a3 a4 HSP
  have hocS := HPS.out.oneCell (q := false)
  have HOCS := Lib.hid hocS
  have hsl : (o.secs.map secPart).length = ql := by rw [List.length_map, HQL.out]
  rw [hsl] at hownS
  clear hocS
  have hnr : (relPs 0 o.secs ql).length ≤ ql := relPs_len _ _ _
  have hng := groupPs_len 0 o.groups sg o.sig
  have hgl2 : o.groups.length ≤ 40 := by have := HGL.out; omega
  go_upto_region 2 with fail
  go_cut [4] (fun s4 wx => ∃ (pvO : List PV), wx.ownsRow wa.heap.size 228 12 s4 ((relPs 0 o.secs ql ++ groupPs 0 o.groups sg o.sig).map szP).length (pvs false pvO) ∧ PartsAt wx (fun b => wa.heap.size ≤ b ∧ some b ≠ s4.ownBlock) pvO ((relPs 0 o.secs ql ++ groupPs 0 o.groups sg o.sig).map szP) ∧ Below wa.heap.size wa wx)
  case first =>
    clear HY HOP HSNO
    go_region_held3 (fun W => W.cell? ⟨w.heap.size, 0, none⟩ = some (.slice p0 ql c0) ∧ W.cell? ⟨w.heap.size, 1, none⟩ = some (.slice p1 yl c1) ∧ W.cell? ⟨w.heap.size, 2, none⟩ = some (.slice p2 gl c2) ∧ W.cell? ⟨w.heap.size, 3, none⟩ = some (.bool sg) ∧ W.cell? ⟨w.heap.size, 4, none⟩ = some v4) (first | go_keep | exact ⟨z0, z1, z2, z3, z4⟩ | exact ⟨e0, e1, e2, e3, e4⟩ | exact ⟨g0, g1, g2, g3, g4⟩ | exact ⟨k0, k1, k2, k3, k4⟩ | exact ⟨m0, m1, m2, m3, m4⟩ | exact ⟨q0, q1, q2, q3, q4⟩ | fail)
      ((first
        | (go_at_call 131
           refine (HR.out _ (by exact hbA.drew)).mono ?_
           rintro e w2 ⟨vR, pvR, rfl, hownR, hpaR, hbb2⟩
           rw [List.length_map] at hownR
           obtain ⟨pR, cR, rfl, _, _, _⟩ := slice_form hownR
           have e0 : w2.cell? ⟨w.heap.size, 0, none⟩ = some (.slice p0 ql c0) := cell_later hbb2 z0
           have e1 : w2.cell? ⟨w.heap.size, 1, none⟩ = some (.slice p1 yl c1) := cell_later hbb2 z1
           have e2 : w2.cell? ⟨w.heap.size, 2, none⟩ = some (.slice p2 gl c2) := cell_later hbb2 z2
           have e3 : w2.cell? ⟨w.heap.size, 3, none⟩ = some (.bool sg) := cell_later hbb2 z3
           have e4 : w2.cell? ⟨w.heap.size, 4, none⟩ = some v4 := cell_later hbb2 z4
           have hb2 : Below W1.heap.size W1 w2 := hbA.drew.trans (hbb2.mono (by exact hbAs))
           have hbl2 : Below wa.heap.size wa w2 := (Below.refl _ wa).drew.trans hbb2
           have hownR' : w2.ownsRow wa.heap.size 228 12 (.slice pR (relPs 0 o.secs ql).length cR) (relPs 0 o.secs ql).length (pvs false pvR) := hownR
           have HPR : Hid (PartsAt w2 (fun b => wa.heap.size ≤ b ∧ some b ≠ (Value.slice pR (relPs 0 o.secs ql).length cR).ownBlock) pvR ((relPs 0 o.secs ql).map szP)) := Lib.hid hpaR
           clear hownR hpaR hbb2)
        | (go_at_call 132
           refine (HG.out _ (by exact hb2)).mono ?_
           rintro e w3 ⟨vG, pvG, rfl, hownG, hpaG, hbb3⟩
           rw [List.length_map, List.length_map] at hownG
           obtain ⟨pG, cG, rfl, _, _, _⟩ := slice_form hownG
           have g0 : w3.cell? ⟨w.heap.size, 0, none⟩ = some (.slice p0 ql c0) := cell_later hbb3 e0
           have g1 : w3.cell? ⟨w.heap.size, 1, none⟩ = some (.slice p1 yl c1) := cell_later hbb3 e1
           have g2 : w3.cell? ⟨w.heap.size, 2, none⟩ = some (.slice p2 gl c2) := cell_later hbb3 e2
           have g3 : w3.cell? ⟨w.heap.size, 3, none⟩ = some (.bool sg) := cell_later hbb3 e3
           have g4 : w3.cell? ⟨w.heap.size, 4, none⟩ = some v4 := cell_later hbb3 e4
           have hb3 : Below W1.heap.size W1 w3 := hb2.trans (hbb3.mono hb2.size)
           have hbl3 : Below wa.heap.size wa w3 := hbl2.trans (hbb3.mono hbl2.size)
           have hownR3 := owns_belowN hownR' hbb3
           have HPR3 := Lib.hid (HPR.out.below hbb3)
           have HPG := Lib.hid hpaG
           have hl2 := hbl2.size
           clear hpaG hbb3 hownR' HPR)
        | (go_at_call 133
           refine (HX.out _ (by exact hb3)).mono ?_
           rintro e w4 ⟨vX, pvX, rfl, hownX, hpaX, hbb4⟩
           rw [List.length_map] at hownX
           obtain ⟨pX, cX, rfl, _, _, _⟩ := slice_form hownX
           have k0 : w4.cell? ⟨w.heap.size, 0, none⟩ = some (.slice p0 ql c0) := cell_later hbb4 g0
           have k1 : w4.cell? ⟨w.heap.size, 1, none⟩ = some (.slice p1 yl c1) := cell_later hbb4 g1
           have k2 : w4.cell? ⟨w.heap.size, 2, none⟩ = some (.slice p2 gl c2) := cell_later hbb4 g2
           have k3 : w4.cell? ⟨w.heap.size, 3, none⟩ = some (.bool sg) := cell_later hbb4 g3
           have k4 : w4.cell? ⟨w.heap.size, 4, none⟩ = some v4 := cell_later hbb4 g4
           have hl3 := hbl3.size
           have hbl4 : Below wa.heap.size wa w4 := hbl3.trans (hbb4.mono hl3)
           have hl4 := hbl4.size
           have hownR4 := owns_belowN hownR3 hbb4
           have hownG4 := owns_belowN hownG hbb4
           have HPR4 := Lib.hid (HPR3.out.below hbb4)
           have HPG4 := Lib.hid (HPG.out.below hbb4)
           have HPX := Lib.hid hpaX
           have hbm : Below w4.heap.size w4 (w4.alloc (.cells #[(.slice pR (relPs 0 o.secs ql).length cR), (.slice pG o.groups.length cG), (.slice pX (bif sg then [sigPart 0 o.sig] else []).length cX)] 167)) := (Below.refl _ w4).alloc (Nat.le_refl _) _
           have m0 := cell_later hbm k0
           have m1 := cell_later hbm k1
           have m2 := cell_later hbm k2
           have m3 := cell_later hbm k3
           have m4 := cell_later hbm k4
           clear hpaX hbb4 hownR3 hownG HPR3 HPG)
        | (go_at_call 130
           refine (concatP_any (some ⟨w4.heap.size, 0, none⟩) 3 3 [pvR, pvG, pvX] _ (hasPs_three w4 167 _ _ _ pvR pvG pvX _ _ _ (by rw [HPR4.out.1, List.length_map]; exact hownR4) (by rw [HPG4.out.1, List.length_map, List.length_map]; exact hownG4) (by rw [HPX.out.1, List.length_map]; exact hownX) (HPR4.out.oneCell (q := false)) (HPG4.out.oneCell (q := false)) (HPX.out.oneCell (q := false))) rfl (by omega) (by
             have f1 := HPR4.out.1
             have f2 := HPG4.out.1
             have f3 := HPX.out.1
             rw [List.length_map] at f1 f2 f3
             rw [List.length_map] at f2
             have f4 : (bif sg then [sigPart 0 o.sig] else []).length ≤ 1 := by cases sg <;> simp
             simp only [List.flatten_cons, List.flatten_nil, List.length_append, List.length_nil]
             omega)).mono ?_
           rintro e w5 ⟨vO, rfl, hownO, hbb5⟩
           have q0 := cell_later hbb5 m0
           have q1 := cell_later hbb5 m1
           have q2 := cell_later hbb5 m2
           have q3 := cell_later hbb5 m3
           have q4 := cell_later hbb5 m4
           have HF := Lib.hid (three_parts HOD.out (HPR4.out.weaken fun b _ h => h) (HPG4.out.weaken fun b _ h => ⟨by omega, h.2⟩) (HPX.out.weaken fun b _ h => ⟨by omega, h.2⟩) hbm hbb5 hownO hl4)
           have hbl5 : Below wa.heap.size wa w5 := hbl4.trans ((hbm.trans (hbb5.mono hbm.size)).mono hl4))
        | fail))
    go_wp2_with fail
    go_meet
    exact ⟨_, HF.out.1, HF.out.2, hbl5⟩
  case rest =>
    obtain ⟨pvO, hownO, hpaO, hbO⟩ := hcut
    have hodl : ((relPs 0 o.secs ql ++ groupPs 0 o.groups sg o.sig).map szP).length = (relPs 0 o.secs ql).length + (groupPs 0 o.groups sg o.sig).length := by rw [List.length_map, List.length_append]
    have hlk : ((relPs 0 o.secs ql ++ groupPs 0 o.groups sg o.sig).map szP).map (linkD (symNo o : Int)) = (relPs (symNo o) o.secs ql ++ groupPs (symNo o) o.groups sg o.sig).map szP := by
      rw [List.map_append, List.map_append, link_rel, link_group, ← List.map_append]
    have hsno := HSNO.out
    have hsle := HSN.out
    have HLK := Lib.hid hlk
    have hpl := hpaO.1
    clear hlk HR HG HX HOD
    generalize (relPs 0 o.secs ql ++ groupPs 0 o.groups sg o.sig).map szP = od at *
    generalize (relPs (symNo o) o.secs ql ++ groupPs (symNo o) o.groups sg o.sig).map szP = od2 at *
    generalize (relPs 0 o.secs ql).length = n1 at *
    generalize (groupPs 0 o.groups sg o.sig).length = n2 at *
    generalize wc = wb at *
    generalize hsa : symNo o = sa at *
    generalize hnn : od.length = n at *
    have hsa2 : sa = 1 + ql + n := by omega
    have HSA := Lib.hid hsa2
    have hn9 : n ≤ 122 := by omega
    have HPL := Lib.hid hpl
    have HPO := Lib.hid hpaO
    have hownS2 := owns_belowN hownS hbO
    have hownS9 := hownS
    have HPS9 := Lib.hid HPS.out
    have HPS2 := Lib.hid (HPS.out.below hbO)
    obtain ⟨pS, cS, rfl, _, _, _⟩ := slice_form hownS
    obtain ⟨pO, cO, rfl, _, _, _⟩ := slice_form hownO
    have kk1 : IntKind.i64.wrap (1 + (ql : Int)) = 1 + (ql : Int) := IntWalk.i64_in _ (by omega)
    have kk2 : IntKind.i64.wrap (1 + (ql : Int) + (n : Int)) = (sa : Int) := by rw [show 1 + (ql : Int) + (n : Int) = (sa : Int) by omega]; exact IntWalk.i64_in _ (by omega)
    have HNN := Lib.hid hnn
    clear hodl hsno hsa hsa2 hnn hpl hownS hpaO HPS HSNO
    go_wp2_with fail
    go_loopw [6, 28] (fun r6 r28 wr => ∃ (k : Nat), k ≤ n ∧ r28 = .int .i64 (k : Int) ∧ wr.ownsRow wa.heap.size 228 12 (.slice pO n cO) n (pvs false (linkK sa k pvO)) ∧ wb.grownBy wr (Value.slice pO n cO).ownBlock) (fun _ r28 _ => n - (intOf r28).toNat)
    case atStart => exact ⟨0, Nat.zero_le _, rfl, by rw [linkK_zero]; exact hownO, World.grownBy.refl _ _⟩
    case round =>
      obtain ⟨k, hk, rfl, hown, hgr⟩ := hrel
      by_cases hlt : k < n
      · have hfr := hown.2
        rcases hfr with ⟨_, h0⟩ | ⟨g, cap, cur, he, _, _, _, _, _, _⟩
        · omega
        simp only [Value.slice.injEq] at he
        obtain ⟨rfl, _, rfl⟩ := he
        have hkl : k < pvO.length := by have := HPL.out; omega
        have hcx := hown.cellAt (k * 12 + 7) (by omega)
        have hst := hown.stored (k * 12 + 7) (.int .i64 (sa : Int))
        rw [linkK_step hkl] at hst
        have hcx2 : wr.cell? ⟨g, k * 12 + 7, none⟩ = some ((pvs false (linkK sa k pvO))[k * 12 + 7]'(by rw [pvs_length, linkK_length]; omega)) := by rw [hcx]; exact List.getElem?_eq_getElem _
        generalize (pvs false (linkK sa k pvO))[k * 12 + 7]'(by rw [pvs_length, linkK_length]; omega) = u0 at hcx2
        have hf := hown.frozenAt (k * 12 + 7)
        have HST := Lib.hid hst.1
        have HGR : Hid (wb.grownBy (wr.setCell ⟨g, k * 12 + 7, none⟩ (.int .i64 (sa : Int))) (some g)) := Lib.hid (hgr.trans hst.2)
        have hJ : (k : Int) < (n : Int) := by omega
        have k2 : (0 : Int) ≤ (k : Int) := by omega
        clear hcx hst hown hgr
        go_wp2_with fail
        go_roundw
        case rel => exact ⟨k + 1, hlt, by go_num, HST.out, HGR.out⟩
        case measure => simp [intOf]; omega
      · obtain rfl : k = n := by omega
        have hlkl : linkK sa k pvO = pvO.map (linkV sa) := by rw [show k = pvO.length from HPL.out.symm, linkK_all]
        rw [hlkl] at hown
        have hlo := fun g hg => (hownO.lt g hg).1
        have hbR : Below wa.heap.size wa wr := hbO.grown hgr hbO.size hlo
        have HPO3 : Hid (PartsAt wr (fun b => wa.heap.size ≤ b ∧ some b ≠ (Value.slice pO k cO).ownBlock) (pvO.map (linkV sa)) od2) := Lib.hid (by
          have h1 := link_parts (sa : Int) (HPO.out.grown hgr (.inl rfl))
          rw [HLK.out] at h1
          exact h1)
        have hbS : Below wa.heap.size wa wr := hbR
        have hownS3 : wr.ownsRow W1.heap.size 228 12 (.slice pS ql cS) ql (pvs false pvS) := hownS2.kept hgr (own_lt hownS9 hlo)
        have HPS3 := Lib.hid (HPS9.out.below hbR)
        have y1 := cell_later hbR z1
        have hbW : Below W1.heap.size W1 wr := hbA.trans (hbR.mono hbAs)
        have hbWs := hbW.size
        have hbRs := hbR.size
        have HYY := Lib.hid (HY.out (sa : Int) ⟨by omega, by omega⟩)
        have hJ : ¬ (k : Int) < (k : Int) := by omega
        have hsy : ((symPs (sa : Int) o.syms).map szP).length = 2 := rfl
        have HSY := Lib.hid hsy
        clear hlkl hgr hbO hownO HPO hownS2 HPS2 hlo z0 z1 z2 z3 z4 hsy
        go_wp2_with fail
        refine (HYY.out _ hbW).mono ?_
        rintro e wy ⟨vY, pvY, rfl, hownY, hpaY, hbY⟩
        rw [HSY.out] at hownY
        obtain ⟨pY, cY, rfl, _, _, _⟩ := slice_form hownY
        have hownS4 := owns_belowN hownS3 hbY
        have hownO4 := owns_belowN hown hbY
        have HPS4 := Lib.hid (HPS3.out.below hbY)
        have HPO4 := Lib.hid (HPO3.out.below hbY)
        have HPY := Lib.hid hpaY
        have hsl3 : pvS.length = ql := by rw [HPS4.out.1, List.length_map]; exact HQL.out
        have hsl4 : (pvO.map (linkV sa)).length = k := by rw [List.length_map]; exact HPL.out
        have hsl5 : pvY.length = 2 := by rw [HPY.out.1]; exact HSY.out
        have hps3 := hasPs_three wy 167 (.slice pS ql cS) (.slice pO k cO) (.slice pY 2 cY) pvS (pvO.map (linkV sa)) pvY _ _ _ (by rw [hsl3]; exact hownS4) (by rw [hsl4]; exact hownO4) (by rw [hsl5]; exact hownY) (HPS4.out.oneCell (q := false)) (HPO4.out.oneCell (q := false)) (HPY.out.oneCell (q := false))
        have hflen : ([pvS, pvO.map (linkV sa), pvY].flatten).length ≤ 100000 := by
          simp only [List.flatten_cons, List.flatten_nil, List.length_append, List.length_nil]
          omega
        have HCC := Lib.hid (concatP_any (some ⟨wy.heap.size, 0, none⟩) 3 3 [pvS, pvO.map (linkV sa), pvY] _ hps3 rfl (by omega) hflen)
        have hbY2 : Below W1.heap.size W1 wy := hbW.trans (hbY.mono hbWs)
        have hbm : Below wy.heap.size wy (wy.alloc (.cells #[(.slice pS ql cS), (.slice pO k cO), (.slice pY 2 cY)] 167)) := (Below.refl _ wy).alloc (Nat.le_refl _) _
        have HBM := Lib.hid hbm
        clear hownS3 hown hownY hownS4 hownO4 HPS3 HPO3 hpaY hbY hps3 hflen hsl3 hsl4 hsl5 hbm y1 hbR hbS
        go_wp2_with fail
        refine HCC.out.mono ?_
        rintro e w5 ⟨vF, rfl, hownF, hbF⟩
        have hf := three_parts (lo := 0) (d := ownPs o) (N := W1.heap.size) (by rw [HOP.out]) HPS4.out (HPO4.out.weaken fun b _ h => ⟨by omega, h.2⟩) (HPY.out.weaken fun b _ h => ⟨by omega, h.2⟩) HBM.out hbF hownF (by have := hbY2.size; omega)
        have HF := Lib.hid hf
        have hbFin : Below w.heap.size w w5 := HB1.out.trans ((hbY2.trans ((HBM.out.trans (hbF.mono HBM.out.size)).mono hbY2.size)).mono hbs1)
        clear hownF hbF hf hbY2
        go_wp2_with fail
        go_ret
        exact ⟨vF, _, rfl, owns_lower HF.out.1 (by omega), HF.out.2, hbFin⟩
end Go.Proofs.YthnkehdcolnegaaGreat

namespace Go.Proofs.YthnkehdcolnegaaGreat
open Go.RowKit

abbrev hd3 (a m n : Int) : Value := .agg #[.int .i64 a, .int .i64 m, .int .i64 n]
end Go.Proofs.YthnkehdcolnegaaGreat
