/-
  Contract of the project's own parts: all of an object that has a header, but for the zero one and that of the headers' names.
  The project's own lay, as a function of lists; what may be laid.
  The project's laying of an object's parts, and the document's: the same bytes.
-/
import Derived.Test.YtenmcmnhiejbgaaGreatJg30
import Derived.Test.YtenmcmnhiejbgaaGreatJg09
import Derived.Test.YtenmcmnhiejbgaaGreatJg08
import Derived.Test.YtenmcmnhiejbgaaGreatJg14
namespace Go.Proofs.YtenmcmnhiejbgaaGreat
open Go.RowKit

def linkT (a : Int) (t : Ten) : Ten := ⟨t.a, t.b, t.c, t.d, t.e, t.f, a, t.h, t.i, t.j⟩
def linkV (a : Int) (p : PV) : PV := ⟨linkT a p.h, p.name, p.v⟩
def linkD (a : Int) (p : PartD) : PartD := ⟨linkT a p.h, p.name, p.b⟩
def linkK (a : Int) (k : Nat) (l : List PV) : List PV := (l.take k).map (linkV a) ++ l.drop k
theorem linkK_zero (a : Int) (l : List PV) : linkK a 0 l = l := by simp [linkK]
theorem linkK_all (a : Int) (l : List PV) : linkK a l.length l = l.map (linkV a) := by simp [linkK]
theorem linkK_length (a : Int) (k : Nat) (l : List PV) : (linkK a k l).length = l.length := by simp [linkK]; omega
theorem linkK_step {a : Int} {k : Nat} {l : List PV} (h : k < l.length) : (pvs false (linkK a k l)).set (k * 12 + 7) (.int .i64 a) = pvs false (linkK a (k + 1) l) := by
  have e1 : linkK a k l = (l.take k).map (linkV a) ++ (l[k] :: l.drop (k + 1)) := by unfold linkK; rw [List.drop_eq_getElem_cons h]
  have e2 : linkK a (k + 1) l = (l.take k).map (linkV a) ++ (linkV a l[k] :: l.drop (k + 1)) := by
    unfold linkK
    rw [List.take_add_one, List.getElem?_eq_getElem h, List.map_append]
    simp only [Option.toList, List.map_cons, List.map_nil, List.append_assoc, List.cons_append, List.nil_append]
  have hl : (pvs false ((l.take k).map (linkV a))).length = k * 12 := by rw [pvs_length]; simp; omega
  rw [e1, e2, pvs_append, pvs_append, List.set_append_right _ _ (by omega), hl, show k * 12 + 7 - k * 12 = 7 by omega]
  congr 1
theorem link_parts {w : World} {K : Nat → Prop} {pv : List PV} {pd : List PartD} (a : Int) (h : PartsAt w K pv pd) : PartsAt w K (pv.map (linkV a)) (pd.map (linkD a)) := by
  refine ⟨by simp [h.1], fun i x y hx hy => ?_⟩
  rw [List.getElem?_map] at hx hy
  obtain ⟨x0, hx0, rfl⟩ := Option.map_eq_some_iff.1 hx
  obtain ⟨y0, hy0, rfl⟩ := Option.map_eq_some_iff.1 hy
  obtain ⟨h1, h2, h3⟩ := h.2 i x0 y0 hx0 hy0
  exact ⟨by unfold linkV linkD; rw [h1], h2, h3⟩
theorem link_rel (a : Int) (secs : List SecD) (k : Nat) : ((relPs 0 secs k).map szP).map (linkD a) = (relPs a secs k).map szP := by
  unfold relPs
  rw [List.map_flatMap, List.map_flatMap, List.map_flatMap]
  congr 1
  funext i
  unfold relPartAt relPart
  split
  · split <;> rfl
  · rfl
theorem link_group (a : Int) (gs : List GroupD) (sg : Bool) (sig : List Int) : ((groupPs 0 gs sg sig).map szP).map (linkD a) = (groupPs a gs sg sig).map szP := by
  unfold groupPs
  simp only [List.map_append, List.map_map]
  cases sg <;> rfl
/-- All parts, as the project has them. -/
def ownPs (o : ObjD) : List PartD := o.secs.map secPart ++ ((relPs (symNo o) o.secs o.secs.length ++ groupPs (symNo o) o.groups o.hasSig o.sig).map szP ++ (symPs (symNo o) o.syms).map szP)
theorem hasPs_three (w : World) (T : TypeId) (v1 v2 v3 : Value) (l1 l2 l3 : List PV) (b1 b2 b3 : Nat) (h1 : w.ownsRow b1 127 12 v1 l1.length (pvs false l1)) (h2 : w.ownsRow b2 127 12 v2 l2.length (pvs false l2)) (h3 : w.ownsRow b3 127 12 v3 l3.length (pvs false l3))
    (o1 : ∀ u ∈ pvs false l1, u.oneCell' = true) (o2 : ∀ u ∈ pvs false l2, u.oneCell' = true) (o3 : ∀ u ∈ pvs false l3, u.oneCell' = true) :
    HasPs (w.alloc (.cells #[v1, v2, v3] T)) (some ⟨w.heap.size, 0, none⟩) [l1, l2, l3] := fun i l hl => by
  have hn := heap_new w (.cells #[v1, v2, v3] T)
  match i, hl with
  | 0, hl =>
    simp at hl
    subst hl
    exact ⟨_, _, v1, b1, rfl, (cell_of_row _ w.heap.size 0 _ T (0, 0) hn).trans rfl, h1.alloc _, o1⟩
  | 1, hl =>
    simp at hl
    subst hl
    exact ⟨_, _, v2, b2, rfl, (cell_of_row _ w.heap.size 1 _ T (0, 0) hn).trans rfl, h2.alloc _, o2⟩
  | 2, hl =>
    simp at hl
    subst hl
    exact ⟨_, _, v3, b3, rfl, (cell_of_row _ w.heap.size 2 _ T (0, 0) hn).trans rfl, h3.alloc _, o3⟩

theorem three_parts {w4 wm w5 : World} {lo N : Nat} {T : TypeId} {vO v1 v2 v3 : Value} {l1 l2 l3 : List PV} {d1 d2 d3 d : List PartD} (hd : d = d1 ++ (d2 ++ d3)) (h1 : PartsAt w4 (fun b => lo ≤ b ∧ some b ≠ v1.ownBlock) l1 d1) (h2 : PartsAt w4 (fun b => lo ≤ b ∧ some b ≠ v2.ownBlock) l2 d2) (h3 : PartsAt w4 (fun b => lo ≤ b ∧ some b ≠ v3.ownBlock) l3 d3)
    (hb : Below w4.heap.size w4 wm) (hb5 : Below wm.heap.size wm w5) (ho : w5.ownsRow wm.heap.size T 12 vO ([l1, l2, l3].flatten).length (pvs false [l1, l2, l3].flatten)) (hN : N ≤ w4.heap.size) :
    w5.ownsRow N T 12 vO d.length (pvs false [l1, l2, l3].flatten) ∧ PartsAt w5 (fun b => lo ≤ b ∧ some b ≠ vO.ownBlock) [l1, l2, l3].flatten d := by
  have hf : [l1, l2, l3].flatten = l1 ++ (l2 ++ l3) := by simp
  have hs := hb.size
  have hpt : PartsAt w4 (fun b => lo ≤ b ∧ b < w4.heap.size) (l1 ++ (l2 ++ l3)) (d1 ++ (d2 ++ d3)) := (h1.weaken fun b hb h => ⟨h.1, hb⟩).append ((h2.weaken fun b hb h => ⟨h.1, hb⟩).append (h3.weaken fun b hb h => ⟨h.1, hb⟩))
  subst hd
  rw [hf] at ho ⊢
  constructor
  · rw [← hpt.1]
    exact owns_lower ho (by omega)
  · refine ((hpt.below hb).below hb5).weaken fun b _ h => ⟨h.1, fun e => ?_⟩
    have := (ho.lt b e.symm).1
    omega

theorem own_lt {w : World} {base s n : Nat} {T : TypeId} {v v2 : Value} {xs : List Value} (h : w.ownsRow base T s v n xs) (hlo : ∀ g, v2.ownBlock = some g → w.heap.size ≤ g) : v.ownBlock = none ∨ v.ownBlock ≠ v2.ownBlock := by
  cases hv : v.ownBlock with
  | none => exact .inl rfl
  | some b =>
    refine .inr fun e => ?_
    have h1 := (h.lt b hv).2
    have h2 := hlo b e.symm
    omega

set_option maxRecDepth 100000 in
set_option maxHeartbeats 4000000 in
theorem ownParts_any (o : ObjD) (v0 v1 v2 v4 : Value) (w : World) (hp : ObjParts w v0 v1 v2 v4 o) (hl : Lays o) :
    Calls Tryz.prog 37 #[objV v0 v1 v2 o.hasSig v4] w (GivesParts 127 false 0 (ownPs o) w) := by
  have hb1 : Below w.heap.size w (w.alloc (.cells #[v0, v1, v2, .bool o.hasSig, v4] 27)) := (Below.refl _ w).alloc (Nat.le_refl _) _
  have hpW := hp.below hb1
  obtain ⟨hq, hys, hgp, hsg⟩ := hpW
  have hsgx := hsg
  obtain ⟨p0, c0, rfl, _, _, _, hqh⟩ := hq
  obtain ⟨p1, c1, rfl, _, _, _, hyh⟩ := hys
  obtain ⟨p2, c2, rfl, _, _, _, hgh⟩ := hgp
  have a0 : (w.alloc (.cells #[.slice p0 o.secs.length c0, .slice p1 o.syms.length c1, .slice p2 o.groups.length c2, .bool o.hasSig, v4] 27)).cell? ⟨w.heap.size, 0, none⟩ = some (.slice p0 o.secs.length c0) := by simp
  have a1 : (w.alloc (.cells #[.slice p0 o.secs.length c0, .slice p1 o.syms.length c1, .slice p2 o.groups.length c2, .bool o.hasSig, v4] 27)).cell? ⟨w.heap.size, 1, none⟩ = some (.slice p1 o.syms.length c1) := by simp
  have a2 : (w.alloc (.cells #[.slice p0 o.secs.length c0, .slice p1 o.syms.length c1, .slice p2 o.groups.length c2, .bool o.hasSig, v4] 27)).cell? ⟨w.heap.size, 2, none⟩ = some (.slice p2 o.groups.length c2) := by simp
  have a3 : (w.alloc (.cells #[.slice p0 o.secs.length c0, .slice p1 o.syms.length c1, .slice p2 o.groups.length c2, .bool o.hasSig, v4] 27)).cell? ⟨w.heap.size, 3, none⟩ = some (.bool o.hasSig) := by simp
  have a4 : (w.alloc (.cells #[.slice p0 o.secs.length c0, .slice p1 o.syms.length c1, .slice p2 o.groups.length c2, .bool o.hasSig, v4] 27)).cell? ⟨w.heap.size, 4, none⟩ = some v4 := by simp
  have hbs1 := hb1.size
  have hnsec := hl.nsec
  have hngrp := hl.ngrp
  have hnsym := hl.nsym
  generalize hW1 : w.alloc (.cells #[.slice p0 o.secs.length c0, .slice p1 o.syms.length c1, .slice p2 o.groups.length c2, .bool o.hasSig, v4] 27) = W1 at *
  have hgW : w.heap.size < W1.heap.size := World.block_lt_of_cell? W1 _ a0
  have HSP := Lib.hid fun (W : World) (hW : Below W1.heap.size W1 W) => ownSecParts_any p0 c0 o.secs W (hqh.below ESec.keeps hW) hl.nsec
  have HR := Lib.hid fun (W : World) (hW : Below W1.heap.size W1 W) => ownRelParts_any p0 c0 o.secs W (hqh.below ESec.keeps hW) hl.nsec (fun s hs => ⟨(hl.secs s hs).2.2.2.2.2.2.2.2.1, (hl.secs s hs).2.2.2.2.2.2.2.2.2.2⟩)
  have HG := Lib.hid fun (W : World) (hW : Below W1.heap.size W1 W) => ownGroupParts_any p2 c2 o.groups W (hgh.below EGroup.keeps hW) hl.ngrp (fun g hg => (hl.grps g hg).2.1)
  have HX := Lib.hid fun (W : World) (hW : Below W1.heap.size W1 W) => ownSigParts_any (.slice p0 o.secs.length c0) (.slice p1 o.syms.length c1) (.slice p2 o.groups.length c2) v4 o.hasSig o.sig W (hsgx.below EInt.keeps hW) (by have := hl.nsig; omega) hl.sigs
  have HY := Lib.hid fun (a : Int) (ha : 0 ≤ a ∧ a ≤ 1000) (W : World) (hW : Below W1.heap.size W1 W) => ownSymParts_any p1 c1 o.syms a W ha (hyh.below ESym.keeps hW) hl.nsym hl.syms
  have HSN := Lib.hid (symNo_le hl)
  have HB1 := Lib.hid hb1
  have hop : ownPs o = o.secs.map secPart ++ ((relPs (symNo o) o.secs o.secs.length ++ groupPs (symNo o) o.groups o.hasSig o.sig).map szP ++ (symPs (symNo o) o.syms).map szP) := rfl
  have hsn : symNo o = 1 + o.secs.length + (relPs 0 o.secs o.secs.length).length + (groupPs 0 o.groups o.hasSig o.sig).length := rfl
  have hod : (relPs 0 o.secs o.secs.length ++ groupPs 0 o.groups o.hasSig o.sig).map szP = (relPs 0 o.secs o.secs.length).map szP ++ ((o.groups.map (groupPart 0)).map szP ++ (bif o.hasSig then [sigPart 0 o.sig] else []).map szP) := by unfold groupPs; rw [List.map_append, List.map_append]
  have HOP := Lib.hid hop
  have HSNO := Lib.hid hsn
  have HOD := Lib.hid hod
  clear hp hl hb1 hqh hyh hgh hsg hsgx hop hsn hod
  generalize hql : o.secs.length = ql at *
  generalize hyl : o.syms.length = yl at *
  generalize hgl : o.groups.length = gl at *
  generalize o.hasSig = sg at *
  have HQL := Lib.hid hql
  have HGL := Lib.hid hgl
  clear hql hyl hgl
  go_enter Tryz.func37, Tryz.ntmps37
  go_upto_region 1 with fail
  clear hW1
  go_wp2_with fail
  refine (HSP.out _ (Below.refl _ _)).mono ?_
  rintro e wa ⟨vS, pvS, rfl, hownS, hpaS, hbA⟩
  have hbAs := hbA.size
  have z0 := cell_later hbA a0
  have z1 := cell_later hbA a1
  have z2 := cell_later hbA a2
  have z3 := cell_later hbA a3
  have z4 := cell_later hbA a4
  have HPS := Lib.hid hpaS
  clear hpaS a0 a1 a2 a3 a4 HSP
  have hocS := HPS.out.oneCell (q := false)
  have HOCS := Lib.hid hocS
  have hsl : (o.secs.map secPart).length = ql := by rw [List.length_map, HQL.out]
  rw [hsl] at hownS
  clear hocS
  have hnr : (relPs 0 o.secs ql).length ≤ ql := relPs_len _ _ _
  have hng := groupPs_len 0 o.groups sg o.sig
  have hgl2 : o.groups.length ≤ 40 := by have := HGL.out; omega
  go_upto_region 2 with fail
  go_cut [4] (fun s4 wx => ∃ (pvO : List PV), wx.ownsRow wa.heap.size 127 12 s4 ((relPs 0 o.secs ql ++ groupPs 0 o.groups sg o.sig).map szP).length (pvs false pvO) ∧ PartsAt wx (fun b => wa.heap.size ≤ b ∧ some b ≠ s4.ownBlock) pvO ((relPs 0 o.secs ql ++ groupPs 0 o.groups sg o.sig).map szP) ∧ Below wa.heap.size wa wx)
  case first =>
    clear HY HOP HSNO
    go_region_held3 (fun W => W.cell? ⟨w.heap.size, 0, none⟩ = some (.slice p0 ql c0) ∧ W.cell? ⟨w.heap.size, 1, none⟩ = some (.slice p1 yl c1) ∧ W.cell? ⟨w.heap.size, 2, none⟩ = some (.slice p2 gl c2) ∧ W.cell? ⟨w.heap.size, 3, none⟩ = some (.bool sg) ∧ W.cell? ⟨w.heap.size, 4, none⟩ = some v4) (first | go_keep | exact ⟨z0, z1, z2, z3, z4⟩ | exact ⟨e0, e1, e2, e3, e4⟩ | exact ⟨g0, g1, g2, g3, g4⟩ | exact ⟨k0, k1, k2, k3, k4⟩ | exact ⟨m0, m1, m2, m3, m4⟩ | exact ⟨q0, q1, q2, q3, q4⟩ | fail)
      ((first
        | (go_at_call 75
           refine (HR.out _ (by exact hbA.drew)).mono ?_
           rintro e w2 ⟨vR, pvR, rfl, hownR, hpaR, hbb2⟩
           rw [List.length_map] at hownR
           obtain ⟨pR, cR, rfl, _, _, _⟩ := slice_form hownR
           have e0 : w2.cell? ⟨w.heap.size, 0, none⟩ = some (.slice p0 ql c0) := cell_later hbb2 z0
           have e1 : w2.cell? ⟨w.heap.size, 1, none⟩ = some (.slice p1 yl c1) := cell_later hbb2 z1
           have e2 : w2.cell? ⟨w.heap.size, 2, none⟩ = some (.slice p2 gl c2) := cell_later hbb2 z2
           have e3 : w2.cell? ⟨w.heap.size, 3, none⟩ = some (.bool sg) := cell_later hbb2 z3
           have e4 : w2.cell? ⟨w.heap.size, 4, none⟩ = some v4 := cell_later hbb2 z4
           have hb2 : Below W1.heap.size W1 w2 := hbA.drew.trans (hbb2.mono (by exact hbAs))
           have hbl2 : Below wa.heap.size wa w2 := (Below.refl _ wa).drew.trans hbb2
           have hownR' : w2.ownsRow wa.heap.size 127 12 (.slice pR (relPs 0 o.secs ql).length cR) (relPs 0 o.secs ql).length (pvs false pvR) := hownR
           have HPR : Hid (PartsAt w2 (fun b => wa.heap.size ≤ b ∧ some b ≠ (Value.slice pR (relPs 0 o.secs ql).length cR).ownBlock) pvR ((relPs 0 o.secs ql).map szP)) := Lib.hid hpaR
           clear hownR hpaR hbb2)
        | (go_at_call 76
           refine (HG.out _ (by exact hb2)).mono ?_
           rintro e w3 ⟨vG, pvG, rfl, hownG, hpaG, hbb3⟩
           rw [List.length_map, List.length_map] at hownG
           obtain ⟨pG, cG, rfl, _, _, _⟩ := slice_form hownG
           have g0 : w3.cell? ⟨w.heap.size, 0, none⟩ = some (.slice p0 ql c0) := cell_later hbb3 e0
           have g1 : w3.cell? ⟨w.heap.size, 1, none⟩ = some (.slice p1 yl c1) := cell_later hbb3 e1
           have g2 : w3.cell? ⟨w.heap.size, 2, none⟩ = some (.slice p2 gl c2) := cell_later hbb3 e2
           have g3 : w3.cell? ⟨w.heap.size, 3, none⟩ = some (.bool sg) := cell_later hbb3 e3
           have g4 : w3.cell? ⟨w.heap.size, 4, none⟩ = some v4 := cell_later hbb3 e4
           have hb3 : Below W1.heap.size W1 w3 := hb2.trans (hbb3.mono hb2.size)
           have hbl3 : Below wa.heap.size wa w3 := hbl2.trans (hbb3.mono hbl2.size)
           have hownR3 := owns_belowN hownR' hbb3
           have HPR3 := Lib.hid (HPR.out.below hbb3)
           have HPG := Lib.hid hpaG
           have hl2 := hbl2.size
           clear hpaG hbb3 hownR' HPR)
        | (go_at_call 77
           refine (HX.out _ (by exact hb3)).mono ?_
           rintro e w4 ⟨vX, pvX, rfl, hownX, hpaX, hbb4⟩
           rw [List.length_map] at hownX
           obtain ⟨pX, cX, rfl, _, _, _⟩ := slice_form hownX
           have k0 : w4.cell? ⟨w.heap.size, 0, none⟩ = some (.slice p0 ql c0) := cell_later hbb4 g0
           have k1 : w4.cell? ⟨w.heap.size, 1, none⟩ = some (.slice p1 yl c1) := cell_later hbb4 g1
           have k2 : w4.cell? ⟨w.heap.size, 2, none⟩ = some (.slice p2 gl c2) := cell_later hbb4 g2
           have k3 : w4.cell? ⟨w.heap.size, 3, none⟩ = some (.bool sg) := cell_later hbb4 g3
           have k4 : w4.cell? ⟨w.heap.size, 4, none⟩ = some v4 := cell_later hbb4 g4
           have hl3 := hbl3.size
           have hbl4 : Below wa.heap.size wa w4 := hbl3.trans (hbb4.mono hl3)
           have hl4 := hbl4.size
           have hownR4 := owns_belowN hownR3 hbb4
           have hownG4 := owns_belowN hownG hbb4
           have HPR4 := Lib.hid (HPR3.out.below hbb4)
           have HPG4 := Lib.hid (HPG.out.below hbb4)
           have HPX := Lib.hid hpaX
           have hbm : Below w4.heap.size w4 (w4.alloc (.cells #[(.slice pR (relPs 0 o.secs ql).length cR), (.slice pG o.groups.length cG), (.slice pX (bif sg then [sigPart 0 o.sig] else []).length cX)] 85)) := (Below.refl _ w4).alloc (Nat.le_refl _) _
           have m0 := cell_later hbm k0
           have m1 := cell_later hbm k1
           have m2 := cell_later hbm k2
           have m3 := cell_later hbm k3
           have m4 := cell_later hbm k4
           clear hpaX hbb4 hownR3 hownG HPR3 HPG)
        | (go_at_call 74
           refine (concatP_any (some ⟨w4.heap.size, 0, none⟩) 3 3 [pvR, pvG, pvX] _ (hasPs_three w4 85 _ _ _ pvR pvG pvX _ _ _ (by rw [HPR4.out.1, List.length_map]; exact hownR4) (by rw [HPG4.out.1, List.length_map, List.length_map]; exact hownG4) (by rw [HPX.out.1, List.length_map]; exact hownX) (HPR4.out.oneCell (q := false)) (HPG4.out.oneCell (q := false)) (HPX.out.oneCell (q := false))) rfl (by omega) (by
             have f1 := HPR4.out.1
             have f2 := HPG4.out.1
             have f3 := HPX.out.1
             rw [List.length_map] at f1 f2 f3
             rw [List.length_map] at f2
             have f4 : (bif sg then [sigPart 0 o.sig] else []).length ≤ 1 := by cases sg <;> simp
             simp only [List.flatten_cons, List.flatten_nil, List.length_append, List.length_nil]
             omega)).mono ?_
           rintro e w5 ⟨vO, rfl, hownO, hbb5⟩
           have q0 := cell_later hbb5 m0
           have q1 := cell_later hbb5 m1
           have q2 := cell_later hbb5 m2
           have q3 := cell_later hbb5 m3
           have q4 := cell_later hbb5 m4
           have HF := Lib.hid (three_parts HOD.out (HPR4.out.weaken fun b _ h => h) (HPG4.out.weaken fun b _ h => ⟨by omega, h.2⟩) (HPX.out.weaken fun b _ h => ⟨by omega, h.2⟩) hbm hbb5 hownO hl4)
           have hbl5 : Below wa.heap.size wa w5 := hbl4.trans ((hbm.trans (hbb5.mono hbm.size)).mono hl4))
        | fail))
    go_wp2_with fail
    go_meet
    exact ⟨_, HF.out.1, HF.out.2, hbl5⟩
  case rest =>
    obtain ⟨pvO, hownO, hpaO, hbO⟩ := hcut
    have hodl : ((relPs 0 o.secs ql ++ groupPs 0 o.groups sg o.sig).map szP).length = (relPs 0 o.secs ql).length + (groupPs 0 o.groups sg o.sig).length := by rw [List.length_map, List.length_append]
    have hlk : ((relPs 0 o.secs ql ++ groupPs 0 o.groups sg o.sig).map szP).map (linkD (symNo o : Int)) = (relPs (symNo o) o.secs ql ++ groupPs (symNo o) o.groups sg o.sig).map szP := by
      rw [List.map_append, List.map_append, link_rel, link_group, ← List.map_append]
    have hsno := HSNO.out
    have hsle := HSN.out
    have HLK := Lib.hid hlk
    have hpl := hpaO.1
    clear hlk HR HG HX HOD
    generalize (relPs 0 o.secs ql ++ groupPs 0 o.groups sg o.sig).map szP = od at *
    generalize (relPs (symNo o) o.secs ql ++ groupPs (symNo o) o.groups sg o.sig).map szP = od2 at *
    generalize (relPs 0 o.secs ql).length = n1 at *
    generalize (groupPs 0 o.groups sg o.sig).length = n2 at *
    generalize wc = wb at *
    generalize hsa : symNo o = sa at *
    generalize hnn : od.length = n at *
    have hsa2 : sa = 1 + ql + n := by omega
    have HSA := Lib.hid hsa2
    have hn9 : n ≤ 122 := by omega
    have HPL := Lib.hid hpl
    have HPO := Lib.hid hpaO
    have hownS2 := owns_belowN hownS hbO
    have hownS9 := hownS
    have HPS9 := Lib.hid HPS.out
    have HPS2 := Lib.hid (HPS.out.below hbO)
    obtain ⟨pS, cS, rfl, _, _, _⟩ := slice_form hownS
    obtain ⟨pO, cO, rfl, _, _, _⟩ := slice_form hownO
    have kk1 : IntKind.i64.wrap (1 + (ql : Int)) = 1 + (ql : Int) := IntWalk.i64_in _ (by omega)
    have kk2 : IntKind.i64.wrap (1 + (ql : Int) + (n : Int)) = (sa : Int) := by rw [show 1 + (ql : Int) + (n : Int) = (sa : Int) by omega]; exact IntWalk.i64_in _ (by omega)
    have HNN := Lib.hid hnn
    clear hodl hsno hsa hsa2 hnn hpl hownS hpaO HPS HSNO
    go_wp2_with fail
    go_loopw [6, 28] (fun r6 r28 wr => ∃ (k : Nat), k ≤ n ∧ r28 = .int .i64 (k : Int) ∧ wr.ownsRow wa.heap.size 127 12 (.slice pO n cO) n (pvs false (linkK sa k pvO)) ∧ wb.grownBy wr (Value.slice pO n cO).ownBlock) (fun _ r28 _ => n - (intOf r28).toNat)
    case atStart => exact ⟨0, Nat.zero_le _, rfl, by rw [linkK_zero]; exact hownO, World.grownBy.refl _ _⟩
    case round =>
      obtain ⟨k, hk, rfl, hown, hgr⟩ := hrel
      by_cases hlt : k < n
      · have hfr := hown.2
        rcases hfr with ⟨_, h0⟩ | ⟨g, cap, cur, he, _, _, _, _, _, _⟩
        · omega
        simp only [Value.slice.injEq] at he
        obtain ⟨rfl, _, rfl⟩ := he
        have hkl : k < pvO.length := by have := HPL.out; omega
        have hcx := hown.cellAt (k * 12 + 7) (by omega)
        have hst := hown.stored (k * 12 + 7) (.int .i64 (sa : Int))
        rw [linkK_step hkl] at hst
        have hcx2 : wr.cell? ⟨g, k * 12 + 7, none⟩ = some ((pvs false (linkK sa k pvO))[k * 12 + 7]'(by rw [pvs_length, linkK_length]; omega)) := by rw [hcx]; exact List.getElem?_eq_getElem _
        generalize (pvs false (linkK sa k pvO))[k * 12 + 7]'(by rw [pvs_length, linkK_length]; omega) = u0 at hcx2
        have hf := hown.frozenAt (k * 12 + 7)
        have HST := Lib.hid hst.1
        have HGR : Hid (wb.grownBy (wr.setCell ⟨g, k * 12 + 7, none⟩ (.int .i64 (sa : Int))) (some g)) := Lib.hid (hgr.trans hst.2)
        have hJ : (k : Int) < (n : Int) := by omega
        have k2 : (0 : Int) ≤ (k : Int) := by omega
        clear hcx hst hown hgr
        go_wp2_with fail
        go_roundw
        case rel => exact ⟨k + 1, hlt, by go_num, HST.out, HGR.out⟩
        case measure => simp [intOf]; omega
      · obtain rfl : k = n := by omega
        have hlkl : linkK sa k pvO = pvO.map (linkV sa) := by rw [show k = pvO.length from HPL.out.symm, linkK_all]
        rw [hlkl] at hown
        have hlo := fun g hg => (hownO.lt g hg).1
        have hbR : Below wa.heap.size wa wr := hbO.grown hgr hbO.size hlo
        have HPO3 : Hid (PartsAt wr (fun b => wa.heap.size ≤ b ∧ some b ≠ (Value.slice pO k cO).ownBlock) (pvO.map (linkV sa)) od2) := Lib.hid (by
          have h1 := link_parts (sa : Int) (HPO.out.grown hgr (.inl rfl))
          rw [HLK.out] at h1
          exact h1)
        have hbS : Below wa.heap.size wa wr := hbR
        have hownS3 : wr.ownsRow W1.heap.size 127 12 (.slice pS ql cS) ql (pvs false pvS) := hownS2.kept hgr (own_lt hownS9 hlo)
        have HPS3 := Lib.hid (HPS9.out.below hbR)
        have y1 := cell_later hbR z1
        have hbW : Below W1.heap.size W1 wr := hbA.trans (hbR.mono hbAs)
        have hbWs := hbW.size
        have hbRs := hbR.size
        have HYY := Lib.hid (HY.out (sa : Int) ⟨by omega, by omega⟩)
        have hJ : ¬ (k : Int) < (k : Int) := by omega
        have hsy : ((symPs (sa : Int) o.syms).map szP).length = 2 := rfl
        have HSY := Lib.hid hsy
        clear hlkl hgr hbO hownO HPO hownS2 HPS2 hlo z0 z1 z2 z3 z4 hsy
        go_wp2_with fail
        refine (HYY.out _ hbW).mono ?_
        rintro e wy ⟨vY, pvY, rfl, hownY, hpaY, hbY⟩
        rw [HSY.out] at hownY
        obtain ⟨pY, cY, rfl, _, _, _⟩ := slice_form hownY
        have hownS4 := owns_belowN hownS3 hbY
        have hownO4 := owns_belowN hown hbY
        have HPS4 := Lib.hid (HPS3.out.below hbY)
        have HPO4 := Lib.hid (HPO3.out.below hbY)
        have HPY := Lib.hid hpaY
        have hsl3 : pvS.length = ql := by rw [HPS4.out.1, List.length_map]; exact HQL.out
        have hsl4 : (pvO.map (linkV sa)).length = k := by rw [List.length_map]; exact HPL.out
        have hsl5 : pvY.length = 2 := by rw [HPY.out.1]; exact HSY.out
        have hps3 := hasPs_three wy 85 (.slice pS ql cS) (.slice pO k cO) (.slice pY 2 cY) pvS (pvO.map (linkV sa)) pvY _ _ _ (by rw [hsl3]; exact hownS4) (by rw [hsl4]; exact hownO4) (by rw [hsl5]; exact hownY) (HPS4.out.oneCell (q := false)) (HPO4.out.oneCell (q := false)) (HPY.out.oneCell (q := false))
        have hflen : ([pvS, pvO.map (linkV sa), pvY].flatten).length ≤ 100000 := by
          simp only [List.flatten_cons, List.flatten_nil, List.length_append, List.length_nil]
          omega
        have HCC := Lib.hid (concatP_any (some ⟨wy.heap.size, 0, none⟩) 3 3 [pvS, pvO.map (linkV sa), pvY] _ hps3 rfl (by omega) hflen)
        have hbY2 : Below W1.heap.size W1 wy := hbW.trans (hbY.mono hbWs)
        have hbm : Below wy.heap.size wy (wy.alloc (.cells #[(.slice pS ql cS), (.slice pO k cO), (.slice pY 2 cY)] 85)) := (Below.refl _ wy).alloc (Nat.le_refl _) _
        have HBM := Lib.hid hbm
        clear hownS3 hown hownY hownS4 hownO4 HPS3 HPO3 hpaY hbY hps3 hflen hsl3 hsl4 hsl5 hbm y1 hbR hbS
        go_wp2_with fail
        refine HCC.out.mono ?_
        rintro e w5 ⟨vF, rfl, hownF, hbF⟩
        have hf := three_parts (lo := 0) (d := ownPs o) (N := W1.heap.size) (by rw [HOP.out]) HPS4.out (HPO4.out.weaken fun b _ h => ⟨by omega, h.2⟩) (HPY.out.weaken fun b _ h => ⟨by omega, h.2⟩) HBM.out hbF hownF (by have := hbY2.size; omega)
        have HF := Lib.hid hf
        have hbFin : Below w.heap.size w w5 := HB1.out.trans ((hbY2.trans ((HBM.out.trans (hbF.mono HBM.out.size)).mono hbY2.size)).mono hbs1)
        clear hownF hbF hf hbY2
        go_wp2_with fail
        go_ret
        exact ⟨vF, _, rfl, owns_lower HF.out.1 (by omega), HF.out.2, hbFin⟩
end Go.Proofs.YtenmcmnhiejbgaaGreat

namespace Go.Proofs.YtenmcmnhiejbgaaGreat
open Go.RowKit

def ownHeadAt (pl : List Nat) (i off : Nat) (p : PartD) : Ten := ⟨((pl.getD i 0 : Nat) : Int), p.h.b, p.h.c, p.h.d, 64 + (off : Int), p.h.f, p.h.g, p.h.h, p.h.i, p.h.j⟩
def ownHeadBy (pl : List Nat) (l : List PartD) (i : Nat) : List UInt8 := match l[i]? with
  | some p => sectB (ownHeadAt pl i (bodyOf (l.take i)).length p)
  | none => []
def ownHeads (pl : List Nat) (l : List PartD) (k : Nat) : List UInt8 := sectB nul10 ++ (List.range k).flatMap (ownHeadBy pl l)
theorem ownHeads_succ {pl : List Nat} {l : List PartD} {k : Nat} {p : PartD} (h : l[k]? = some p) : ownHeads pl l (k + 1) = ownHeads pl l k ++ sectB (ownHeadAt pl k (bodyOf (l.take k)).length p) := by
  unfold ownHeads
  rw [List.range_succ, List.flatMap_append]
  simp [ownHeadBy, h]
def ownAll (pd : List PartD) : List PartD := pd ++ [szP ⟨tabHead, nShstr, (tabOf (headNames pd)).tb⟩]
def ownLay (pd : List PartD) : List UInt8 := hdrB (64 + (bodyOf (ownAll pd)).length) (1 + (ownAll pd).length) (ownAll pd).length ++ bodyOf (ownAll pd) ++ ownHeads (placesOf (headNames pd)) (ownAll pd) (ownAll pd).length
/-- What may be laid. -/
structure LayOK (pd : List PartD) : Prop where
  len : pd.length ≤ 130
  ok : ∀ p ∈ pd, PartOK p
  nm : ∀ p ∈ pd, mayB (lst p.name) = true
theorem lay_names {pd : List PartD} (h : LayOK pd) : ∀ n ∈ headNames pd, mayB n = true := fun n hn => by
  unfold headNames at hn
  rcases List.mem_append.1 hn with hn | hn
  · obtain ⟨p, hp, rfl⟩ := List.mem_map.1 hn
    exact h.nm p hp
  · simp only [List.mem_singleton] at hn
    subst hn
    decide
theorem lay_tab {pd : List PartD} (h : LayOK pd) : (tabOf (headNames pd)).tb.length ≤ 330001 := tab_small _ (by rw [headNames_length]; have := h.len; omega) (lay_names h)
theorem ownAll_ok {pd : List PartD} (h : LayOK pd) : ∀ p ∈ ownAll pd, PartOK p := fun p hp => by
  unfold ownAll at hp
  rcases List.mem_append.1 hp with hp | hp
  · exact h.ok p hp
  · simp only [List.mem_singleton] at hp
    subst hp
    have := lay_tab h
    exact ⟨by show (tabOf _).tb.length ≤ _; omega, rfl, rfl, rfl, rfl, fitsN _ (by show (tabOf _).tb.length ≤ _; omega), rfl, rfl, rfl, rfl⟩
theorem ownAll_length (pd : List PartD) : (ownAll pd).length = pd.length + 1 := by unfold ownAll; simp
theorem own_body {pd : List PartD} (h : LayOK pd) (i : Nat) : (bodyOf ((ownAll pd).take i)).length ≤ 60000000 := by
  have h1 := body_len ((ownAll pd).take i) fun p hp => ownAll_ok h p (List.mem_of_mem_take hp)
  have h2 : ((ownAll pd).take i).length ≤ pd.length + 1 := by rw [← ownAll_length]; simp; omega
  have := h.len
  omega
theorem own_may {pd : List PartD} (h : LayOK pd) (i : Nat) (p : PartD) (hp : (ownAll pd)[i]? = some p) : (ownHeadAt (placesOf (headNames pd)) i (bodyOf ((ownAll pd).take i)).length p).may := by
  obtain ⟨h0, h1, h2, h3, h4, h5, h6, h7, h8, h9⟩ := ownAll_ok h p (List.mem_of_getElem? hp)
  have hb := own_body h i
  have hi : i < (placesOf (headNames pd)).length := by
    rw [placesOf_length', headNames_length]
    have := (List.getElem?_eq_some_iff.1 hp).1
    rw [ownAll_length] at this
    omega
  have hpl : (placesOf (headNames pd))[i] ≤ 330001 := by
    have e : (placesOf (headNames pd))[i]? = some ((placesOf (headNames pd))[i]) := List.getElem?_eq_getElem hi
    unfold placesOf at e
    rw [List.getElem?_map] at e
    obtain ⟨n, hn, he⟩ := Option.map_eq_some_iff.1 e
    have h6 := lay_tab h
    have h7 := placeOf_le (headNames pd) n (.inr (List.mem_of_getElem? hn))
    have h8 : placeOf (headNames pd) n = (placesOf (headNames pd))[i] := he
    omega
  intro x hx
  unfold ownHeadAt Ten.l at hx
  simp only [List.mem_cons, List.not_mem_nil, or_false] at hx
  rcases hx with rfl | rfl | rfl | rfl | rfl | rfl | rfl | rfl | rfl | rfl
  · refine fitsN _ ?_
    rw [List.getD_eq_getElem?_getD, List.getElem?_eq_getElem hi]
    simp only [Option.getD_some]
    omega
  · exact h1
  · exact h2
  · exact h3
  · exact (fitsB_iff _).2 ⟨by omega, by omega⟩
  · exact h5
  · exact h6
  · exact h7
  · exact h8
  · exact h9
theorem cells12 (w : World) (g : Nat) (v0 v1 v2 v3 v4 v5 v6 v7 v8 v9 v10 v11 : Value) (T : TypeId) (h : w.heap[g]? = some (.cells #[v0, v1, v2, v3, v4, v5, v6, v7, v8, v9, v10, v11] T (0, 0))) :
    w.cell? ⟨g, 0, none⟩ = some v0 ∧ w.cell? ⟨g, 1, none⟩ = some v1 ∧ w.cell? ⟨g, 2, none⟩ = some v2 ∧ w.cell? ⟨g, 3, none⟩ = some v3 ∧ w.cell? ⟨g, 4, none⟩ = some v4 ∧ w.cell? ⟨g, 5, none⟩ = some v5 ∧ w.cell? ⟨g, 6, none⟩ = some v6 ∧ w.cell? ⟨g, 7, none⟩ = some v7 ∧ w.cell? ⟨g, 8, none⟩ = some v8 ∧ w.cell? ⟨g, 9, none⟩ = some v9 ∧ w.cell? ⟨g, 10, none⟩ = some v10 ∧ w.cell? ⟨g, 11, none⟩ = some v11 := by
  refine ⟨?_, ?_, ?_, ?_, ?_, ?_, ?_, ?_, ?_, ?_, ?_, ?_⟩ <;> exact (cell_of_row w g _ _ _ (0, 0) h).trans rfl
theorem Below.toGrown {w w' : World} (h : Below w.heap.size w w') (row : Option Nat) : w.grownBy w' row := ⟨h.os, h.tape, h.output, h.size, fun k hk _ => h.block k hk⟩
theorem nul_may : nul10.may := fun x hx => by
  simp only [Ten.l, nul10, List.mem_cons, List.not_mem_nil, or_false, or_self] at hx
  subst hx
  rfl
/-- A part of a row of the project's parts, cell by cell. -/
theorem own_at {w : World} {base n : Nat} {T : TypeId} {p0 : Option Addr} {c0 : Nat} {pv : List PV} {pd : List PartD} {K : Nat → Prop} (h : w.ownsRow base T 12 (.slice p0 n c0) n (pvs false pv)) (hpa : PartsAt w K pv pd) (hn : pd.length = n) {k : Nat} (hk : k < n) :
    ∃ (g : Nat) (y : PartD) (q : Option Addr) (c : Nat), p0 = some ⟨g, 0, none⟩ ∧ pd[k]? = some y ∧ y.b.length ≤ c ∧ c ≤ maxLen ∧ (q = none → c = 0) ∧ Has w q y.b ∧
      w.cell? ⟨g, k * 12, none⟩ = some (.string y.name) ∧ w.cell? ⟨g, k * 12 + 1, none⟩ = some (.int .i64 y.h.a) ∧ w.cell? ⟨g, k * 12 + 2, none⟩ = some (.int .i64 y.h.b) ∧ w.cell? ⟨g, k * 12 + 3, none⟩ = some (.int .i64 y.h.c) ∧ w.cell? ⟨g, k * 12 + 4, none⟩ = some (.int .i64 y.h.d) ∧
      w.cell? ⟨g, k * 12 + 5, none⟩ = some (.int .i64 y.h.e) ∧ w.cell? ⟨g, k * 12 + 6, none⟩ = some (.int .i64 y.h.f) ∧ w.cell? ⟨g, k * 12 + 7, none⟩ = some (.int .i64 y.h.g) ∧ w.cell? ⟨g, k * 12 + 8, none⟩ = some (.int .i64 y.h.h) ∧ w.cell? ⟨g, k * 12 + 9, none⟩ = some (.int .i64 y.h.i) ∧
      w.cell? ⟨g, k * 12 + 10, none⟩ = some (.int .i64 y.h.j) ∧ w.cell? ⟨g, k * 12 + 11, none⟩ = some (.slice q y.b.length c) := by
  obtain ⟨g, p, y, hp0, hy, hh, hn2, hs, hc⟩ := part_at h hpa hn hk
  obtain ⟨q, c, hv, h1, h2, h3, h4⟩ := hs.has
  refine ⟨g, y, q, c, hp0, hy, h1, h2, h3, h4, ?_, ?_, ?_, ?_, ?_, ?_, ?_, ?_, ?_, ?_, ?_, ?_⟩
  · have := hc 0 (by omega); rw [Nat.add_zero] at this; rw [this, ← hn2]; rfl
  · rw [hc 1 (by omega), ← hh]; rfl
  · rw [hc 2 (by omega), ← hh]; rfl
  · rw [hc 3 (by omega), ← hh]; rfl
  · rw [hc 4 (by omega), ← hh]; rfl
  · rw [hc 5 (by omega), ← hh]; rfl
  · rw [hc 6 (by omega), ← hh]; rfl
  · rw [hc 7 (by omega), ← hh]; rfl
  · rw [hc 8 (by omega), ← hh]; rfl
  · rw [hc 9 (by omega), ← hh]; rfl
  · rw [hc 10 (by omega), ← hh]; rfl
  · rw [hc 11 (by omega), ← hv]; rfl
end Go.Proofs.YtenmcmnhiejbgaaGreat

namespace Go.Proofs.YtenmcmnhiejbgaaGreat
open Go.RowKit

def szR (p : PartD) : PartD := if p.h.b = 8 then p else szP p
def tailOf (o : ObjD) : List PartD := o.secs.map secPart ++ relPs (symNo o) o.secs o.secs.length ++ groupPs (symNo o) o.groups o.hasSig o.sig ++ symPs (symNo o) o.syms
theorem partsOf_tail (o : ObjD) : partsOf o = zeroPart :: tailOf o := by unfold partsOf tailOf; simp
theorem szR_sec {o : ObjD} (hl : Lays o) {s : SecD} (hs : s ∈ o.secs) : szR (secPart s) = secPart s := by
  unfold szR
  split
  · rfl
  · rename_i h
    have h2 := (hl.secs s hs).2.2.2.2.2.2.2.2.2.1 h
    unfold szP szT secPart secHead
    rw [h2]
theorem szR_of {p : PartD} (h : p.h.b ≠ 8) : szR p = szP p := if_neg h
theorem map_szR {l : List PartD} (h : ∀ p ∈ l, p.h.b ≠ 8) : l.map szR = l.map szP := List.map_congr_left fun p hp => szR_of (h p hp)
theorem rel_b (a : Int) (secs : List SecD) (k : Nat) : ∀ p ∈ relPs a secs k, p.h.b ≠ 8 := fun p hp => by
  unfold relPs at hp
  obtain ⟨i, _, hp⟩ := List.mem_flatMap.1 hp
  unfold relPartAt at hp
  split at hp
  · unfold relPart at hp
    split at hp
    · simp at hp
    · simp only [List.mem_singleton] at hp
      subst hp
      show (4 : Int) ≠ 8
      decide
  · simp at hp
theorem group_b (a : Int) (gs : List GroupD) (sg : Bool) (sig : List Int) : ∀ p ∈ groupPs a gs sg sig, p.h.b ≠ 8 := fun p hp => by
  unfold groupPs at hp
  rcases List.mem_append.1 hp with hp | hp
  · obtain ⟨g, _, rfl⟩ := List.mem_map.1 hp
    show (17 : Int) ≠ 8
    decide
  · cases sg with
    | false => simp at hp
    | true =>
      simp only [cond_true, List.mem_singleton] at hp
      subst hp
      show (1879002115 : Int) ≠ 8
      decide
theorem sym_b (a : Int) (l : List SymD) : ∀ p ∈ symPs a l, p.h.b ≠ 8 := fun p hp => by
  unfold symPs at hp
  simp only [List.mem_cons, List.not_mem_nil, or_false] at hp
  rcases hp with rfl | rfl
  · show (2 : Int) ≠ 8
    decide
  · show (3 : Int) ≠ 8
    decide
theorem ownPs_eq {o : ObjD} (hl : Lays o) : ownPs o = (tailOf o).map szR := by
  unfold ownPs tailOf
  simp only [List.map_append]
  rw [map_szR (rel_b _ _ _), map_szR (group_b _ _ _ _), map_szR (sym_b _ _)]
  have : (o.secs.map secPart).map szR = o.secs.map secPart := by
    rw [List.map_map]
    exact List.map_congr_left fun s hs => szR_sec hl hs
  rw [this]
  simp only [List.append_assoc]
theorem szR_name (p : PartD) : (szR p).name = p.name := by unfold szR; split <;> rfl
theorem szR_bytes (p : PartD) : (szR p).b = p.b := by unfold szR; split <;> rfl
theorem szR_head (p : PartD) : (szR p).h = szT p.h (if p.h.b = 8 then p.h.f else (p.b.length : Int)) := by
  unfold szR
  split
  · rfl
  · rfl
theorem names_szR (l : List PartD) : headNames (l.map szR) = headNames l := by
  unfold headNames
  rw [List.map_map]
  congr 1
  exact List.map_congr_left fun p _ => by show lst (szR p).name = lst p.name; rw [szR_name]
theorem names_zero (l : List PartD) : headNames (zeroPart :: l) = [] :: headNames l := rfl
theorem tab_zero (ns : List Nm) : tabOf ([] :: ns) = tabOf ns := rfl
theorem places_zero (ns : List Nm) : placesOf ([] :: ns) = 0 :: placesOf ns := by
  have h : ∀ m, placeOf ([] :: ns) m = placeOf ns m := fun m => by unfold placeOf; rw [tab_zero]
  unfold placesOf
  rw [List.map_cons, h, placeOf_nil, show List.map (placeOf ([] :: ns)) ns = List.map (placeOf ns) ns from List.map_congr_left fun m _ => h m]
/-- Two lists of parts that are alike but for names, and for the sizes in the headers. -/
def Sim (r q : List PartD) : Prop := r.length = q.length ∧ ∀ (i : Nat) (p p' : PartD), r[i]? = some p → q[i]? = some p' → p'.b = p.b ∧ p'.h = szT p.h (if p.h.b = 8 then p.h.f else (p.b.length : Int))
theorem Sim.snoc {r q : List PartD} {p p' : PartD} (h : Sim r q) (h1 : p'.b = p.b) (h2 : p'.h = szT p.h (if p.h.b = 8 then p.h.f else (p.b.length : Int))) : Sim (r ++ [p]) (q ++ [p']) := by
  refine ⟨by simp [h.1], fun i x x' hx hx' => ?_⟩
  rw [List.getElem?_append] at hx hx'
  rw [← h.1] at hx'
  split at hx <;> split at hx'
  · exact h.2 i x x' hx hx'
  · omega
  · omega
  · have hi : i - r.length = 0 := by
      have := (List.getElem?_eq_some_iff.1 hx).1
      simp at this
      omega
    rw [hi] at hx hx'
    simp at hx hx'
    subst hx hx'
    exact ⟨h1, h2⟩
theorem sim_map (l : List PartD) : Sim l (l.map szR) := by
  refine ⟨by simp, fun i p p' h1 h2 => ?_⟩
  rw [List.getElem?_map, h1] at h2
  simp at h2
  subst h2
  exact ⟨szR_bytes p, szR_head p⟩
theorem Sim.body : ∀ {r q : List PartD}, Sim r q → ∀ i, bodyOf (r.take i) = bodyOf (q.take i)
  | [], [], _, i => by simp
  | [], x :: q, h, _ => by have := h.1; simp at this
  | x :: r, [], h, _ => by have := h.1; simp at this
  | x :: r, y :: q, h, 0 => by simp
  | x :: r, y :: q, h, i + 1 => by
    have h0 := (h.2 0 x y rfl rfl).1
    have ht : Sim r q := ⟨by have := h.1; simpa using this, fun j p p' h1 h2 => h.2 (j + 1) p p' (by simpa using h1) (by simpa using h2)⟩
    have ih := ht.body i
    unfold bodyOf at ih ⊢
    rw [List.take_succ_cons, List.take_succ_cons, List.flatMap_cons, List.flatMap_cons, ih, h0]
theorem Sim.heads {r q : List PartD} (h : Sim r q) (pl : List Nat) : headsBy (0 :: pl) (zeroPart :: r) (r.length + 1) = ownHeads pl q q.length := by
  unfold headsBy ownHeads
  rw [List.range_succ_eq_map, List.flatMap_cons, List.flatMap_map, ← h.1]
  congr 1
  refine congrArg List.flatten (List.map_congr_left fun i hi => ?_)
  have hir : i < r.length := List.mem_range.1 hi
  have hiq : i < q.length := by rw [← h.1]; exact hir
  obtain ⟨h1, h2⟩ := h.2 i _ _ (List.getElem?_eq_getElem hir) (List.getElem?_eq_getElem hiq)
  have hb := h.body i
  unfold headBy ownHeadBy
  rw [show (zeroPart :: r)[i.succ]? = r[i]? from rfl, List.getElem?_eq_getElem hir, List.getElem?_eq_getElem hiq]
  simp only
  have hbt : bodyOf ((zeroPart :: r).take i.succ) = bodyOf (r.take i) := by
    rw [List.take_succ_cons]
    unfold bodyOf
    rw [List.flatMap_cons]
    rfl
  rw [hbt, hb]
  congr 1
  unfold headAt ownHeadAt
  rw [h2]
  simp [szT]
theorem ownLay_eq {o : ObjD} (hl : Lays o) : ownLay (ownPs o) = bytesOf o := by
  have hp := ownPs_eq hl
  have hn : headNames (partsOf o) = [] :: headNames (ownPs o) := by rw [partsOf_tail, names_zero, hp, names_szR]
  have hsim : Sim (tailOf o ++ [lastPart (headNames (partsOf o))]) (ownAll (ownPs o)) := by
    unfold ownAll
    refine Sim.snoc (by rw [hp]; exact sim_map _) ?_ ?_
    · show (tabOf _).tb = (tabOf _).tb
      rw [hn, tab_zero]
    · show szT tabHead _ = szT tabHead _
      rw [hn]
      rfl
  have hal : allOf o = zeroPart :: (tailOf o ++ [lastPart (headNames (partsOf o))]) := by unfold allOf; rw [partsOf_tail]; rfl
  have hlen : (allOf o).length = (ownAll (ownPs o)).length + 1 := by rw [hal, List.length_cons, hsim.1]
  have hbody : bodyOf (allOf o) = bodyOf (ownAll (ownPs o)) := by
    have h1 := hsim.body (tailOf o ++ [lastPart (headNames (partsOf o))]).length
    rw [List.take_length, List.take_of_length_le (by rw [hsim.1]; exact Nat.le_refl _)] at h1
    rw [hal]
    unfold bodyOf at h1 ⊢
    rw [List.flatMap_cons, h1]
    rfl
  have hheads : headsBy (placesOf (headNames (partsOf o))) (allOf o) (allOf o).length = ownHeads (placesOf (headNames (ownPs o))) (ownAll (ownPs o)) (ownAll (ownPs o)).length := by
    have h1 := hsim.heads (placesOf (headNames (ownPs o)))
    rw [hn, places_zero, hal, List.length_cons]
    exact h1
  rw [bytesOf_eq, hheads, hbody, hlen]
  unfold ownLay
  rw [show (ownAll (ownPs o)).length + 1 - 1 = (ownAll (ownPs o)).length by omega, Nat.add_comm (ownAll (ownPs o)).length 1]
theorem ownPs_ok {o : ObjD} (hl : Lays o) : LayOK (ownPs o) := by
  have hp := ownPs_eq hl
  have hlen : (ownPs o).length = symNo o + 1 := by
    have h1 := partsOf_length o
    rw [partsOf_tail, List.length_cons] at h1
    rw [hp, List.length_map]
    omega
  have hmem : ∀ p ∈ ownPs o, ∃ r ∈ partsOf o, p = szR r := fun p h => by
    rw [hp] at h
    obtain ⟨r, hr, rfl⟩ := List.mem_map.1 h
    exact ⟨r, by rw [partsOf_tail]; exact List.mem_cons_of_mem _ hr, rfl⟩
  refine ⟨by rw [hlen]; have := symNo_le hl; omega, fun p h => ?_, fun p h => ?_⟩
  · obtain ⟨r, hr, rfl⟩ := hmem p h
    obtain ⟨h0, h1, h2, h3, h4, h5, h6, h7, h8, h9⟩ := partsOf_ok hl r hr
    refine ⟨by rw [szR_bytes]; exact h0, ?_⟩
    rw [szR_head]
    refine ⟨h1, h2, h3, h4, ?_, h6, h7, h8, h9⟩
    show fitsB (if r.h.b = 8 then r.h.f else (r.b.length : Int)) = true
    split
    · exact h5
    · exact fitsN _ (by omega)
  · obtain ⟨r, hr, rfl⟩ := hmem p h
    rw [szR_name]
    exact partsOf_names hl r hr
end Go.Proofs.YtenmcmnhiejbgaaGreat
