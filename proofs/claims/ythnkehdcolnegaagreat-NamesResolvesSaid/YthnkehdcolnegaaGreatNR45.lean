/-
  Contracts of the project's own mayButSize, made, May, Put.
  The statement of names, walked.
-/
import Derived.Test.YthnkehdcolnegaaGreatNR31
import Derived.Test.YthnkehdcolnegaaGreatNR43
import Derived.Test.YthnkehdcolnegaaGreatNR44
import Derived.Test.YthnkehdcolnegaaGreatNR30
import Derived.Test.YthnkehdcolnegaaGreatNR13
import Derived.Test.YthnkehdcolnegaaGreatNR14
import Derived.Test.YthnkehdcolnegaaGreatNR32
import Derived.Test.YthnkehdcolnegaaGreatNR36
import Derived.Test.YthnkehdcolnegaaGreatNR06
namespace Go.Proofs.YthnkehdcolnegaaGreat
open Go.RowKit

set_option maxRecDepth 100000 in
set_option maxHeartbeats 4000000 in
theorem ownMayBut_any (o : ObjD) (v0 v1 v2 v4 : Value) (w : World) (hp : ObjParts w v0 v1 v2 v4 o) (hs : FewD o) :
    Calls Tryz.prog 41 #[objV v0 v1 v2 o.hasSig v4] w fun e w' => e = .returned (.bool (butO o)) ∧ Below w.heap.size w w' := by
  have hb1 : Below w.heap.size w (w.alloc (.cells #[v0, v1, v2, .bool o.hasSig, v4] 27)) := (Below.refl _ w).alloc (Nat.le_refl _) _
  obtain ⟨hq, hys, hgp, hsg⟩ := hp.below hb1
  obtain ⟨p0, c0, rfl, _, _, _, hqh⟩ := hq
  obtain ⟨p1, c1, rfl, y1, _, _, hyh⟩ := hys
  obtain ⟨p2, c2, rfl, _, _, _, hgh⟩ := hgp
  have n0 := hs.secs
  have n1 := hs.syms
  have n2 := hs.grps
  have n3 := hs.mems
  have a0 : (w.alloc (.cells #[.slice p0 o.secs.length c0, .slice p1 o.syms.length c1, .slice p2 o.groups.length c2, .bool o.hasSig, v4] 27)).cell? ⟨w.heap.size, 0, none⟩ = some (.slice p0 o.secs.length c0) := by simp
  have a1 : (w.alloc (.cells #[.slice p0 o.secs.length c0, .slice p1 o.syms.length c1, .slice p2 o.groups.length c2, .bool o.hasSig, v4] 27)).cell? ⟨w.heap.size, 1, none⟩ = some (.slice p1 o.syms.length c1) := by simp
  have a2 : (w.alloc (.cells #[.slice p0 o.secs.length c0, .slice p1 o.syms.length c1, .slice p2 o.groups.length c2, .bool o.hasSig, v4] 27)).cell? ⟨w.heap.size, 2, none⟩ = some (.slice p2 o.groups.length c2) := by simp
  have a3 : (w.alloc (.cells #[.slice p0 o.secs.length c0, .slice p1 o.syms.length c1, .slice p2 o.groups.length c2, .bool o.hasSig, v4] 27)).cell? ⟨w.heap.size, 3, none⟩ = some (.bool o.hasSig) := by simp
  have a4 : (w.alloc (.cells #[.slice p0 o.secs.length c0, .slice p1 o.syms.length c1, .slice p2 o.groups.length c2, .bool o.hasSig, v4] 27)).cell? ⟨w.heap.size, 4, none⟩ = some v4 := by simp
  have hr : butO o = bif decide (o.secs.length ≤ 32) then symsO o.secs o.syms && (groupsO o.secs o.syms.length o.groups && (eachB (secAllO o.secs.length o.syms.length) o.secs && sigO o.hasSig o.syms.length o.sig)) else false := rfl
  generalize hW1 : w.alloc (.cells #[.slice p0 o.secs.length c0, .slice p1 o.syms.length c1, .slice p2 o.groups.length c2, .bool o.hasSig, v4] 27) = W1 at *
  have HM1 := Lib.hid fun (W : World) (hW : Below W1.heap.size W1 W) => ownMaySyms_any (.slice p2 o.groups.length c2) v4 o.hasSig p0 p1 c0 c1 o.secs o.syms W (hqh.below ESec.keeps hW) (hyh.below ESym.keeps hW) (by omega) y1
  have HM2 := Lib.hid fun (W : World) (hW : Below W1.heap.size W1 W) => ownMayGroups_any v4 o.hasSig p0 p1 p2 c0 c1 c2 o.syms.length o.secs o.groups W (hqh.below ESec.keeps hW) (hgh.below EGroup.keeps hW) (by omega) (by omega) (by omega) (fun g hg => by have := n3 g hg; omega)
  have HM3 := Lib.hid fun (W : World) (hW : Below W1.heap.size W1 W) => ownMaySecs_any (.slice p2 o.groups.length c2) v4 o.hasSig p0 p1 c0 c1 o.syms.length o.secs W (hqh.below ESec.keeps hW) (by omega) (by omega)
  have HM4 := Lib.hid fun (W : World) (hW : Below W1.heap.size W1 W) => ownMaySig_any (.slice p0 o.secs.length c0) (.slice p2 o.groups.length c2) v4 p1 o.syms.length c1 o.hasSig o.sig W (hsg.below EInt.keeps hW) (by omega)
  generalize butO o = res at *
  generalize symsO o.secs o.syms = q1 at *
  generalize groupsO o.secs o.syms.length o.groups = q2 at *
  generalize eachB (secAllO o.secs.length o.syms.length) o.secs = q3 at *
  generalize sigO o.hasSig o.syms.length o.sig = q4 at *
  generalize o.secs.length = ql at *
  generalize o.syms.length = yl at *
  generalize o.groups.length = gl at *
  generalize o.hasSig = sg at *
  have HR := Lib.hid hr
  have HB1 := Lib.hid hb1
  have hbs := hb1.size
  clear hp hb1 hqh hyh hgh hsg hr y1 n1 n2 n3 hs
  go_enter Tryz.func41, Tryz.ntmps41
  go_upto_region 1 with fail
  clear hW1
  by_cases h32 : ql ≤ 32
  · have hE : Hid (res = (q1 && (q2 && (q3 && q4)))) := Lib.hid (by rw [HR.out, decide_eq_true h32]; rfl)
    have hI : (ql : Int) ≤ 32 := by omega
    clear HR h32
    go_wp2_with fail
    refine (HM1.out _ (Below.refl _ _)).mono ?_
    rintro e w2 ⟨rfl, hb2⟩
    have b0 := cell_later hb2 a0
    have b1 := cell_later hb2 a1
    have b2 := cell_later hb2 a2
    have b3 := cell_later hb2 a3
    have b4 := cell_later hb2 a4
    clear a0 a1 a2 a3 a4 HM1
    cases q1 with
    | false =>
      have hE2 : Hid (res = false) := Lib.hid (by rw [hE.out]; rfl)
      go_wp2_with fail
      go_ret
      rw [hE2.out]
      exact ⟨rfl, HB1.out.trans (hb2.mono hbs)⟩
    | true =>
      have hb2s := hb2.size
      go_wp2_with fail
      refine (HM2.out _ hb2).mono ?_
      rintro e w3 ⟨rfl, hx3⟩
      have hb3 := hb2.trans (hx3.mono hb2s)
      have d0 := cell_later hx3 b0
      have d1 := cell_later hx3 b1
      have d2 := cell_later hx3 b2
      have d3 := cell_later hx3 b3
      have d4 := cell_later hx3 b4
      clear b0 b1 b2 b3 b4 HM2 hx3 hb2
      cases q2 with
      | false =>
        have hE2 : Hid (res = false) := Lib.hid (by rw [hE.out]; rfl)
        go_wp2_with fail
        go_ret
        rw [hE2.out]
        exact ⟨rfl, HB1.out.trans (hb3.mono hbs)⟩
      | true =>
        have hb3s := hb3.size
        go_wp2_with fail
        refine (HM3.out _ hb3).mono ?_
        rintro e w4 ⟨rfl, hx4⟩
        have hb4 := hb3.trans (hx4.mono hb3s)
        have e0 := cell_later hx4 d0
        have e1 := cell_later hx4 d1
        have e2 := cell_later hx4 d2
        have e3 := cell_later hx4 d3
        have e4 := cell_later hx4 d4
        clear d0 d1 d2 d3 d4 HM3 hx4 hb3
        cases q3 with
        | false =>
          have hE2 : Hid (res = false) := Lib.hid (by rw [hE.out]; rfl)
          go_wp2_with fail
          go_ret
          rw [hE2.out]
          exact ⟨rfl, HB1.out.trans (hb4.mono hbs)⟩
        | true =>
          have hb4s := hb4.size
          have hE2 : Hid (res = q4) := Lib.hid (by rw [hE.out]; rfl)
          go_wp2_with fail
          refine (HM4.out _ hb4).mono ?_
          rintro e w5 ⟨rfl, hx5⟩
          have hb5 := hb4.trans (hx5.mono hb4s)
          clear e0 e1 e2 e3 e4 HM4 hx5 hb4
          go_wp2_with fail
          go_ret
          rw [hE2.out]
          exact ⟨rfl, HB1.out.trans (hb5.mono hbs)⟩
  · have hE : Hid (res = false) := Lib.hid (by rw [HR.out, decide_eq_false h32]; rfl)
    have hI : ¬ (ql : Int) ≤ 32 := by omega
    clear HR h32
    go_wp2_with fail
    go_ret
    rw [hE.out]
    exact ⟨rfl, HB1.out⟩

theorem flag_bd {w : World} {v0 v1 v2 v4 : Value} {o : ObjD} (hp : ObjParts w v0 v1 v2 v4 o) : FlagBd o := fun s hs => by
  obtain ⟨⟨p, c, _, _, _, _, hh⟩, _⟩ := hp
  obtain ⟨i, hi⟩ := List.getElem?_of_mem hs
  obtain ⟨b, off, _, _, _, ⟨_, hb⟩, _⟩ := hh i s hi
  exact hb
theorem bytes_len {o : ObjD} (hl : Lays o) : (bytesOf o).length ≤ 100000000 := by
  have h1 := body_take hl ((allOf o).length)
  have h2 := headsBy_length (placesOf (headNames (partsOf o))) (allOf o) (allOf o).length (Nat.le_refl _)
  have h3 := allOf_length o
  have h4 := symNo_le hl
  rw [List.take_length] at h1
  rw [bytesOf_eq, List.length_append, List.length_append, hdrB_length, h2]
  omega
/-- What made gives: the object's bytes, in memory of its own, and true; or none, and false. -/
def GivesMade (o : ObjD) (w : World) (e : Ending) (w' : World) : Prop := Below w.heap.size w w' ∧
  ((mayO o = true ∧ ∃ v, e = .returned (.tuple #[v, .bool true]) ∧ w'.ownsRow w.heap.size 5 1 v (bytesOf o).length ((bytesOf o).map u8v)) ∨ (mayO o = false ∧ e = .returned (.tuple #[.slice none 0 0, .bool false])))

set_option maxRecDepth 100000 in
set_option maxHeartbeats 4000000 in
theorem ownMade_any (o : ObjD) (v0 v1 v2 v4 : Value) (w : World) (hp : ObjParts w v0 v1 v2 v4 o) (hs : SmallD o) :
    Calls Tryz.prog 33 #[objV v0 v1 v2 o.hasSig v4] w (GivesMade o w) := by
  have hb1 : Below w.heap.size w (w.alloc (.cells #[v0, v1, v2, .bool o.hasSig, v4] 27)) := (Below.refl _ w).alloc (Nat.le_refl _) _
  have hpW := hp.below hb1
  have a0 : (w.alloc (.cells #[v0, v1, v2, .bool o.hasSig, v4] 27)).cell? ⟨w.heap.size, 0, none⟩ = some v0 := by simp
  have a1 : (w.alloc (.cells #[v0, v1, v2, .bool o.hasSig, v4] 27)).cell? ⟨w.heap.size, 1, none⟩ = some v1 := by simp
  have a2 : (w.alloc (.cells #[v0, v1, v2, .bool o.hasSig, v4] 27)).cell? ⟨w.heap.size, 2, none⟩ = some v2 := by simp
  have a3 : (w.alloc (.cells #[v0, v1, v2, .bool o.hasSig, v4] 27)).cell? ⟨w.heap.size, 3, none⟩ = some (.bool o.hasSig) := by simp
  have a4 : (w.alloc (.cells #[v0, v1, v2, .bool o.hasSig, v4] 27)).cell? ⟨w.heap.size, 4, none⟩ = some v4 := by simp
  have hbd := add_bd hp
  have hfl := flag_bd hp
  obtain ⟨p4, c4, rfl, _, _, _, _⟩ : ∃ p c, v4 = .slice p o.sig.length c ∧ o.sig.length ≤ c ∧ c ≤ maxLen ∧ (p = none → c = 0) ∧ HasL 1 EInt w p o.sig := hp.2.2.2
  have hsl := hs.sig
  have HBUT := Lib.hid fun W (hW : ObjParts W v0 v1 v2 (.slice p4 o.sig.length c4) o) => ownMayBut_any o v0 v1 v2 _ W hW hs.few
  rw [but_eq hs.few hfl] at HBUT
  have HPA := Lib.hid fun W (hW : ObjParts W v0 v1 v2 (.slice p4 o.sig.length c4) o) (hl : Lays o) => ownParts_any o v0 v1 v2 _ W hW hl
  have HLY := Lib.hid fun (hl : Lays o) => And.intro (ownLay_eq hl) (And.intro (ownPs_ok hl) (bytes_len hl))
  have HLAY := Lib.hid fun (h : shapeB o = true) => shape_lays h hs hbd
  have hmo : mayO o = (shapeB o && decide ((bytesOf o).length ≤ 16384)) := rfl
  have HGM : Hid (GivesMade o w = fun e w' => Below w.heap.size w w' ∧
    ((mayO o = true ∧ ∃ v, e = .returned (.tuple #[v, .bool true]) ∧ w'.ownsRow w.heap.size 5 1 v (bytesOf o).length ((bytesOf o).map u8v)) ∨ (mayO o = false ∧ e = .returned (.tuple #[.slice none 0 0, .bool false])))) := Lib.hid rfl
  rw [HGM.out]
  clear HGM
  generalize mayO o = res at *
  generalize shapeB o = sb at *
  generalize ownPs o = pd at *
  generalize bytesOf o = bs at *
  generalize hsln : o.sig.length = sl at *
  have HMO := Lib.hid hmo
  have HPW := Lib.hid hpW
  clear hp hpW hs hbd hfl hmo hsln
  go_enter Tryz.func33, Tryz.ntmps33
  go_upto_region 1 with fail
  generalize w.alloc (.cells #[v0, v1, v2, .bool o.hasSig, .slice p4 sl c4] 27) = W1 at *
  have hb1s := hb1.size
  have hI : ¬ (16384 : Int) < (sl : Int) := by omega
  go_wp2_with fail
  refine (HBUT.out _ HPW.out).mono ?_
  rintro e w2 ⟨rfl, hb2⟩
  have b0 := cell_later hb2 a0
  have b1 := cell_later hb2 a1
  have b2 := cell_later hb2 a2
  have b3 := cell_later hb2 a3
  have b4 := cell_later hb2 a4
  have HP2 := Lib.hid (HPW.out.below hb2)
  have hbw2 : Below w.heap.size w w2 := hb1.trans (hb2.mono hb1s)
  have hbw2s := hbw2.size
  clear a0 a1 a2 a3 a4 hb1 hb2 HPW HBUT
  cases sb with
  | false =>
    have hE : Hid (res = false) := Lib.hid (by rw [HMO.out]; rfl)
    go_wp2_with fail
    exact bodyPost_ret (v := .tuple #[.slice none 0 0, .bool false]) (by simp [results, Tryz.results33, go_sem]) rfl ⟨hbw2, .inr ⟨hE.out, rfl⟩⟩
  | true =>
    have hl := HLAY.out rfl
    obtain ⟨l1, l2, l3⟩ := HLY.out hl
    have HPA2 := Lib.hid (HPA.out w2 HP2.out hl)
    have hE : Hid (res = decide (bs.length ≤ 16384)) := Lib.hid (by rw [HMO.out]; rfl)
    have HL2 := Lib.hid l2
    have HL1 := Lib.hid l1
    clear l1 l2 HLY HLAY HMO HPA HP2 hl
    go_wp2_with fail
    refine HPA2.out.mono ?_
    rintro e w3 ⟨v3, pv, rfl, hown3, hpa3, hx3⟩
    obtain ⟨p3, c3, rfl, _, _, _⟩ := slice_form hown3
    have hbw3 : Below w.heap.size w w3 := hbw2.trans (hx3.mono hbw2s)
    have hLA := ownLay_any p3 c3 pd.length w2.heap.size pv pd w3 hown3 (hpa3.weaken fun b _ h => ⟨Nat.zero_le _, h.2⟩) rfl HL2.out
    rw [HL1.out] at hLA
    have HLA := Lib.hid hLA
    have HLT := Lib.hid fun g hg => (hown3.lt g hg).1
    clear hown3 hpa3 b0 b1 b2 b3 b4 HPA2 hx3 hLA HL1 HL2
    generalize pd.length = pn at *
    go_wp2_with fail
    refine HLA.out.mono ?_
    rintro e w4 ⟨v, rfl, ho, hg4⟩
    obtain ⟨p5, c5, rfl, _, _, _⟩ := slice_form ho
    have hbw4 : Below w.heap.size w w4 := hbw3.grown hg4 hbw3.size (fun g hg => Nat.le_trans hbw2s (HLT.out g hg))
    have HO := Lib.hid (owns_lower ho hbw3.size)
    clear ho hg4 HLA HLT
    by_cases h : bs.length ≤ 16384
    · have hI2 : ¬ (16384 : Int) < (bs.length : Int) := by omega
      have hE2 : Hid (res = true) := Lib.hid (by rw [hE.out]; exact decide_eq_true h)
      go_wp2_with fail
      exact bodyPost_ret (v := .tuple #[.slice p5 bs.length c5, .bool true]) (by simp [results, Tryz.results33, go_sem]) rfl ⟨hbw4, .inl ⟨hE2.out, _, rfl, HO.out⟩⟩
    · have hI2 : (16384 : Int) < (bs.length : Int) := by omega
      have hE2 : Hid (res = false) := Lib.hid (by rw [hE.out]; exact decide_eq_false h)
      go_wp2_with fail
      exact bodyPost_ret (v := .tuple #[.slice none 0 0, .bool false]) (by simp [results, Tryz.results33, go_sem]) rfl ⟨hbw4, .inr ⟨hE2.out, rfl⟩⟩

set_option maxRecDepth 100000 in
set_option maxHeartbeats 4000000 in
theorem ownMay_any (o : ObjD) (v0 v1 v2 v4 : Value) (w : World) (hp : ObjParts w v0 v1 v2 v4 o) (hs : SmallD o) :
    Calls Tryz.prog 12 #[objV v0 v1 v2 o.hasSig v4] w fun e w' => e = .returned (.bool (mayO o)) ∧ Below w.heap.size w w' := by
  have hb1 : Below w.heap.size w (w.alloc (.cells #[v0, v1, v2, .bool o.hasSig, v4] 27)) := (Below.refl _ w).alloc (Nat.le_refl _) _
  have a0 : (w.alloc (.cells #[v0, v1, v2, .bool o.hasSig, v4] 27)).cell? ⟨w.heap.size, 0, none⟩ = some v0 := by simp
  have a1 : (w.alloc (.cells #[v0, v1, v2, .bool o.hasSig, v4] 27)).cell? ⟨w.heap.size, 1, none⟩ = some v1 := by simp
  have a2 : (w.alloc (.cells #[v0, v1, v2, .bool o.hasSig, v4] 27)).cell? ⟨w.heap.size, 2, none⟩ = some v2 := by simp
  have a3 : (w.alloc (.cells #[v0, v1, v2, .bool o.hasSig, v4] 27)).cell? ⟨w.heap.size, 3, none⟩ = some (.bool o.hasSig) := by simp
  have a4 : (w.alloc (.cells #[v0, v1, v2, .bool o.hasSig, v4] 27)).cell? ⟨w.heap.size, 4, none⟩ = some v4 := by simp
  have HM := Lib.hid (ownMade_any o v0 v1 v2 v4 _ (hp.below hb1) hs)
  have HB1 := Lib.hid hb1
  clear hp hs
  go_enter Tryz.func12, Tryz.ntmps12
  go_upto_region 1 with fail
  generalize w.alloc (.cells #[v0, v1, v2, .bool o.hasSig, v4] 27) = W1 at *
  go_wp2_with fail
  refine HM.out.mono ?_
  rintro e w2 ⟨hb2, ⟨hE, v, rfl, _⟩ | ⟨hE, rfl⟩⟩
  · go_wp2_with fail
    go_ret
    rw [hE]
    exact ⟨rfl, HB1.out.trans (hb2.mono HB1.out.size)⟩
  · go_wp2_with fail
    go_ret
    rw [hE]
    exact ⟨rfl, HB1.out.trans (hb2.mono HB1.out.size)⟩
end Go.Proofs.YthnkehdcolnegaaGreat

namespace Go.Proofs.YthnkehdcolnegaaGreat
open Go.RowKit

theorem drop_ok {w : World} {pd : Option Addr} {l : List ObjD} (h : HasL 1 EBools w pd (dropsOf l)) : DropOK w pd l (dropsOf l) := by
  refine ⟨h, by simp [dropsOf], fun i o ho => ?_⟩
  have hi := (List.getElem?_eq_some_iff.1 ho).1
  have e1 : drAt (dropsOf l) i = dropOf l i := by
    unfold drAt dropsOf
    rw [List.getElem?_map, List.getElem?_range hi]
    rfl
  rw [e1]
  unfold dropOf
  rw [ho]
  exact dropTo_length l i o _
theorem nil_tab (w : World) : IsTab w nilV nilV [] [] := ⟨⟨none, 0, rfl, Nat.le_refl _, Nat.zero_le _, fun _ => rfl, fun i x hx => by simp at hx⟩, ⟨none, 0, rfl, Nat.le_refl _, Nat.zero_le _, fun _ => rfl, fun i x hx => by simp at hx⟩⟩
theorem tab_form {l : List ObjD} {mb : Bool} {w : World} {n : Int} {v0 v1 : Value} (h : TabIs l mb w n v0 v1) : ∃ (p0 : Option Addr) (n0 c0 : Nat) (p1 : Option Addr) (n1 c1 : Nat), v0 = .slice p0 n0 c0 ∧ v1 = .slice p1 n1 c1 := by
  rcases h with ⟨_, _, rfl, rfl⟩ | ⟨_, ⟨_, _, rfl, rfl⟩ | ⟨ms, defs, _, _, _, ⟨_, _, rfl, rfl⟩ | ⟨_, _, ⟨p0, c0, rfl, _⟩, ⟨p1, c1, rfl, _⟩⟩⟩⟩
  all_goals exact ⟨_, _, _, _, _, _, rfl, rfl⟩
theorem rtab_form {l : List ObjD} {mb : Bool} {w : World} {n : Int} {v0 v1 : Value} (h : RTabIs l mb w n v0 v1) : ∃ (p0 : Option Addr) (n0 c0 : Nat) (p1 : Option Addr) (n1 c1 : Nat), v0 = .slice p0 n0 c0 ∧ v1 = .slice p1 n1 c1 := by
  rcases h with ⟨_, _, rfl, rfl⟩ | ⟨_, ⟨_, _, rfl, rfl⟩ | ⟨defs, u, _, ⟨_, _, rfl, rfl⟩ | ⟨_, _, ⟨p0, c0, rfl, _⟩, ⟨p1, c1, rfl, _⟩⟩⟩⟩
  all_goals exact ⟨_, _, _, _, _, _, rfl, rfl⟩
theorem where_code {l : List ObjD} {D : List (List Bool)} {o s : Int} : 0 ≤ (whereB l D o s).2 ∧ (whereB l D o s).2 ≤ 8 := by
  have ho : ∀ (i : Nat) (x : SymD), 0 ≤ (ownPl D i x).2 ∧ (ownPl D i x).2 ≤ 8 := fun i x => by
    unfold ownPl
    cases decide (x.sec < 1) <;> cases (drAt D i)[(x.sec - 1).toNat]?.getD false <;> simp
  have hi : ∀ (i : Nat) (x : SymD), 0 ≤ (whereIn l D i x).2 ∧ (whereIn l D i x).2 ≤ 8 := fun i x => by
    unfold whereIn
    cases (x.bind == 0) with
    | true => exact ho i x
    | false =>
      simp only [cond_false]
      cases findIn (allTo ObjD.syms l l.length) D x.name with
      | none => cases (x.bind == 2) <;> simp
      | some d =>
        simp only
        cases symAt2 l d.obj d.sym with
        | none => simp
        | some y => exact ho _ y
  unfold whereB
  split
  · simp
  · cases symAt2 l o.toNat s.toNat with
    | none => simp
    | some x => exact hi _ x
theorem def_ne (w : World) : (binOp .neq 60 (.agg #[.string ⟨#[]⟩, .int .i64 0, .int .i64 0]) (.agg #[.string ⟨#[]⟩, .int .i64 0, .int .i64 0])).run Tryz.prog w = .ok (.bool false) w := by kernel_rfl
/-- Both Resolves, of few objects. -/
def BothRes (w : World) (p : Option Addr) (c : Nat) (l : List ObjD) : Prop := ∃ mb, (mb = true → ∀ o ∈ l, OkD o) ∧
  (∀ W, Below w.heap.size w W → Calls Tryz.prog 19 #[.slice p l.length c] W fun e w' => ∃ n v0 v1, e = .returned (.tuple #[.agg #[v0, v1], errV n]) ∧ TabIs l mb w' n v0 v1 ∧ Below W.heap.size W w') ∧
  ∀ W, Below w.heap.size w W → Calls Tryz.prog 20 #[.slice p l.length c] W fun e w' => ∃ n v0 v1, e = .returned (.tuple #[.agg #[v0, v1], .int .i64 n]) ∧ RTabIs l mb w' n v0 v1 ∧ Below W.heap.size W w'
theorem both_res {w : World} {p : Option Addr} {c : Nat} {l : List ObjD} (h : HasL 5 EObj w p l) (hl : l.length ≤ 10) (hs : ∀ o ∈ l, SmallD o) : BothRes w p c l := by
  have hok : (decide (l.length ≤ 8) && l.all mayO) = true → ∀ o ∈ l, OkD o := fun hm o ho => by
    simp only [Bool.and_eq_true, List.all_eq_true] at hm
    have := hm.2 o ho
    unfold mayO at this
    simp only [Bool.and_eq_true] at this
    exact okD_of this.1 (hs o ho)
  refine ⟨decide (l.length ≤ 8) && l.all mayO, hok, fun W hW => ?_, fun W hW => ?_⟩
  · exact nResolve_any sortVals_ok p c l W (h.below EObj.keeps hW) _ (fun hm => ⟨hok hm, by simp only [Bool.and_eq_true, decide_eq_true_eq] at hm; exact hm.1⟩)
      fun W2 hW2 => nmay_any p c l W2 ((h.below EObj.keeps hW).below EObj.keeps hW2) mayO fun o ho W3 v0 v1 v2 v4 hp => ownMay_any o v0 v1 v2 v4 W3 hp (hs o ho)
  · exact rResolve_any p c l W (h.below EObj.keeps hW) (by omega) mayO _ rfl hok fun o ho W3 v0 v1 v2 v4 hp => refMay_any o v0 v1 v2 v4 W3 hp (hs o ho)

set_option maxRecDepth 100000 in
set_option maxHeartbeats 8000000 in
theorem names_walk (HUP : ∀ W, Calls Tryz.prog 17 #[] W fun e w' => e = .returned (.bool true) ∧ Below W.heap.size W w') (p : Option Addr) (c : Nat) (l : List ObjD) (name : ByteArray) (o s : Int) (w : World) (h : HasL 5 EObj w p l) (hlm : l.length ≤ maxLen) (hob : i64bd o) (hsb : i64bd s) :
    Calls Tryz.prog 5 #[.slice p l.length c, .string name, .int .i64 o, .int .i64 s] w fun e w' => e = .returned (.bool true) ∧ Below w.heap.size w w' := by
  have HH := Lib.hid fun W (hW : Below w.heap.size w W) => h.below EObj.keeps hW
  have HUPH := Lib.hid (HUP w)
  have HFEW := Lib.hid fun W (hW : Below w.heap.size w W) => few_any p c l W (h.below EObj.keeps hW) hlm
  have HRES := Lib.hid fun (hl : l.length ≤ 10) (hs : ∀ o ∈ l, SmallD o) => (both_res h hl hs : BothRes w p c l)
  have HOB := Lib.hid hob
  have HSB := Lib.hid hsb
  obtain ⟨ln, hln⟩ : ∃ ln, ln = l.length := ⟨_, rfl⟩
  have HLN := Lib.hid hln
  unfold BothRes at HRES
  rw [← hln] at HFEW HRES ⊢
  clear HUP h hlm hob hsb hln
  go_enter Tryz.func5, Tryz.ntmps5
  go_upto_region 2 with (first | (go_at_call 17; refine HUPH.out.mono ?_; rintro e w1 ⟨rfl, hb1⟩) | fail)
  go_wp2_with fail
  refine (HFEW.out _ hb1).mono ?_
  rintro e w2 ⟨⟨r, rfl, hr⟩, hb2⟩
  have hb12 := hb1.trans (hb2.mono hb1.size)
  rcases hr with rfl | ⟨rfl, hl, hs⟩
  · go_wp2_with fail
    go_ret
    exact ⟨rfl, hb12⟩
  obtain ⟨mb, hok, HN, HR⟩ := HRES.out hl hs
  have HNR := Lib.hid HN
  have HRR := Lib.hid HR
  have HOK := Lib.hid hok
  clear hok HN HR HRES hs hb1 hb2 HFEW
  have hs12 := hb12.size
  generalize hgb : w.heap.size = gb at *
  have HGB := Lib.hid hgb
  clear hgb
  go_upto_region 5 with (first | (go_at_call 19; refine (HNR.out _ hb12).mono ?_; rintro e w3 ⟨n1, v0, v1, rfl, ht1, hb3⟩; obtain ⟨y0, y1, y2, y3, y4, y5, hv0, hv1⟩ := tab_form ht1; rw [hv0, hv1] at ht1 ⊢) | fail)
  clear hv0 hv1 v0 v1
  have HT1 := Lib.hid ht1
  have hA3 := heap_alloc_new w3 (.cells #[.slice y0 y1 y2, .slice y3 y4 y5] 49)
  have hb4 : Below w3.heap.size w3 (w3.alloc (.cells #[.slice y0 y1 y2, .slice y3 y4 y5] 49)) := (Below.refl _ w3).alloc (Nat.le_refl _) _
  have hb04 : Below gb w (w3.alloc (.cells #[.slice y0 y1 y2, .slice y3 y4 y5] 49)) := (hb12.trans (hb3.mono hs12)).trans (hb4.mono (by have := hb3.size; omega))
  have hs3 : gb ≤ w3.heap.size := by have := hb3.size; omega
  generalize w3.alloc (.cells #[.slice y0 y1 y2, .slice y3 y4 y5] 49) = w4 at *
  generalize hg3 : w3.heap.size = g3 at *
  have HB4 := Lib.hid hb4
  have hs4 : g3 < w4.heap.size := (Array.getElem?_eq_some_iff.1 hA3).1
  clear hb12 hb3 ht1 HNR
  have HRR4 := Lib.hid (HRR.out _ hb04)
  go_upto_region 6 with (first | (go_at_call 20; refine HRR4.out.mono ?_; rintro e w5 ⟨n2, u0, u1, rfl, ht2, hb5⟩; obtain ⟨z0, z1, z2, z3, z4, z5, hu0, hu1⟩ := rtab_form ht2; rw [hu0, hu1] at ht2 ⊢) | fail)
  clear hu0 hu1 u0 u1
  have hA5 := heap_alloc_new w5 (.cells #[.slice z0 z1 z2, .slice z3 z4 z5] 54)
  have hb6 : Below w5.heap.size w5 (w5.alloc (.cells #[.slice z0 z1 z2, .slice z3 z4 z5] 54)) := (Below.refl _ w5).alloc (Nat.le_refl _) _
  have hb46 : Below w4.heap.size w4 (w5.alloc (.cells #[.slice z0 z1 z2, .slice z3 z4 z5] 54)) := hb5.trans (hb6.mono hb5.size)
  generalize w5.alloc (.cells #[.slice z0 z1 z2, .slice z3 z4 z5] 54) = w6 at *
  generalize hg5 : w5.heap.size = g5 at *
  have hA6 := (hb46.block g3 hs4).trans hA3
  have hb06 : Below gb w w6 := hb04.trans (hb46.mono (by omega))
  have hb36 : Below w3.heap.size w3 w6 := by rw [hg3]; exact HB4.out.trans (hb46.mono (by omega))
  have hb56 : Below w5.heap.size w5 w6 := by rw [hg5]; exact hb6
  obtain ⟨rfl, hn, hcase⟩ := agree (by rw [← HLN.out]; exact hl) HOK.out HT1.out ht2
  have HC1 := Lib.hid (code_any n1 hn)
  obtain ⟨⟨a0, a1⟩, _⟩ := pair_cells _ _ _ _ _ hA6
  obtain ⟨⟨b0, b1⟩, _⟩ := pair_cells _ _ _ _ _ hA5
  have HB06 := Lib.hid hb06
  have hg5s : g5 < w6.heap.size := (Array.getElem?_eq_some_iff.1 hA5).1
  have hg3s : g3 < w6.heap.size := (Array.getElem?_eq_some_iff.1 hA6).1
  have hgs6 : gb ≤ w6.heap.size := by omega
  clear hb04 hb46 hb06 hA3 hb4 hb5 hb6 ht2 HT1 HRR hs4 hg3 hg5 hs3 hs12
  have hnn : (n1 != n1) = false := by simp
  rcases hcase with ⟨hne, hq0, hq1, hq2, hq3⟩ | ⟨rfl, hmb, defs, hsrt, hdl, hfind, hi1, hi2⟩
  · have hne' : (n1 != 0) = true := by simpa [bne] using hne
    cases hq0
    cases hq1
    cases hq2
    cases hq3
    have HSM := Lib.hid fun W => same_any nilV nilV nilV nilV [] [] W (nil_tab W) (nil_tab W)
    clear hA6 hA5 hb36 hb56
    go_wp2_with fail
    refine (HC1.out _).mono ?_
    rintro e w7 ⟨rfl, hb7⟩
    have a0' := cell_later hb7 a0
    have a1' := cell_later hb7 a1
    have b0' := cell_later hb7 b0
    have b1' := cell_later hb7 b1
    clear a0 a1 b0 b1
    go_wp2_with fail
    refine (HSM.out _).mono ?_
    rintro e w8 ⟨rfl, hb8⟩
    go_wp2_with fail
    go_ret
    exact ⟨rfl, by first | exact HB06.out.trans ((hb7.trans (hb8.mono hb7.size)).mono hgs6) | (rw [HGB.out]; exact HB06.out.trans ((hb7.trans (hb8.mono hb7.size)).mono hgs6))⟩
  · have HJ1 := Lib.hid (hi1.below hb36)
    have HJ2 := Lib.hid (hi2.below hb56)
    have hok := HOK.out hmb
    have hq := HLN.out
    clear HLN hA6 hA5 hi1 hi2 hb36 hb56 HB4 HRR4 HOK
    subst hq
    obtain ⟨⟨_, _, e1, _, _, _, hd1⟩, ⟨_, _, e2, _, _, _, hf1⟩⟩ := HJ1.out
    obtain ⟨⟨_, _, e3, _, _, _, hd2⟩, ⟨_, _, e4, _, _, _, hf2⟩⟩ := HJ2.out
    cases e1
    cases e2
    cases e3
    cases e4
    have hHW : ∀ W, Below w6.heap.size w6 W → HasL 5 EObj W p l := fun W hW => HH.out W (HB06.out.trans (hW.mono hgs6))
    have HSM := Lib.hid fun W (hW : Below w6.heap.size w6 W) => same_any _ _ _ _ (dropsOf l) defs W (HJ1.out.below hW) (HJ2.out.below hW)
    have hFN := fun W (hW : Below w6.heap.size w6 W) => nfind_any y3 defs.length y5 (.slice y0 (dropsOf l).length y2) defs name W (hf1.below EDef.keeps hW) rfl hdl hsrt
    have hFR := fun W (hW : Below w6.heap.size w6 W) => rFind_any p z0 c z2 (.slice z3 defs.length z5) l (dropsOf l) name W (hHW W hW) hok (by omega) (drop_ok (hd2.below EBools.keeps hW))
    have hWN := fun W (hW : Below w6.heap.size w6 W) => nWhere_any p y0 y3 c y2 defs.length y5 o s l (dropsOf l) defs W (hHW W hW) hok (drop_ok (hd1.below EBools.keeps hW)) (hf1.below EDef.keeps hW) rfl hdl hsrt hfind HOB.out HSB.out
    have hWR := fun W (hW : Below w6.heap.size w6 W) => rWhere_any p z0 c z2 o s (.slice z3 defs.length z5) l (dropsOf l) W (hHW W hW) hok (by omega) (drop_ok (hd2.below EBools.keeps hW)) HOB.out HSB.out
    have hwc := where_code (l := l) (D := dropsOf l) (o := o) (s := s)
    unfold findD at hFR
    rw [hfind name] at hFN
    unfold GivesNPl at hWN
    unfold GivesPl at hWR
    obtain ⟨fo, hfo⟩ : ∃ fo, fo = findIn (allTo ObjD.syms l l.length) (dropsOf l) name := ⟨_, rfl⟩
    obtain ⟨pr, hpr⟩ : ∃ pr, pr = whereB l (dropsOf l) o s := ⟨_, rfl⟩
    rw [← hfo] at hFN hFR
    rw [← hpr] at hWN hWR hwc
    obtain ⟨pl, pn⟩ := pr
    have hx0 : fo.isSome = false → fo.getD noDef = noDef := fun h => by cases fo with | none => rfl | some _ => cases h
    obtain ⟨x, hx⟩ : ∃ x, x = fo.getD noDef := ⟨_, rfl⟩
    obtain ⟨q, hq⟩ : ∃ q, q = fo.isSome := ⟨_, rfl⟩
    rw [← hx, ← hq] at hFN hFR hx0
    have HX0 := Lib.hid hx0
    have HFN := Lib.hid hFN
    have HFR := Lib.hid hFR
    have HWN := Lib.hid hWN
    have HWR := Lib.hid hWR
    have HCP := Lib.hid (code_any pn hwc)
    clear hx0 hFN hFR hWN hWR hwc hfo hpr hx hq hd1 hf1 hd2 hf2 hHW HJ1 HJ2 hok hsrt hdl hfind HH HOB HSB
    generalize (dropsOf l).length = dn at *
    generalize defs.length = fn at *
    generalize l.length = ln at *
    go_wp2_with fail
    refine (HC1.out _).mono ?_
    rintro e w7 ⟨rfl, hb7⟩
    have a0' := cell_later hb7 a0
    have a1' := cell_later hb7 a1
    have b0' := cell_later hb7 b0
    have b1' := cell_later hb7 b1
    clear a0 a1 b0 b1
    go_wp2_with fail
    refine (HSM.out _ hb7).mono ?_
    rintro e w8 ⟨rfl, hb8⟩
    have hb68 := hb7.trans (hb8.mono hb7.size)
    have a0 := cell_later hb8 a0'
    have a1 := cell_later hb8 a1'
    have b0 := cell_later hb8 b0'
    have b1 := cell_later hb8 b1'
    clear a0' a1' b0' b1' hb7 hb8 HSM
    go_upto_region 11 with (first | (go_at_call 23; refine (HFN.out _ hb68).mono ?_; rintro e w9 ⟨rfl, hb9⟩) | fail)
    have hA9 := heap_alloc_new w9 (.cells #[.string x.name, .int .i64 (x.obj : Int), .int .i64 (x.sym : Int)] 60)
    have hb8A : Below w8.heap.size w8 (w9.alloc (.cells #[.string x.name, .int .i64 (x.obj : Int), .int .i64 (x.sym : Int)] 60)) := hb9.alloc hb9.size _
    have hb6A := hb68.trans (hb8A.mono hb68.size)
    replace a0 := cell_later hb8A a0
    replace a1 := cell_later hb8A a1
    replace b0 := cell_later hb8A b0
    replace b1 := cell_later hb8A b1
    generalize w9.alloc (.cells #[.string x.name, .int .i64 (x.obj : Int), .int .i64 (x.sym : Int)] 60) = wA at *
    generalize w9.heap.size = gA at *
    obtain ⟨⟨d0, d1, d2⟩, _⟩ := three_cells _ _ _ _ _ _ hA9
    clear hb9 hb8A hA9 hb68 HFN
    go_upto_region 12 with (first | (go_at_call 24; refine (HFR.out _ hb6A).mono ?_; rintro e wB ⟨rfl, hbB⟩) | fail)
    have hAB := heap_alloc_new wB (.cells #[.string x.name, .int .i64 (x.obj : Int), .int .i64 (x.sym : Int)] 63)
    have hbAC : Below wA.heap.size wA (wB.alloc (.cells #[.string x.name, .int .i64 (x.obj : Int), .int .i64 (x.sym : Int)] 63)) := hbB.alloc hbB.size _
    have hb6C := hb6A.trans (hbAC.mono hb6A.size)
    replace a0 := cell_later hbAC a0
    replace a1 := cell_later hbAC a1
    replace b0 := cell_later hbAC b0
    replace b1 := cell_later hbAC b1
    replace d0 := cell_later hbAC d0
    replace d1 := cell_later hbAC d1
    replace d2 := cell_later hbAC d2
    generalize wB.alloc (.cells #[.string x.name, .int .i64 (x.obj : Int), .int .i64 (x.sym : Int)] 63) = wC at *
    generalize wB.heap.size = gB at *
    obtain ⟨⟨r0, r1, r2⟩, _⟩ := three_cells _ _ _ _ _ _ hAB
    clear hbB hbAC hAB hb6A HFR
    cases q with
    | true =>
      go_upto_region 14 with fail
      clear d0 d1 d2 r0 r1 r2
      go_upto_region 15 with (first | (go_at_call 25; refine (HWN.out _ hb6C).mono ?_; rintro e wD ⟨rfl, hbD⟩) | fail)
      have hAD := heap_alloc_new wD (.cells #[.int .i64 pl.obj, .int .i64 pl.sec, .int .i64 pl.at_] 67)
      have hbCE : Below wC.heap.size wC (wD.alloc (.cells #[.int .i64 pl.obj, .int .i64 pl.sec, .int .i64 pl.at_] 67)) := hbD.alloc hbD.size _
      have hb6E := hb6C.trans (hbCE.mono hb6C.size)
      replace b0 := cell_later hbCE b0
      replace b1 := cell_later hbCE b1
      generalize wD.alloc (.cells #[.int .i64 pl.obj, .int .i64 pl.sec, .int .i64 pl.at_] 67) = wE at *
      generalize wD.heap.size = gD at *
      obtain ⟨⟨s0, s1, s2⟩, _⟩ := three_cells _ _ _ _ _ _ hAD
      clear hbD hbCE hAD hb6C a0 a1 HWN
      go_upto_region 16 with (first | (go_at_call 26; refine (HWR.out _ hb6E).mono ?_; rintro e wF ⟨rfl, hbF⟩) | fail)
      have hAF := heap_alloc_new wF (.cells #[.int .i64 pl.obj, .int .i64 pl.sec, .int .i64 pl.at_] 70)
      have hbEG : Below wE.heap.size wE (wF.alloc (.cells #[.int .i64 pl.obj, .int .i64 pl.sec, .int .i64 pl.at_] 70)) := hbF.alloc hbF.size _
      have hb6G := hb6E.trans (hbEG.mono hb6E.size)
      replace s0 := cell_later hbEG s0
      replace s1 := cell_later hbEG s1
      replace s2 := cell_later hbEG s2
      generalize wF.alloc (.cells #[.int .i64 pl.obj, .int .i64 pl.sec, .int .i64 pl.at_] 70) = wG at *
      generalize wF.heap.size = gF at *
      obtain ⟨⟨t0, t1, t2⟩, _⟩ := three_cells _ _ _ _ _ _ hAF
      clear hbF hbEG hAF hb6E b0 b1 HWR
      go_wp2_with fail
      refine (HCP.out _).mono ?_
      rintro e wH ⟨rfl, hbH⟩
      replace s0 := cell_later hbH s0
      replace s1 := cell_later hbH s1
      replace s2 := cell_later hbH s2
      replace t0 := cell_later hbH t0
      replace t1 := cell_later hbH t1
      replace t2 := cell_later hbH t2
      go_wp2_with fail
      go_ret
      exact ⟨rfl, by first | exact HB06.out.trans ((hb6G.trans (hbH.mono hb6G.size)).mono hgs6) | (rw [HGB.out]; exact HB06.out.trans ((hb6G.trans (hbH.mono hb6G.size)).mono hgs6))⟩
    | false =>
      have hxn := HX0.out rfl
      subst hxn
      replace d0 : wC.cell? ⟨gA, 0, none⟩ = some (.string ⟨#[]⟩) := d0
      replace d1 : wC.cell? ⟨gA, 1, none⟩ = some (.int .i64 0) := d1
      replace d2 : wC.cell? ⟨gA, 2, none⟩ = some (.int .i64 0) := d2
      have htl : (⟨#[]⟩ : ByteArray).toList = [] := by kernel_rfl
      clear r0 r1 r2
      go_upto_region 14 with (first | (rw [def_ne]) | fail)
      clear d0 d1 d2
      go_upto_region 15 with (first | (go_at_call 25; refine (HWN.out _ hb6C).mono ?_; rintro e wD ⟨rfl, hbD⟩) | fail)
      have hAD := heap_alloc_new wD (.cells #[.int .i64 pl.obj, .int .i64 pl.sec, .int .i64 pl.at_] 67)
      have hbCE : Below wC.heap.size wC (wD.alloc (.cells #[.int .i64 pl.obj, .int .i64 pl.sec, .int .i64 pl.at_] 67)) := hbD.alloc hbD.size _
      have hb6E := hb6C.trans (hbCE.mono hb6C.size)
      replace b0 := cell_later hbCE b0
      replace b1 := cell_later hbCE b1
      generalize wD.alloc (.cells #[.int .i64 pl.obj, .int .i64 pl.sec, .int .i64 pl.at_] 67) = wE at *
      generalize wD.heap.size = gD at *
      obtain ⟨⟨s0, s1, s2⟩, _⟩ := three_cells _ _ _ _ _ _ hAD
      clear hbD hbCE hAD hb6C a0 a1 HWN
      go_upto_region 16 with (first | (go_at_call 26; refine (HWR.out _ hb6E).mono ?_; rintro e wF ⟨rfl, hbF⟩) | fail)
      have hAF := heap_alloc_new wF (.cells #[.int .i64 pl.obj, .int .i64 pl.sec, .int .i64 pl.at_] 70)
      have hbEG : Below wE.heap.size wE (wF.alloc (.cells #[.int .i64 pl.obj, .int .i64 pl.sec, .int .i64 pl.at_] 70)) := hbF.alloc hbF.size _
      have hb6G := hb6E.trans (hbEG.mono hb6E.size)
      replace s0 := cell_later hbEG s0
      replace s1 := cell_later hbEG s1
      replace s2 := cell_later hbEG s2
      generalize wF.alloc (.cells #[.int .i64 pl.obj, .int .i64 pl.sec, .int .i64 pl.at_] 70) = wG at *
      generalize wF.heap.size = gF at *
      obtain ⟨⟨t0, t1, t2⟩, _⟩ := three_cells _ _ _ _ _ _ hAF
      clear hbF hbEG hAF hb6E b0 b1 HWR
      go_wp2_with fail
      refine (HCP.out _).mono ?_
      rintro e wH ⟨rfl, hbH⟩
      replace s0 := cell_later hbH s0
      replace s1 := cell_later hbH s1
      replace s2 := cell_later hbH s2
      replace t0 := cell_later hbH t0
      replace t1 := cell_later hbH t1
      replace t2 := cell_later hbH t2
      go_wp2_with fail
      go_ret
      exact ⟨rfl, by first | exact HB06.out.trans ((hb6G.trans (hbH.mono hb6G.size)).mono hgs6) | (rw [HGB.out]; exact HB06.out.trans ((hb6G.trans (hbH.mono hb6G.size)).mono hgs6))⟩
end Go.Proofs.YthnkehdcolnegaaGreat
