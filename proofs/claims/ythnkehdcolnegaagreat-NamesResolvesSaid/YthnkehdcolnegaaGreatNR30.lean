/-
  Contract of the project's own mayRels.
  Contract of the project's own maySecs.
  Contract of the project's own maySig.
  An object that may be, and is small, can be laid.
-/
import Derived.Test.YthnkehdcolnegaaGreatNR25
import Derived.Test.YthnkehdcolnegaaGreatNR29
import Derived.Test.YthnkehdcolnegaaGreatObjMem
import Derived.Test.YthnkehdcolnegaaGreatNR27
import Derived.Test.YthnkehdcolnegaaGreatNR22
import Derived.Test.YthnkehdcolnegaaGreatNR14
import Derived.Test.YthnkehdcolnegaaGreatNR19
import Derived.Test.YthnkehdcolnegaaGreatNR24
namespace Go.Proofs.YthnkehdcolnegaaGreat
open Go.RowKit

def relsGoO (yl : Nat) (dl : Nat) : Int → List RelD → Bool
  | _, [] => true
  | e, r :: t => (widthI r.type != 0) && (inR r.sym 0 ((yl : Int) - 1) && (inR r.off e ((dl : Int) - widthI r.type) && relsGoO yl dl (r.off + widthI r.type) t))
def relsO (yl dl : Nat) (rs : List RelD) : Bool := bif decide (64 < rs.length) then false else relsGoO yl dl 0 rs
theorem widthI_three (n : Int) : widthI n = 0 ∨ widthI n = 4 ∨ widthI n = 8 := by
  unfold widthI
  split
  · exact .inr (.inr rfl)
  · split
    · exact .inr (.inl rfl)
    · exact .inl rfl
set_option maxRecDepth 100000 in
set_option maxHeartbeats 4000000 in
theorem ownMayRels_any (nm : ByteArray) (ty fl al en li sz : Int) (dp rp : Option Addr) (dl dc rc yl : Nat) (rs : List RelD) (w : World) (hrs : HasL 4 ERel w rp rs) (hdm : dl ≤ maxLen) (hyl : yl ≤ 1000000) :
    Calls Tryz.prog 157 #[secV nm ty fl al en li sz (.slice dp dl dc) (.slice rp rs.length rc), .int .i64 (yl : Int)] w fun e w' => e = .returned (.bool (relsO yl dl rs)) ∧ Below w.heap.size w w' := by
  have hb1 : Below w.heap.size w (w.alloc (.cells #[.string nm, .int .i64 ty, .int .i64 fl, .int .i64 al, .int .i64 en, .int .i64 li, .int .i64 sz, .slice dp dl dc, .slice rp rs.length rc] 89)) := (Below.refl _ w).alloc (Nat.le_refl _) _
  have hha := heap_new w (.cells #[.string nm, .int .i64 ty, .int .i64 fl, .int .i64 al, .int .i64 en, .int .i64 li, .int .i64 sz, .slice dp dl dc, .slice rp rs.length rc] 89)
  have HS := Lib.hid (SecAt.of hha)
  have HRH := Lib.hid (hrs.below ERel.keeps hb1)
  have HB1 := Lib.hid hb1
  have hr : relsO yl dl rs = bif decide (64 < rs.length) then false else relsGoO yl dl 0 rs := rfl
  unfold maxLen at hdm
  generalize relsO yl dl rs = res at *
  generalize hrn : rs.length = rl at *
  have HRN := Lib.hid hrn
  have HR := Lib.hid hr
  have hky : IntKind.i64.wrap ((yl : Int) - 1) = (yl : Int) - 1 := IntWalk.i64_in _ (by omega)
  clear hr hb1 hha hrs hrn
  go_enter Tryz.func157, Tryz.ntmps157
  go_upto_region 1 with fail
  generalize w.alloc (.cells #[.string nm, .int .i64 ty, .int .i64 fl, .int .i64 al, .int .i64 en, .int .i64 li, .int .i64 sz, .slice dp dl dc, .slice rp rl rc] 89) = W1 at *
  obtain ⟨s0, s1, s2, s3, s4, s5, s6, s7, s8⟩ := HS.out
  have hbs := HB1.out.size
  by_cases h64 : 64 < rl
  · have hE : Hid (res = false) := Lib.hid (by rw [HR.out, decide_eq_true h64]; rfl)
    have hI : (64 : Int) < (rl : Int) := by omega
    clear h64
    go_wp2_with fail
    go_ret
    rw [hE.out]
    exact ⟨rfl, HB1.out⟩
  · have hE : Hid (res = relsGoO yl dl 0 rs) := Lib.hid (by rw [HR.out, decide_eq_false h64]; rfl)
    have hI : ¬ (64 : Int) < (rl : Int) := by omega
    clear HR
    go_wp2_with fail
    go_loopw [5, 16] (fun r5 r16 wr => ∃ (k : Nat) (en : Int), k ≤ rl ∧ r16 = .int .i64 (k : Int) ∧ r5 = .int .i64 en ∧ relsGoO yl dl 0 rs = relsGoO yl dl en (rs.drop k) ∧ Below W1.heap.size W1 wr) (fun _ r16 _ => rl - (intOf r16).toNat)
    case atStart => exact ⟨0, 0, Nat.zero_le _, rfl, rfl, rfl, Below.refl _ _⟩
    case round =>
      obtain ⟨k, en', hk, rfl, rfl, hgo, hb⟩ := hrel
      have HGO := Lib.hid hgo
      have HS1 := Lib.hid (HS.out.later hb)
      clear hgo
      by_cases hlt : k < rl
      · obtain ⟨b, off, r, rfl, hrk, ⟨x0, hx0⟩, ⟨x1, _⟩, ⟨x2, _⟩, ⟨x3, _⟩⟩ := HRH.out.at_ (i := k) (by rw [HRN.out]; exact hlt)
        have d0 := cell_later hb x0
        have d1 := cell_later hb x1
        have d2 := cell_later hb x2
        have d3 := cell_later hb x3
        have hdr : rs.drop k = r :: rs.drop (k + 1) := by
          rw [List.drop_eq_getElem_cons (by rw [HRN.out]; exact hlt)]
          congr 1
          exact (List.getElem?_eq_some_iff.1 hrk).2
        have hwb := widthI_three r.type
        have HZ := Lib.hid fun W => zwid_any r.type W
        have HW1 := Lib.hid fun W => ownWithin_any r.sym 0 ((yl : Int) - 1) W
        have HW2 := Lib.hid fun W => ownWithin_any r.off en' ((dl : Int) - widthI r.type) W
        have hstep : res = ((widthI r.type != 0) && (inR r.sym 0 ((yl : Int) - 1) && (inR r.off en' ((dl : Int) - widthI r.type) && relsGoO yl dl (r.off + widthI r.type) (rs.drop (k + 1))))) := by rw [hE.out, HGO.out, hdr]; rfl
        have hoff : inR r.off en' ((dl : Int) - widthI r.type) = true → r.off ≤ (dl : Int) - widthI r.type := fun h => by
          unfold inR at h
          rw [Bool.and_eq_true] at h
          exact of_decide_eq_true h.2
        have hba : Below wr.heap.size wr (wr.alloc (.cells #[.int .i64 r.off, .int .i64 r.type, .int .i64 r.sym, .int .i64 r.add] 94)) := (Below.refl _ wr).alloc (Nat.le_refl _) _
        have hha := heap_new wr (.cells #[.int .i64 r.off, .int .i64 r.type, .int .i64 r.sym, .int .i64 r.add] 94)
        have HS2 := Lib.hid (HS1.out.later hba)
        have hb2 : Below W1.heap.size W1 (wr.alloc (.cells #[.int .i64 r.off, .int .i64 r.type, .int .i64 r.sym, .int .i64 r.add] 94)) := hb.trans (hba.mono hb.size)
        have HSTEP := Lib.hid hstep
        have HOFF := Lib.hid hoff
        have hJ : (k : Int) < (rl : Int) := by omega
        have k2 : (0 : Int) ≤ (k : Int) := by omega
        have kdw : IntKind.i64.wrap ((dl : Int) - widthI r.type) = (dl : Int) - widthI r.type := IntWalk.i64_in _ (by omega)
        generalize inR r.sym 0 ((yl : Int) - 1) = q1 at *
        generalize inR r.off en' ((dl : Int) - widthI r.type) = q2 at *
        generalize widthI r.type = wd at *
        clear hrk x0 x1 x2 x3 hdr hstep hoff HS1
        go_upto_region 7 with fail
        generalize wr.alloc (.cells #[.int .i64 r.off, .int .i64 r.type, .int .i64 r.sym, .int .i64 r.add] 94) = ws at *
        have g0 : ws.cell? ⟨wr.heap.size, 0, none⟩ = some (.int .i64 r.off) := (cell_of_row ws wr.heap.size 0 _ _ (0, 0) hha).trans rfl
        have g1 : ws.cell? ⟨wr.heap.size, 1, none⟩ = some (.int .i64 r.type) := (cell_of_row ws wr.heap.size 1 _ _ (0, 0) hha).trans rfl
        have g2 : ws.cell? ⟨wr.heap.size, 2, none⟩ = some (.int .i64 r.sym) := (cell_of_row ws wr.heap.size 2 _ _ (0, 0) hha).trans rfl
        obtain ⟨_, _, _, _, _, _, _, t7, t8⟩ := HS2.out
        clear d0 d1 d2 d3 hha hba hb
        go_wp2_with fail
        refine (HZ.out _).mono ?_
        rintro e w' ⟨rfl, rfl⟩
        have hfin : Below w.heap.size w ws := HB1.out.trans (hb2.mono hbs)
        cases tz : (wd == 0) with
        | true =>
          have hE2 : Hid (res = false) := Lib.hid (by
            have h : (wd != 0) = false := by unfold bne; rw [tz]; rfl
            rw [HSTEP.out, h]; rfl)
          go_wp2_with fail
          go_ret
          rw [hE2.out]
          exact ⟨rfl, hfin⟩
        | false =>
          have hE2 : Hid (res = (q1 && (q2 && relsGoO yl dl (r.off + wd) (rs.drop (k + 1))))) := Lib.hid (by
            have h : (wd != 0) = true := by unfold bne; rw [tz]; rfl
            rw [HSTEP.out, h]; rfl)
          clear HSTEP
          go_wp2_with fail
          refine (HW1.out _).mono ?_
          rintro e w' ⟨rfl, rfl⟩
          cases q1 with
          | false =>
            have hE3 : Hid (res = false) := Lib.hid (by rw [hE2.out]; rfl)
            go_wp2_with fail
            go_ret
            rw [hE3.out]
            exact ⟨rfl, hfin⟩
          | true =>
            go_wp2_with fail
            refine (HW2.out _).mono ?_
            rintro e w' ⟨rfl, rfl⟩
            cases q2 with
            | false =>
              have hE3 : Hid (res = false) := Lib.hid (by rw [hE2.out]; rfl)
              go_wp2_with fail
              go_ret
              rw [hE3.out]
              exact ⟨rfl, hfin⟩
            | true =>
              have hE3 : Hid (res = relsGoO yl dl (r.off + wd) (rs.drop (k + 1))) := Lib.hid (by rw [hE2.out]; rfl)
              have hle := HOFF.out (by trivial)
              have kow : IntKind.i64.wrap (r.off + wd) = r.off + wd := IntWalk.i64_in _ (by omega)
              have hE4 : Hid (relsGoO yl dl 0 rs = relsGoO yl dl (r.off + wd) (rs.drop (k + 1))) := Lib.hid (by rw [← hE.out]; exact hE3.out)
              go_wp2_with fail
              go_roundw
              case rel => exact ⟨k + 1, r.off + wd, hlt, by go_num, rfl, hE4.out, hb2⟩
              case measure => simp [intOf]; omega
      · obtain rfl : k = rl := by omega
        have hJ : ¬ (k : Int) < (k : Int) := by omega
        have hE2 : Hid (res = true) := Lib.hid (by rw [hE.out, HGO.out, List.drop_eq_nil_of_le (by rw [HRN.out]; exact Nat.le_refl _)]; rfl)
        go_wp2_with fail
        go_ret
        rw [hE2.out]
        exact ⟨rfl, HB1.out.trans (hb.mono hbs)⟩
end Go.Proofs.YthnkehdcolnegaaGreat

namespace Go.Proofs.YthnkehdcolnegaaGreat
open Go.RowKit

def secAllO (ql yl : Nat) (i : Nat) (s : SecD) : Bool :=
  secO s.name s.type s.flags s.align s.ent s.size s.data.length s.rels.length (s.data.getLast? == some 0) && (linkO s.flags s.link ((i : Int) + 1) (ql : Int) && relsO yl s.data.length s.rels)
set_option maxRecDepth 100000 in
set_option maxHeartbeats 4000000 in
theorem ownMaySecs_any (v2 v4 : Value) (hs : Bool) (p0 p1 : Option Addr) (c0 c1 yl : Nat) (secs : List SecD) (w : World) (hq : HasL 9 ESec w p0 secs) (hql : secs.length ≤ 1000000) (hyl : yl ≤ 1000000) :
    Calls Tryz.prog 95 #[objV (.slice p0 secs.length c0) (.slice p1 yl c1) v2 hs v4] w fun e w' => e = .returned (.bool (eachB (secAllO secs.length yl) secs)) ∧ Below w.heap.size w w' := by
  have hb1 : Below w.heap.size w (w.alloc (.cells #[.slice p0 secs.length c0, .slice p1 yl c1, v2, .bool hs, v4] 27)) := (Below.refl _ w).alloc (Nat.le_refl _) _
  have a0 : (w.alloc (.cells #[.slice p0 secs.length c0, .slice p1 yl c1, v2, .bool hs, v4] 27)).cell? ⟨w.heap.size, 0, none⟩ = some (.slice p0 secs.length c0) := by simp
  have a1 : (w.alloc (.cells #[.slice p0 secs.length c0, .slice p1 yl c1, v2, .bool hs, v4] 27)).cell? ⟨w.heap.size, 1, none⟩ = some (.slice p1 yl c1) := by simp
  have HQ := Lib.hid (hq.below ESec.keeps hb1)
  have HB1 := Lib.hid hb1
  have hF : ∀ (i : Nat) (s : SecD), secs[i]? = some s → secAllO secs.length yl i s = false → eachB (secAllO secs.length yl) secs = false := fun i s h1 h2 => eachB_no h1 h2
  have hST : ∀ (i : Nat) (s : SecD), secs[i]? = some s → eachB (secAllO secs.length yl) (secs.take (i + 1)) = (eachB (secAllO secs.length yl) (secs.take i) && secAllO secs.length yl i s) := fun i s h => eachB_take h
  have hall : eachB (secAllO secs.length yl) (secs.take secs.length) = eachB (secAllO secs.length yl) secs := eachB_all
  generalize eachB (secAllO secs.length yl) secs = res at *
  generalize hqn : secs.length = ql at *
  have HQN := Lib.hid hqn
  have HF := Lib.hid hF
  have HST := Lib.hid hST
  have HALL := Lib.hid hall
  clear hb1 hq hqn hF hST hall
  go_enter Tryz.func95, Tryz.ntmps95
  go_upto_region 1 with fail
  generalize w.alloc (.cells #[.slice p0 ql c0, .slice p1 yl c1, v2, .bool hs, v4] 27) = W1 at *
  have hbs := HB1.out.size
  go_wp2_with fail
  go_loopw [3, 8] (fun r3 r8 wr => ∃ (k : Nat), k ≤ ql ∧ r8 = .int .i64 (k : Int) ∧ eachB (secAllO ql yl) (secs.take k) = true ∧ Below W1.heap.size W1 wr) (fun _ r8 _ => ql - (intOf r8).toNat)
  case atStart => exact ⟨0, Nat.zero_le _, rfl, by simp [eachB], Below.refl _ _⟩
  case round =>
    obtain ⟨k, hk, rfl, hall, hb⟩ := hrel
    have HA := Lib.hid hall
    clear hall
    by_cases hlt : k < ql
    · obtain ⟨b, off, s, rfl, hsk, ⟨d0, _⟩, ⟨d1, _⟩, ⟨d2, _⟩, ⟨d3, _⟩, ⟨d4, _⟩, ⟨d5, _⟩, ⟨d6, _⟩, ⟨vd, d7, hvd⟩, ⟨vr, d8, hvr⟩⟩ := HQ.out.at_ (i := k) (by rw [HQN.out]; exact hlt)
      obtain ⟨dp, dc, rfl, l1, l2, _, hdh⟩ := hvd
      obtain ⟨rp, rc, rfl, m1, m2, _, hrh⟩ := hvr
      have e0 := cell_later hb d0
      have e1 := cell_later hb d1
      have e2 := cell_later hb d2
      have e3 := cell_later hb d3
      have e4 := cell_later hb d4
      have e5 := cell_later hb d5
      have e6 := cell_later hb d6
      have e7 := cell_later hb d7
      have e8 := cell_later hb d8
      have hba : Below wr.heap.size wr (wr.alloc (.cells #[.string s.name, .int .i64 s.type, .int .i64 s.flags, .int .i64 s.align, .int .i64 s.ent, .int .i64 s.link, .int .i64 s.size, .slice dp s.data.length dc, .slice rp s.rels.length rc] 89)) := (Below.refl _ wr).alloc (Nat.le_refl _) _
      have hha := heap_new wr (.cells #[.string s.name, .int .i64 s.type, .int .i64 s.flags, .int .i64 s.align, .int .i64 s.ent, .int .i64 s.link, .int .i64 s.size, .slice dp s.data.length dc, .slice rp s.rels.length rc] 89)
      have HS := Lib.hid (SecAt.of hha)
      have hbk : Below W1.heap.size W1 (wr.alloc (.cells #[.string s.name, .int .i64 s.type, .int .i64 s.flags, .int .i64 s.align, .int .i64 s.ent, .int .i64 s.link, .int .i64 s.size, .slice dp s.data.length dc, .slice rp s.rels.length rc] 89)) := hb.trans (hba.mono hb.size)
      have HM := Lib.hid fun W (hW : Below W1.heap.size W1 W) => ownMaySec_any s.name s.type s.flags s.align s.ent s.link s.size dp rp s.data.length dc s.rels.length rc s.data W (hdh.below EByte.keeps hW).has rfl l1 l2
      have HL := Lib.hid fun W => ownMayLink_any s.name s.type s.flags s.align s.ent s.link s.size (.slice dp s.data.length dc) rp s.rels.length rc dp s.data.length dc ((k : Int) + 1) (ql : Int) W rfl
      have HR := Lib.hid fun W (hW : Below W1.heap.size W1 W) => ownMayRels_any s.name s.type s.flags s.align s.ent s.link s.size dp rp s.data.length dc rc yl s.rels W (hrh.below ERel.keeps hW) (Nat.le_trans l1 l2) hyl
      have hsa : secAllO ql yl k s = (secO s.name s.type s.flags s.align s.ent s.size s.data.length s.rels.length (s.data.getLast? == some 0) && (linkO s.flags s.link ((k : Int) + 1) (ql : Int) && relsO yl s.data.length s.rels)) := rfl
      have hf := fun h => HF.out k s hsk h
      have hst := HST.out k s hsk
      generalize secAllO ql yl k s = sa at *
      generalize secO s.name s.type s.flags s.align s.ent s.size s.data.length s.rels.length (s.data.getLast? == some 0) = q1 at *
      generalize linkO s.flags s.link ((k : Int) + 1) (ql : Int) = q2 at *
      generalize relsO yl s.data.length s.rels = q3 at *
      have HSA := Lib.hid hsa
      have HFF := Lib.hid hf
      have HSS := Lib.hid hst
      have hJ : (k : Int) < (ql : Int) := by omega
      have k2 : (0 : Int) ≤ (k : Int) := by omega
      have kw : IntKind.i64.wrap ((k : Int) + 1) = (k : Int) + 1 := IntWalk.i64_in _ (by omega)
      clear hsk d0 d1 d2 d3 d4 d5 d6 d7 d8 hdh hrh l1 l2 m1 m2 hha hsa hf hst
      generalize s.data.length = dn at *
      generalize s.rels.length = rn at *
      go_upto_region 4 with fail
      generalize wr.alloc (.cells #[.string s.name, .int .i64 s.type, .int .i64 s.flags, .int .i64 s.align, .int .i64 s.ent, .int .i64 s.link, .int .i64 s.size, .slice dp dn dc, .slice rp rn rc] 89) = ws at *
      obtain ⟨s0, s1, s2, s3, s4, s5, s6, s7, s8⟩ := HS.out
      have hbks := hbk.size
      clear e0 e1 e2 e3 e4 e5 e6 e7 e8 hba hb
      go_wp2_with fail
      refine (HM.out _ hbk).mono ?_
      rintro e w2 ⟨rfl, hb2⟩
      have HS2 := Lib.hid (HS.out.later hb2)
      have hbk2 : Below W1.heap.size W1 w2 := hbk.trans (hb2.mono hbks)
      have hbk2s := hbk2.size
      clear s0 s1 s2 s3 s4 s5 s6 s7 s8 hb2 HS hbk
      obtain ⟨s0, s1, s2, s3, s4, s5, s6, s7, s8⟩ := HS2.out
      have b0 := cell_later hbk2 a0
      have b1 := cell_later hbk2 a1
      cases q1 with
      | false =>
        have hE := Lib.hid (HFF.out (by rw [HSA.out]; rfl))
        go_wp2_with fail
        go_ret
        rw [hE.out]
        exact ⟨rfl, HB1.out.trans (hbk2.mono hbs)⟩
      | true =>
        go_wp2_with fail
        refine (HL.out _).mono ?_
        rintro e w3 ⟨rfl, hb3⟩
        have HS3 := Lib.hid (HS2.out.later hb3)
        have hbk3 : Below W1.heap.size W1 w3 := hbk2.trans (hb3.mono hbk2s)
        have hbk3s := hbk3.size
        clear s0 s1 s2 s3 s4 s5 s6 s7 s8 hb3 HS2 hbk2 b0 b1
        obtain ⟨s0, s1, s2, s3, s4, s5, s6, s7, s8⟩ := HS3.out
        have b0 := cell_later hbk3 a0
        have b1 := cell_later hbk3 a1
        cases q2 with
        | false =>
          have hE := Lib.hid (HFF.out (by rw [HSA.out]; rfl))
          go_wp2_with fail
          go_ret
          rw [hE.out]
          exact ⟨rfl, HB1.out.trans (hbk3.mono hbs)⟩
        | true =>
          go_wp2_with fail
          refine (HR.out _ hbk3).mono ?_
          rintro e w4 ⟨rfl, hb4⟩
          have hbk4 : Below W1.heap.size W1 w4 := hbk3.trans (hb4.mono hbk3s)
          clear s0 s1 s2 s3 s4 s5 s6 s7 s8 hb4 HS3 hbk3 b0 b1
          cases q3 with
          | false =>
            have hE := Lib.hid (HFF.out (by rw [HSA.out]; rfl))
            go_wp2_with fail
            go_ret
            rw [hE.out]
            exact ⟨rfl, HB1.out.trans (hbk4.mono hbs)⟩
          | true =>
            have hE : Hid (eachB (secAllO ql yl) (secs.take (k + 1)) = true) := Lib.hid (by rw [HSS.out, HA.out, HSA.out]; rfl)
            go_wp2_with fail
            go_roundw
            case rel => exact ⟨k + 1, hlt, by go_num, hE.out, hbk4⟩
            case measure => simp [intOf]; omega
    · obtain rfl : k = ql := by omega
      have hJ : ¬ (k : Int) < (k : Int) := by omega
      have hE : Hid (res = true) := Lib.hid (by rw [← HALL.out]; exact HA.out)
      go_wp2_with fail
      go_ret
      rw [hE.out]
      exact ⟨rfl, HB1.out.trans (hb.mono hbs)⟩
end Go.Proofs.YthnkehdcolnegaaGreat

namespace Go.Proofs.YthnkehdcolnegaaGreat
open Go.RowKit

def sigO (hs : Bool) (yl : Nat) (l : List Int) : Bool := bif hs then l.all (fun n => inR n 0 ((yl : Int) - 1)) else (l.length == 0)
set_option maxRecDepth 100000 in
set_option maxHeartbeats 2000000 in
theorem ownMaySig_any (v0 v2 v4 : Value) (p1 : Option Addr) (yl c1 : Nat) (hs : Bool) (sig : List Int) (w : World) (hx : IsL 1 EInt w v4 sig) (hyl : yl ≤ 1000000) :
    Calls Tryz.prog 96 #[objV v0 (.slice p1 yl c1) v2 hs v4] w fun e w' => e = .returned (.bool (sigO hs yl sig)) ∧ Below w.heap.size w w' := by
  have hb1 : Below w.heap.size w (w.alloc (.cells #[v0, .slice p1 yl c1, v2, .bool hs, v4] 27)) := (Below.refl _ w).alloc (Nat.le_refl _) _
  have hq4 := hx.below EInt.keeps hb1
  obtain ⟨p4, c4, rfl, x1, x2, _, hxh⟩ := hq4
  have a1 : (w.alloc (.cells #[v0, .slice p1 yl c1, v2, .bool hs, .slice p4 sig.length c4] 27)).cell? ⟨w.heap.size, 1, none⟩ = some (.slice p1 yl c1) := by simp
  have a3 : (w.alloc (.cells #[v0, .slice p1 yl c1, v2, .bool hs, .slice p4 sig.length c4] 27)).cell? ⟨w.heap.size, 3, none⟩ = some (.bool hs) := by simp
  have a4 : (w.alloc (.cells #[v0, .slice p1 yl c1, v2, .bool hs, .slice p4 sig.length c4] 27)).cell? ⟨w.heap.size, 4, none⟩ = some (.slice p4 sig.length c4) := by simp
  have hr : sigO hs yl sig = bif hs then sig.all (fun n => inR n 0 ((yl : Int) - 1)) else (sig.length == 0) := rfl
  have HXH := Lib.hid hxh
  have HB1 := Lib.hid hb1
  generalize sigO hs yl sig = res at *
  have HR := Lib.hid hr
  have hxm := Nat.le_trans x1 x2
  unfold maxLen at hxm
  generalize hxl : sig.length = xl at *
  have HXL := Lib.hid hxl
  have kw : IntKind.i64.wrap ((yl : Int) - 1) = (yl : Int) - 1 := IntWalk.i64_in _ (by omega)
  clear hx hb1 hxh hr hxl x1 x2
  go_enter Tryz.func96, Tryz.ntmps96
  go_upto_region 1 with fail
  generalize w.alloc (.cells #[v0, .slice p1 yl c1, v2, .bool hs, .slice p4 xl c4] 27) = W1 at *
  cases hs with
  | false =>
    rcases Nat.eq_zero_or_pos xl with h0 | h0
    · subst h0
      have hE : Hid (res = true) := Lib.hid (by rw [HR.out]; rfl)
      go_wp2_with fail
      go_ret
      rw [hE.out]
      exact ⟨rfl, HB1.out⟩
    · have hne : ((xl : Int) == 0) = false := by simp; omega
      have hE : Hid (res = false) := Lib.hid (by
        rw [HR.out]
        show (xl == 0) = false
        simp
        omega)
      go_wp2_with fail
      go_ret
      rw [hE.out]
      exact ⟨by trivial, HB1.out⟩
  | true =>
    have hE : Hid (res = sig.all (fun n => inR n 0 ((yl : Int) - 1))) := Lib.hid (by rw [HR.out]; rfl)
    clear HR
    go_wp2_with fail
    go_loop [4, 15] (fun r4 r15 => ∃ (k : Nat), k ≤ xl ∧ r15 = .int .i64 (k : Int) ∧ (sig.take k).all (fun n => inR n 0 ((yl : Int) - 1)) = true) (fun _ r15 => xl - (intOf r15).toNat)
    case atStart => exact ⟨0, Nat.zero_le _, rfl, by simp⟩
    case round =>
      obtain ⟨k, hk, rfl, hall⟩ := hrel
      have HA := Lib.hid hall
      clear hall
      by_cases hlt : k < xl
      · obtain ⟨b, off, m, rfl, hm, x0, _⟩ := HXH.out.at_ (i := k) (by rw [HXL.out]; exact hlt)
        rw [Nat.mul_one] at x0
        have HW := Lib.hid fun W => ownWithin_any m 0 ((yl : Int) - 1) W
        have HT : Hid ((sig.take (k + 1)).all (fun n => inR n 0 ((yl : Int) - 1)) = inR m 0 ((yl : Int) - 1)) := Lib.hid (by rw [List.take_add_one, hm, List.all_append, HA.out]; simp)
        have HF : Hid (inR m 0 ((yl : Int) - 1) = false → res = false) := Lib.hid fun h => by
          rw [hE.out, List.all_eq_false]
          exact ⟨m, List.mem_of_getElem? hm, by rw [h]; simp⟩
        have hJ : (k : Int) < (xl : Int) := by omega
        have k2 : (0 : Int) ≤ (k : Int) := by omega
        generalize inR m 0 ((yl : Int) - 1) = q at *
        clear hm
        go_wp2_with fail
        refine (HW.out _).mono ?_
        rintro e w' ⟨rfl, rfl⟩
        cases q with
        | false =>
          have hE2 := Lib.hid (HF.out (by trivial))
          go_wp2_with fail
          go_ret
          rw [hE2.out]
          exact ⟨rfl, HB1.out⟩
        | true =>
          go_wp2_with fail
          go_round
          case rel => exact ⟨k + 1, hlt, by go_num, HT.out⟩
          case measure => simp [intOf]; omega
      · obtain rfl : k = xl := by omega
        have hJ : ¬ (k : Int) < (k : Int) := by omega
        have hE2 : Hid (res = true) := Lib.hid (by rw [hE.out]; have := HA.out; rwa [List.take_of_length_le (by rw [HXL.out]; exact Nat.le_refl _)] at this)
        go_wp2_with fail
        go_ret
        rw [hE2.out]
        exact ⟨rfl, HB1.out⟩
end Go.Proofs.YthnkehdcolnegaaGreat

namespace Go.Proofs.YthnkehdcolnegaaGreat
open Go.RowKit

theorem eachB_yes {α : Type} {f : Nat → α → Bool} {l : List α} (h : eachB f l = true) {i : Nat} {x : α} (hx : l[i]? = some x) : f i x = true := by
  cases hf : f i x with
  | true => rfl
  | false =>
    rw [eachB_no hx hf] at h
    cases h
theorem flag_neg {n : Int} (h : n < 0) : ∀ L : List Int, L.foldl flagStep n = n
  | [] => rfl
  | l :: r => by
    have e : flagStep n l = n := by
      unfold flagStep hasF
      rw [decide_eq_false (by omega)]
      simp
    rw [List.foldl_cons, e]
    exact flag_neg h r
theorem flag_sub (n : Int) : ∀ L : List Int, (∀ l ∈ L, 0 ≤ l) → n ≤ L.foldl flagStep n + L.sum
  | [], _ => by simp
  | l :: r, h => by
    have ih := flag_sub (flagStep n l) r fun x hx => h x (List.mem_cons_of_mem _ hx)
    have hl := h l (List.mem_cons_self ..)
    have e : n - l ≤ flagStep n l := by
      unfold flagStep
      split <;> omega
    rw [List.foldl_cons, List.sum_cons]
    omega
theorem flags_fit {n : Int} (h : flagsB n = true) : fitsB n = true := by
  unfold flagsB at h
  rw [beq_iff_eq] at h
  have h1 : 0 ≤ n := by
    by_cases hn : n < 0
    · rw [flag_neg hn] at h
      omega
    · omega
  have h2 := flag_sub n flagL (by decide)
  rw [h] at h2
  have h3 : flagL.sum = 2097847 := by decide
  exact (fitsB_iff n).2 ⟨h1, by omega⟩
theorem align_fit {n : Int} (h : alignB n = true) : fitsB n = true := by
  obtain ⟨i, hi, rfl⟩ := (alignB_iff n).1 h
  have := pow_bd i hi
  exact (fitsB_iff _).2 ⟨by omega, by omega⟩
theorem kind_fit {ty fl al en sz : Int} {dl rl : Nat} {z : Bool} (h : kindB ty fl al en sz dl rl z = true) :
    fitsB ty = true ∧ fitsB fl = true ∧ fitsB al = true ∧ fitsB en = true ∧ fitsB sz = true ∧ (ty ≠ 8 → sz = dl) := by
  unfold kindB at h
  simp only [Bool.cond_eq_ite] at h
  split at h
  · cases h
  · rename_i h1
    simp only [Bool.or_eq_true, Bool.not_eq_true', not_or, Bool.not_eq_false, Bool.and_eq_true] at h1
    obtain ⟨⟨hfl, hal⟩, _⟩ := h1
    have hfl := flags_fit hfl
    have hal := align_fit hal
    split at h
    · cases h
    · rename_i h2
      split at h
      · cases h
      · rename_i h3
        split at h
        · cases h
        · rename_i h4
          have hty : ty = 1 ∨ ty = 8 := by
            simp only [Bool.and_eq_true, bne_iff_ne, ne_eq, not_and, Decidable.not_not] at h4
            by_cases h : ty = 1
            · exact .inl h
            · exact .inr (h4 h)
          have hsz : 0 ≤ sz ∧ sz ≤ 2147483647 ∧ (ty ≠ 8 → sz = dl) := by
            rcases hty with rfl | rfl
            · simp at h2
              omega
            · simp at h3
              omega
          have hty2 : fitsB ty = true := by rcases hty with rfl | rfl <;> rfl
          have hen : fitsB en = true := by
            split at h
            · simp at h
              rw [h.1]
              rfl
            · split at h
              · cases h
              · split at h
                · simp at h
                  rw [h.1.1]
                  rfl
                · simp at h
                  rcases h.1.1 with (rfl | rfl) | rfl <;> rfl
          exact ⟨hty2, hfl, hal, hen, (fitsB_iff sz).2 ⟨hsz.1, hsz.2.1⟩, hsz.2.2⟩
/-- Few of everything. -/
structure SmallD (o : ObjD) : Prop where
  secs : o.secs.length ≤ 40
  syms : o.syms.length ≤ 140
  grps : o.groups.length ≤ 40
  sig : o.sig.length ≤ 16384
  data : ∀ s ∈ o.secs, s.data.length ≤ 20000 ∧ s.rels.length ≤ 80
  mems : ∀ g ∈ o.groups, g.members.length ≤ 50
/-- Not so many that a number would not hold them. -/
structure FewD (o : ObjD) : Prop where
  secs : o.secs.length ≤ 1000000
  syms : o.syms.length ≤ 1000000
  grps : o.groups.length ≤ 1000000
  data : ∀ s ∈ o.secs, s.data.length ≤ 1000000
  mems : ∀ g ∈ o.groups, g.members.length ≤ 1000000
theorem SmallD.few {o : ObjD} (h : SmallD o) : FewD o := ⟨by have := h.secs; omega, by have := h.syms; omega, by have := h.grps; omega, fun s hs => by have := (h.data s hs).1; omega, fun g hg => by have := h.mems g hg; omega⟩
def AddBd (o : ObjD) : Prop := ∀ s ∈ o.secs, ∀ r ∈ s.rels, -9223372036854775808 ≤ r.add ∧ r.add ≤ 9223372036854775807
theorem shape_lays {o : ObjD} (h : shapeB o = true) (hs : SmallD o) (hb : AddBd o) : Lays o := by
  unfold shapeB at h
  simp only [Bool.and_eq_true] at h
  obtain ⟨⟨⟨⟨hh, hg⟩, hq⟩, hy⟩, hx⟩ := h
  have hql : o.secs.length ≤ 32 := by
    unfold headOK at hh
    simp only [Bool.and_eq_true, decide_eq_true_eq] at hh
    exact hh.1.1.1
  have hyl : o.syms.length ≤ 128 := by
    unfold headOK at hh
    simp only [Bool.and_eq_true, decide_eq_true_eq] at hh
    exact hh.1.2
  refine ⟨hs.secs, hs.syms, hs.grps, hs.sig, fun s hm => ?_, fun g hm => ?_, fun s hm => ?_, fun n hm => ?_⟩
  · obtain ⟨k, hk⟩ := List.getElem?_of_mem hm
    have h1 := eachB_yes hq hk
    unfold secOK at h1
    simp only [Bool.cond_eq_ite] at h1
    split at h1
    · cases h1
    · rename_i h2
      simp only [Bool.or_eq_true, Bool.not_eq_true', not_or, Bool.not_eq_false] at h2
      obtain ⟨⟨hn, hk1⟩, hr⟩ := h2
      split at h1
      · cases h1
      · rename_i h3
        obtain ⟨k1, k2, k3, k4, k5, k6⟩ := kind_fit hk1
        have hli : fitsB s.link = true := by
          cases ho : hasF s.flags 128 with
          | true =>
            rw [ho] at h3
            simp at h3
            exact (fitsB_iff _).2 ⟨by omega, by omega⟩
          | false =>
            rw [ho] at h3
            simp at h3
            rw [h3]
            rfl
        have hsd := hs.data s hm
        refine ⟨k1, k2, k5, hli, k3, k4, hn, hsd.1, hsd.2, k6, fun r hrm => ⟨?_, hb s hm r hrm⟩⟩
        obtain ⟨i, hi⟩ := List.getElem?_of_mem hrm
        unfold relsB at hr
        rw [Bool.and_eq_true] at hr
        have h5 := List.all_eq_true.1 hr.2 i (List.mem_range.2 (List.getElem?_eq_some_iff.1 hi).1)
        rw [relAtB_of hi, Bool.and_eq_true] at h5
        have h6 := h5.1
        unfold relOK at h6
        rw [Bool.and_eq_true] at h6
        exact of_decide_eq_true h6.1
  · obtain ⟨k, hk⟩ := List.getElem?_of_mem hm
    have h1 := eachB_yes (f := fun _ => grpOK o.secs.length o.syms.length) hg hk
    unfold grpOK at h1
    simp only [Bool.and_eq_true, decide_eq_true_eq] at h1
    obtain ⟨⟨⟨g1, g2⟩, _⟩, g4⟩ := h1
    refine ⟨(fitsB_iff _).2 ⟨by omega, by omega⟩, hs.mems g hm, fun m hmm => ?_⟩
    obtain ⟨j, hj⟩ := List.getElem?_of_mem hmm
    have h2 := eachB_yes g4 hj
    unfold memOK at h2
    simp only [Bool.and_eq_true, decide_eq_true_eq] at h2
    exact (fitsB_iff _).2 ⟨by omega, by omega⟩
  · obtain ⟨k, hk⟩ := List.getElem?_of_mem hm
    have h1 := eachB_yes hy hk
    unfold symOK at h1
    match k, h1 with
    | 0, h1 =>
      simp only [sym0B, Bool.and_eq_true, beq_iff_eq] at h1
      obtain ⟨⟨⟨⟨⟨n0, b0⟩, t0⟩, s0⟩, v0⟩, z0⟩ := h1
      have hn : s.name = ByteArray.empty := by
        rw [← decide_eq_emptyBytes] at n0
        exact of_decide_eq_true n0
      rw [hn, b0, t0, s0, v0, z0]
      exact ⟨rfl, rfl, rfl, by omega, by omega, by omega, by omega, by omega, by omega⟩
    | j + 1, h1 =>
      have hj : j < o.syms.length := by have := (List.getElem?_eq_some_iff.1 hk).1; omega
      simp only [List.getElem?_eq_getElem hj] at h1
      unfold symNB at h1
      simp only [Bool.cond_eq_ite] at h1
      split at h1
      · cases h1
      · rename_i h2
        simp at h2
        split at h1
        · cases h1
        · rename_i h3
          simp at h3
          obtain ⟨⟨⟨⟨⟨⟨m1, m2⟩, m3⟩, m4⟩, m5⟩, m6⟩, m7⟩ := h2
          obtain ⟨⟨⟨n1, n2⟩, n3⟩, n4⟩ := h3
          exact ⟨m1, (fitsB_iff _).2 ⟨n3, n4⟩, (fitsB_iff _).2 ⟨m6, m7⟩, m2, m3, m4, m5, n1, by omega⟩
  · obtain ⟨k, hk⟩ := List.getElem?_of_mem hm
    have h1 := eachB_yes (f := fun _ => sigOK o.syms.length) hx hk
    unfold sigOK at h1
    simp only [Bool.and_eq_true, decide_eq_true_eq] at h1
    exact (fitsB_iff _).2 ⟨by omega, by omega⟩
/-- May an object be? -/
def mayO (o : ObjD) : Bool := shapeB o && decide ((bytesOf o).length ≤ 16384)
theorem add_bd {w : World} {v0 v1 v2 v4 : Value} {o : ObjD} (hp : ObjParts w v0 v1 v2 v4 o) : AddBd o := fun s hs r hr => by
  obtain ⟨⟨p, c, _, _, _, _, hh⟩, _⟩ := hp
  obtain ⟨i, hi⟩ := List.getElem?_of_mem hs
  obtain ⟨b, off, _, _, _, _, _, _, _, _, _, ⟨v, _, q, c2, _, _, _, _, hr2⟩⟩ := hh i s hi
  obtain ⟨j, hj⟩ := List.getElem?_of_mem hr
  obtain ⟨_, _, _, _, _, _, ⟨_, hb⟩⟩ := hr2 j r hj
  exact hb
end Go.Proofs.YthnkehdcolnegaaGreat
