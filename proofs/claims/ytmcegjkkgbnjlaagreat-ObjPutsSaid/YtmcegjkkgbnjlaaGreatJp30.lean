/-
  Contract of the project's own mayMerge.
  Contract of the project's own maySec.
  Contract of the project's own mayRels.
-/
import Derived.Test.YtmcegjkkgbnjlaaGreatJp05
import Derived.Test.YtmcegjkkgbnjlaaGreatJp06
import Derived.Test.YtmcegjkkgbnjlaaGreatJp20
import Derived.Test.YtmcegjkkgbnjlaaGreatObjMem
namespace Go.Proofs.YtmcegjkkgbnjlaaGreat
open Go.RowKit

def mergeO (fl al en sz : Int) (dl rl : Nat) (last0 : Bool) : Bool :=
  bif hasO fl 16 then
    bif hasO fl 1 || (hasO fl 4 || decide ((0 : Int) < (rl : Int))) then false else
    bif hasO fl 32 then (en == 1) && ((al == 1) && (((dl : Int) == 0) || last0)) else
    bif (en == 4) || ((en == 8) || (en == 16)) then decide (al ≤ en) && (sz.tmod en == 0) else false
  else (en == 0) && !hasO fl 32
set_option maxRecDepth 100000 in
set_option maxHeartbeats 4000000 in
theorem ownMayMerge_any (nm : ByteArray) (ty fl al en li sz : Int) (dp rp : Option Addr) (dl dc rl rc : Nat) (data : List UInt8) (w : World) (hd : Has w dp data) (hdl : data.length = dl) (hdm : dl ≤ dc) (hdm2 : dc ≤ maxLen) :
    Calls Tryz.prog 127 #[secV nm ty fl al en li sz (.slice dp dl dc) (.slice rp rl rc)] w fun e w' => e = .returned (.bool (mergeO fl al en sz dl rl (data.getLast? == some 0))) ∧ Below w.heap.size w w' := by
  have hb1 : Below w.heap.size w (w.alloc (.cells #[.string nm, .int .i64 ty, .int .i64 fl, .int .i64 al, .int .i64 en, .int .i64 li, .int .i64 sz, .slice dp dl dc, .slice rp rl rc] 48)) := (Below.refl _ w).alloc (Nat.le_refl _) _
  have hha := heap_new w (.cells #[.string nm, .int .i64 ty, .int .i64 fl, .int .i64 al, .int .i64 en, .int .i64 li, .int .i64 sz, .slice dp dl dc, .slice rp rl rc] 48)
  have HS := Lib.hid (SecAt.of hha)
  have HD := Lib.hid (hd.below hb1)
  have HDL := Lib.hid hdl
  unfold maxLen at hdm2
  have HH1 := Lib.hid fun W => ownHas_any nm ty fl al en li sz (.slice dp dl dc) (.slice rp rl rc) 1 W
  have HH4 := Lib.hid fun W => ownHas_any nm ty fl al en li sz (.slice dp dl dc) (.slice rp rl rc) 4 W
  have HH16 := Lib.hid fun W => ownHas_any nm ty fl al en li sz (.slice dp dl dc) (.slice rp rl rc) 16 W
  have HH32 := Lib.hid fun W => ownHas_any nm ty fl al en li sz (.slice dp dl dc) (.slice rp rl rc) 32 W
  have hr : mergeO fl al en sz dl rl (data.getLast? == some 0) = bif hasO fl 16 then
    bif hasO fl 1 || (hasO fl 4 || decide ((0 : Int) < (rl : Int))) then false else
    bif hasO fl 32 then (en == 1) && ((al == 1) && (((dl : Int) == 0) || (data.getLast? == some 0))) else
    bif (en == 4) || ((en == 8) || (en == 16)) then decide (al ≤ en) && (sz.tmod en == 0) else false
  else (en == 0) && !hasO fl 32 := rfl
  have HB1 := Lib.hid hb1
  generalize hla : (data.getLast? == some 0) = la at *
  have HLA := Lib.hid hla
  generalize mergeO fl al en sz dl rl la = res at *
  generalize hasO fl 1 = f1 at *
  generalize hasO fl 4 = f4 at *
  generalize hasO fl 16 = f16 at *
  generalize hasO fl 32 = f32 at *
  have HR := Lib.hid hr
  clear hr hb1 hha hd hdl hla
  go_enter Tryz.func127, Tryz.ntmps127
  go_upto_region 1 with fail
  generalize w.alloc (.cells #[.string nm, .int .i64 ty, .int .i64 fl, .int .i64 al, .int .i64 en, .int .i64 li, .int .i64 sz, .slice dp dl dc, .slice rp rl rc] 48) = W1 at *
  obtain ⟨s0, s1, s2, s3, s4, s5, s6, s7, s8⟩ := HS.out
  have hbs := HB1.out.size
  go_wp2_with fail
  refine (HH16.out _).mono ?_
  rintro e w2 ⟨rfl, hb2⟩
  have HS2 := Lib.hid (HS.out.later hb2)
  have HD2 := Lib.hid (HD.out.below hb2)
  have hbw2 : Below w.heap.size w w2 := HB1.out.trans (hb2.mono hbs)
  clear s0 s1 s2 s3 s4 s5 s6 s7 s8 hb2 HS HD
  obtain ⟨s0, s1, s2, s3, s4, s5, s6, s7, s8⟩ := HS2.out
  have hbs2 := hbw2.size
  cases f16 with
  | false =>
    have hE : Hid (res = ((en == 0) && !f32)) := Lib.hid (by rw [HR.out]; rfl)
    clear HR
    cases t1 : (en == 0) with
    | false =>
      have hE2 : Hid (res = false) := Lib.hid (by rw [hE.out, t1]; rfl)
      go_wp2_with fail
      go_ret
      rw [hE2.out]
      exact ⟨rfl, hbw2⟩
    | true =>
      have hE2 : Hid (res = !f32) := Lib.hid (by rw [hE.out, t1]; rfl)
      go_wp2_with fail
      refine (HH32.out _).mono ?_
      rintro e w3 ⟨rfl, hb3⟩
      have hbw3 : Below w.heap.size w w3 := hbw2.trans (hb3.mono hbs2)
      clear s0 s1 s2 s3 s4 s5 s6 s7 s8 hb3
      go_wp2_with fail
      go_ret
      rw [hE2.out]
      exact ⟨rfl, hbw3⟩
  | true =>
    have hE : Hid (res = bif f1 || (f4 || decide ((0 : Int) < (rl : Int))) then false else
      bif f32 then (en == 1) && ((al == 1) && (((dl : Int) == 0) || la)) else
      bif (en == 4) || ((en == 8) || (en == 16)) then decide (al ≤ en) && (sz.tmod en == 0) else false) := Lib.hid (by rw [HR.out]; rfl)
    clear HR
    go_wp2_with fail
    refine (HH1.out _).mono ?_
    rintro e w3 ⟨rfl, hb3⟩
    have HS3 := Lib.hid (HS2.out.later hb3)
    have HD3 := Lib.hid (HD2.out.below hb3)
    have hbw3 : Below w.heap.size w w3 := hbw2.trans (hb3.mono hbs2)
    clear s0 s1 s2 s3 s4 s5 s6 s7 s8 hb3 HS2 HD2 hbw2
    obtain ⟨s0, s1, s2, s3, s4, s5, s6, s7, s8⟩ := HS3.out
    have hbs3 := hbw3.size
    cases f1 with
    | true =>
      have hE2 : Hid (res = false) := Lib.hid (by rw [hE.out]; rfl)
      go_wp2_with fail
      go_ret
      rw [hE2.out]
      exact ⟨rfl, hbw3⟩
    | false =>
      go_wp2_with fail
      refine (HH4.out _).mono ?_
      rintro e w4 ⟨rfl, hb4⟩
      have HS4 := Lib.hid (HS3.out.later hb4)
      have HD4 := Lib.hid (HD3.out.below hb4)
      have hbw4 : Below w.heap.size w w4 := hbw3.trans (hb4.mono hbs3)
      clear s0 s1 s2 s3 s4 s5 s6 s7 s8 hb4 HS3 HD3 hbw3
      obtain ⟨s0, s1, s2, s3, s4, s5, s6, s7, s8⟩ := HS4.out
      have hbs4 := hbw4.size
      cases f4 with
      | true =>
        have hE2 : Hid (res = false) := Lib.hid (by rw [hE.out]; rfl)
        go_wp2_with fail
        go_ret
        rw [hE2.out]
        exact ⟨rfl, hbw4⟩
      | false =>
        rcases Nat.eq_zero_or_pos rl with h0 | h0
        · subst h0
          have hE2 : Hid (res = bif f32 then (en == 1) && ((al == 1) && (((dl : Int) == 0) || la)) else
            bif (en == 4) || ((en == 8) || (en == 16)) then decide (al ≤ en) && (sz.tmod en == 0) else false) := Lib.hid (by rw [hE.out]; rfl)
          clear hE
          go_wp2_with fail
          refine (HH32.out _).mono ?_
          rintro e w5 ⟨rfl, hb5⟩
          have HS5 := Lib.hid (HS4.out.later hb5)
          have HD5 := Lib.hid (HD4.out.below hb5)
          have hbw5 : Below w.heap.size w w5 := hbw4.trans (hb5.mono hbs4)
          clear s0 s1 s2 s3 s4 s5 s6 s7 s8 hb5 HS4 HD4 hbw4
          obtain ⟨s0, s1, s2, s3, s4, s5, s6, s7, s8⟩ := HS5.out
          cases f32 with
          | true =>
            have hE3 : Hid (res = ((en == 1) && ((al == 1) && (((dl : Int) == 0) || la)))) := Lib.hid (by rw [hE2.out]; rfl)
            clear hE2
            cases t1 : (en == 1) with
            | false =>
              have hE4 : Hid (res = false) := Lib.hid (by rw [hE3.out, t1]; rfl)
              go_wp2_with fail
              go_ret
              rw [hE4.out]
              exact ⟨rfl, hbw5⟩
            | true =>
              cases t2 : (al == 1) with
              | false =>
                have hE4 : Hid (res = false) := Lib.hid (by rw [hE3.out, t1, t2]; rfl)
                go_wp2_with fail
                go_ret
                rw [hE4.out]
                exact ⟨rfl, hbw5⟩
              | true =>
                rcases Nat.eq_zero_or_pos dl with g0 | g0
                · subst g0
                  have hE4 : Hid (res = true) := Lib.hid (by rw [hE3.out, t1, t2]; rfl)
                  go_wp2_with fail
                  go_ret
                  rw [hE4.out]
                  exact ⟨by trivial, hbw5⟩
                · obtain ⟨k, rfl⟩ : ∃ k, dl = k + 1 := ⟨dl - 1, by omega⟩
                  obtain ⟨b, off, x, rfl, hx, hxc⟩ := HD5.out.at_ (i := k) (by rw [HDL.out]; omega)
                  have hne : (((k + 1 : Nat) : Int) == 0) = false := by simp; omega
                  have hla : Hid (la = ((x.toNat : Int) == 0)) := Lib.hid (by
                    rw [← HLA.out]
                    have hl : data.getLast? = some x := by rw [List.getLast?_eq_getElem?, HDL.out]; exact hx
                    rw [hl]
                    by_cases hx0 : x = 0
                    · subst hx0; rfl
                    · have h2 : ¬ x.toNat = 0 := fun e => hx0 (UInt8.toNat_inj.1 (by simpa using e))
                      have e1 : ((some x : Option UInt8) == some 0) = false := by simpa using hx0
                      have e2 : ((x.toNat : Int) == 0) = false := by simp; omega
                      rw [e1, e2])
                  have hE4 : Hid (res = ((x.toNat : Int) == 0)) := Lib.hid (by rw [hE3.out, t1, t2, hne, ← hla.out]; rfl)
                  have kw : IntKind.i64.wrap (((k : Int) + 1) - 1) = (k : Int) := by rw [show ((k : Int) + 1) - 1 = (k : Int) by omega]; exact IntWalk.i64_in _ (by omega)
                  have kn : ¬ ((k : Int) + 1 = 0) := by omega
                  have k0 : (0 : Int) ≤ (k : Int) := by omega
                  have k1 : (k : Int) < (k : Int) + 1 := by omega
                  have kt : ((k : Int)).toNat = k := by omega
                  clear hx hne
                  go_wp2_with fail
                  go_ret
                  rw [hE4.out]
                  exact ⟨by rfl, hbw5⟩
          | false =>
            have hE3 : Hid (res = bif (en == 4) || ((en == 8) || (en == 16)) then decide (al ≤ en) && (sz.tmod en == 0) else false) := Lib.hid (by rw [hE2.out]; rfl)
            by_cases h4 : en = 4
            · subst h4
              have hE4 : Hid (res = (decide (al ≤ 4) && (sz.tmod 4 == 0))) := Lib.hid (by rw [hE3.out]; rfl)
              clear hE3
              cases t5 : decide (al ≤ 4) with
              | false =>
                have hE5 : Hid (res = false) := Lib.hid (by rw [hE4.out, t5]; rfl)
                go_wp2_with fail
                go_ret
                rw [hE5.out]
                exact ⟨by trivial, hbw5⟩
              | true =>
                have hE5 : Hid (res = (sz.tmod 4 == 0)) := Lib.hid (by rw [hE4.out, t5]; rfl)
                go_wp2_with fail
                go_ret
                rw [hE5.out]
                exact ⟨by rfl, hbw5⟩
            · have t4 : (en == 4) = false := by simpa using h4
              by_cases h8 : en = 8
              · subst h8
                have hE4 : Hid (res = (decide (al ≤ 8) && (sz.tmod 8 == 0))) := Lib.hid (by rw [hE3.out]; rfl)
                clear hE3
                cases t5 : decide (al ≤ 8) with
                | false =>
                  have hE5 : Hid (res = false) := Lib.hid (by rw [hE4.out, t5]; rfl)
                  go_wp2_with fail
                  go_ret
                  rw [hE5.out]
                  exact ⟨by trivial, hbw5⟩
                | true =>
                  have hE5 : Hid (res = (sz.tmod 8 == 0)) := Lib.hid (by rw [hE4.out, t5]; rfl)
                  go_wp2_with fail
                  go_ret
                  rw [hE5.out]
                  exact ⟨by rfl, hbw5⟩
              · have t8 : (en == 8) = false := by simpa using h8
                by_cases h16 : en = 16
                · subst h16
                  have hE4 : Hid (res = (decide (al ≤ 16) && (sz.tmod 16 == 0))) := Lib.hid (by rw [hE3.out]; rfl)
                  clear hE3
                  cases t5 : decide (al ≤ 16) with
                  | false =>
                    have hE5 : Hid (res = false) := Lib.hid (by rw [hE4.out, t5]; rfl)
                    go_wp2_with fail
                    go_ret
                    rw [hE5.out]
                    exact ⟨by trivial, hbw5⟩
                  | true =>
                    have hE5 : Hid (res = (sz.tmod 16 == 0)) := Lib.hid (by rw [hE4.out, t5]; rfl)
                    go_wp2_with fail
                    go_ret
                    rw [hE5.out]
                    exact ⟨by rfl, hbw5⟩
                · have t16 : (en == 16) = false := by simpa using h16
                  have hE4 : Hid (res = false) := Lib.hid (by rw [hE3.out, t4, t8, t16]; rfl)
                  go_wp2_with fail
                  go_ret
                  rw [hE4.out]
                  exact ⟨rfl, hbw5⟩
        · have hp : decide ((0 : Int) < (rl : Int)) = true := decide_eq_true (by omega)
          have hE2 : Hid (res = false) := Lib.hid (by rw [hE.out, hp]; rfl)
          have hp2 : (0 : Int) < (rl : Int) := by omega
          go_wp2_with fail
          go_ret
          rw [hE2.out]
          exact ⟨by trivial, hbw4⟩
end Go.Proofs.YtmcegjkkgbnjlaaGreat

namespace Go.Proofs.YtmcegjkkgbnjlaaGreat
open Go.RowKit

/-- May a section be, alone: the project's way. -/
def secO (nm : ByteArray) (ty fl al en sz : Int) (dl rl : Nat) (last0 : Bool) : Bool :=
  mayB (lst nm) && ((bits .andNot .i64 fl 2097847 == 0) && (inR al 1 4096 && ((bits .and .i64 al (al - 1) == 0) && (typeO ty fl sz dl && mergeO fl al en sz dl rl last0))))
set_option maxRecDepth 100000 in
set_option maxHeartbeats 4000000 in
theorem ownMaySec_any (nm : ByteArray) (ty fl al en li sz : Int) (dp rp : Option Addr) (dl dc rl rc : Nat) (data : List UInt8) (w : World) (hd : Has w dp data) (hdl : data.length = dl) (hdm : dl ≤ dc) (hdm2 : dc ≤ maxLen) :
    Calls Tryz.prog 99 #[secV nm ty fl al en li sz (.slice dp dl dc) (.slice rp rl rc)] w fun e w' => e = .returned (.bool (secO nm ty fl al en sz dl rl (data.getLast? == some 0))) ∧ Below w.heap.size w w' := by
  have hb1 : Below w.heap.size w (w.alloc (.cells #[.string nm, .int .i64 ty, .int .i64 fl, .int .i64 al, .int .i64 en, .int .i64 li, .int .i64 sz, .slice dp dl dc, .slice rp rl rc] 48)) := (Below.refl _ w).alloc (Nat.le_refl _) _
  have hha := heap_new w (.cells #[.string nm, .int .i64 ty, .int .i64 fl, .int .i64 al, .int .i64 en, .int .i64 li, .int .i64 sz, .slice dp dl dc, .slice rp rl rc] 48)
  have HS := Lib.hid (SecAt.of hha)
  have HD := Lib.hid (hd.below hb1)
  have HM := Lib.hid fun W => sMay_any nm W
  have HW := Lib.hid fun W => ownWithin_any al 1 4096 W
  have HT := Lib.hid fun W => ownMayType_any nm ty fl al en li sz dp rp dl dc rl rc W
  have HG := Lib.hid fun W (h : Has W dp data) => ownMayMerge_any nm ty fl al en li sz dp rp dl dc rl rc data W h hdl hdm hdm2
  have hr : secO nm ty fl al en sz dl rl (data.getLast? == some 0) = (mayB (lst nm) && ((bits .andNot .i64 fl 2097847 == 0) && (inR al 1 4096 && ((bits .and .i64 al (al - 1) == 0) && (typeO ty fl sz dl && mergeO fl al en sz dl rl (data.getLast? == some 0)))))) := rfl
  have hin : inR al 1 4096 = true → 1 ≤ al ∧ al ≤ 4096 := fun h => by
    unfold inR at h
    simpa using h
  have HIN := Lib.hid hin
  have HB1 := Lib.hid hb1
  generalize secO nm ty fl al en sz dl rl (data.getLast? == some 0) = res at *
  generalize mergeO fl al en sz dl rl (data.getLast? == some 0) = mg at *
  generalize typeO ty fl sz dl = tp at *
  generalize mayB (lst nm) = m at *
  generalize inR al 1 4096 = q at *
  have HR := Lib.hid hr
  clear hr hb1 hha hd hdl hin hdm hdm2
  go_enter Tryz.func99, Tryz.ntmps99
  go_upto_region 1 with fail
  generalize w.alloc (.cells #[.string nm, .int .i64 ty, .int .i64 fl, .int .i64 al, .int .i64 en, .int .i64 li, .int .i64 sz, .slice dp dl dc, .slice rp rl rc] 48) = W1 at *
  obtain ⟨s0, s1, s2, s3, s4, s5, s6, s7, s8⟩ := HS.out
  have hbs := HB1.out.size
  go_wp2_with fail
  refine (HM.out _).mono ?_
  rintro e w' ⟨rfl, rfl⟩
  cases m with
  | false =>
    have hE : Hid (res = false) := Lib.hid (by rw [HR.out]; rfl)
    go_wp2_with fail
    go_ret
    rw [hE.out]
    exact ⟨rfl, HB1.out⟩
  | true =>
    cases t1 : (bits .andNot .i64 fl 2097847 == 0) with
    | false =>
      have hE : Hid (res = false) := Lib.hid (by rw [HR.out, t1]; rfl)
      go_wp2_with fail
      go_ret
      rw [hE.out]
      exact ⟨rfl, HB1.out⟩
    | true =>
      have hE : Hid (res = (q && ((bits .and .i64 al (al - 1) == 0) && (tp && mg)))) := Lib.hid (by rw [HR.out, t1]; rfl)
      clear HR
      go_wp2_with fail
      refine (HW.out _).mono ?_
      rintro e w' ⟨rfl, rfl⟩
      cases q with
      | false =>
        have hE2 : Hid (res = false) := Lib.hid (by rw [hE.out]; rfl)
        go_wp2_with fail
        go_ret
        rw [hE2.out]
        exact ⟨rfl, HB1.out⟩
      | true =>
        have hal := HIN.out (by trivial)
        have kw : IntKind.i64.wrap (al - 1) = al - 1 := IntWalk.i64_in _ (by omega)
        have hE2 : Hid (res = ((bits .and .i64 al (al - 1) == 0) && (tp && mg))) := Lib.hid (by rw [hE.out]; rfl)
        clear hE
        cases t2 : (bits .and .i64 al (al - 1) == 0) with
        | false =>
          have hE3 : Hid (res = false) := Lib.hid (by rw [hE2.out, t2]; rfl)
          go_wp2_with fail
          go_ret
          rw [hE3.out]
          exact ⟨rfl, HB1.out⟩
        | true =>
          have hE3 : Hid (res = (tp && mg)) := Lib.hid (by rw [hE2.out, t2]; rfl)
          go_wp2_with fail
          refine (HT.out _).mono ?_
          rintro e w2 ⟨rfl, hb2⟩
          have HS2 := Lib.hid (HS.out.later hb2)
          have HD2 := Lib.hid (HD.out.below hb2)
          have hbw2 : Below w.heap.size w w2 := HB1.out.trans (hb2.mono hbs)
          clear s0 s1 s2 s3 s4 s5 s6 s7 s8 hb2 HS HD
          obtain ⟨s0, s1, s2, s3, s4, s5, s6, s7, s8⟩ := HS2.out
          have hbs2 := hbw2.size
          cases tp with
          | false =>
            have hE4 : Hid (res = false) := Lib.hid (by rw [hE3.out]; rfl)
            go_wp2_with fail
            go_ret
            rw [hE4.out]
            exact ⟨rfl, hbw2⟩
          | true =>
            have hE4 : Hid (res = mg) := Lib.hid (by rw [hE3.out]; rfl)
            go_wp2_with fail
            refine (HG.out _ HD2.out).mono ?_
            rintro e w3 ⟨rfl, hb3⟩
            have hbw3 : Below w.heap.size w w3 := hbw2.trans (hb3.mono hbs2)
            clear s0 s1 s2 s3 s4 s5 s6 s7 s8 hb3 HS2 HD2 hbw2
            go_wp2_with fail
            go_ret
            rw [hE4.out]
            exact ⟨rfl, hbw3⟩
end Go.Proofs.YtmcegjkkgbnjlaaGreat

namespace Go.Proofs.YtmcegjkkgbnjlaaGreat
open Go.RowKit

def relsGoO (yl : Nat) (dl : Nat) : Int → List RelD → Bool
  | _, [] => true
  | e, r :: t => (widthI r.type != 0) && (inR r.sym 0 ((yl : Int) - 1) && (inR r.off e ((dl : Int) - widthI r.type) && relsGoO yl dl (r.off + widthI r.type) t))
def relsO (yl dl : Nat) (rs : List RelD) : Bool := bif decide (64 < rs.length) then false else relsGoO yl dl 0 rs
theorem widthI_three (n : Int) : widthI n = 0 ∨ widthI n = 4 ∨ widthI n = 8 := by
  unfold widthI
  split
  · exact .inr (.inr rfl)
  · split
    · exact .inr (.inl rfl)
    · exact .inl rfl
set_option maxRecDepth 100000 in
set_option maxHeartbeats 4000000 in
theorem ownMayRels_any (nm : ByteArray) (ty fl al en li sz : Int) (dp rp : Option Addr) (dl dc rc yl : Nat) (rs : List RelD) (w : World) (hrs : HasL 4 ERel w rp rs) (hdm : dl ≤ maxLen) (hyl : yl ≤ 1000000) :
    Calls Tryz.prog 101 #[secV nm ty fl al en li sz (.slice dp dl dc) (.slice rp rs.length rc), .int .i64 (yl : Int)] w fun e w' => e = .returned (.bool (relsO yl dl rs)) ∧ Below w.heap.size w w' := by
  have hb1 : Below w.heap.size w (w.alloc (.cells #[.string nm, .int .i64 ty, .int .i64 fl, .int .i64 al, .int .i64 en, .int .i64 li, .int .i64 sz, .slice dp dl dc, .slice rp rs.length rc] 48)) := (Below.refl _ w).alloc (Nat.le_refl _) _
  have hha := heap_new w (.cells #[.string nm, .int .i64 ty, .int .i64 fl, .int .i64 al, .int .i64 en, .int .i64 li, .int .i64 sz, .slice dp dl dc, .slice rp rs.length rc] 48)
  have HS := Lib.hid (SecAt.of hha)
  have HRH := Lib.hid (hrs.below ERel.keeps hb1)
  have HB1 := Lib.hid hb1
  have hr : relsO yl dl rs = bif decide (64 < rs.length) then false else relsGoO yl dl 0 rs := rfl
  unfold maxLen at hdm
  generalize relsO yl dl rs = res at *
  generalize hrn : rs.length = rl at *
  have HRN := Lib.hid hrn
  have HR := Lib.hid hr
  have hky : IntKind.i64.wrap ((yl : Int) - 1) = (yl : Int) - 1 := IntWalk.i64_in _ (by omega)
  clear hr hb1 hha hrs hrn
  go_enter Tryz.func101, Tryz.ntmps101
  go_upto_region 1 with fail
  generalize w.alloc (.cells #[.string nm, .int .i64 ty, .int .i64 fl, .int .i64 al, .int .i64 en, .int .i64 li, .int .i64 sz, .slice dp dl dc, .slice rp rl rc] 48) = W1 at *
  obtain ⟨s0, s1, s2, s3, s4, s5, s6, s7, s8⟩ := HS.out
  have hbs := HB1.out.size
  by_cases h64 : 64 < rl
  · have hE : Hid (res = false) := Lib.hid (by rw [HR.out, decide_eq_true h64]; rfl)
    have hI : (64 : Int) < (rl : Int) := by omega
    clear h64
    go_wp2_with fail
    go_ret
    rw [hE.out]
    exact ⟨rfl, HB1.out⟩
  · have hE : Hid (res = relsGoO yl dl 0 rs) := Lib.hid (by rw [HR.out, decide_eq_false h64]; rfl)
    have hI : ¬ (64 : Int) < (rl : Int) := by omega
    clear HR
    go_wp2_with fail
    go_loopw [5, 16] (fun r5 r16 wr => ∃ (k : Nat) (en : Int), k ≤ rl ∧ r16 = .int .i64 (k : Int) ∧ r5 = .int .i64 en ∧ relsGoO yl dl 0 rs = relsGoO yl dl en (rs.drop k) ∧ Below W1.heap.size W1 wr) (fun _ r16 _ => rl - (intOf r16).toNat)
    case atStart => exact ⟨0, 0, Nat.zero_le _, rfl, rfl, rfl, Below.refl _ _⟩
    case round =>
      obtain ⟨k, en', hk, rfl, rfl, hgo, hb⟩ := hrel
      have HGO := Lib.hid hgo
      have HS1 := Lib.hid (HS.out.later hb)
      clear hgo
      by_cases hlt : k < rl
      · obtain ⟨b, off, r, rfl, hrk, ⟨x0, hx0⟩, ⟨x1, _⟩, ⟨x2, _⟩, ⟨x3, _⟩⟩ := HRH.out.at_ (i := k) (by rw [HRN.out]; exact hlt)
        have d0 := cell_later hb x0
        have d1 := cell_later hb x1
        have d2 := cell_later hb x2
        have d3 := cell_later hb x3
        have hdr : rs.drop k = r :: rs.drop (k + 1) := by
          rw [List.drop_eq_getElem_cons (by rw [HRN.out]; exact hlt)]
          congr 1
          exact (List.getElem?_eq_some_iff.1 hrk).2
        have hwb := widthI_three r.type
        have HZ := Lib.hid fun W => zwid_any r.type W
        have HW1 := Lib.hid fun W => ownWithin_any r.sym 0 ((yl : Int) - 1) W
        have HW2 := Lib.hid fun W => ownWithin_any r.off en' ((dl : Int) - widthI r.type) W
        have hstep : res = ((widthI r.type != 0) && (inR r.sym 0 ((yl : Int) - 1) && (inR r.off en' ((dl : Int) - widthI r.type) && relsGoO yl dl (r.off + widthI r.type) (rs.drop (k + 1))))) := by rw [hE.out, HGO.out, hdr]; rfl
        have hoff : inR r.off en' ((dl : Int) - widthI r.type) = true → r.off ≤ (dl : Int) - widthI r.type := fun h => by
          unfold inR at h
          rw [Bool.and_eq_true] at h
          exact of_decide_eq_true h.2
        have hba : Below wr.heap.size wr (wr.alloc (.cells #[.int .i64 r.off, .int .i64 r.type, .int .i64 r.sym, .int .i64 r.add] 89)) := (Below.refl _ wr).alloc (Nat.le_refl _) _
        have hha := heap_new wr (.cells #[.int .i64 r.off, .int .i64 r.type, .int .i64 r.sym, .int .i64 r.add] 89)
        have HS2 := Lib.hid (HS1.out.later hba)
        have hb2 : Below W1.heap.size W1 (wr.alloc (.cells #[.int .i64 r.off, .int .i64 r.type, .int .i64 r.sym, .int .i64 r.add] 89)) := hb.trans (hba.mono hb.size)
        have HSTEP := Lib.hid hstep
        have HOFF := Lib.hid hoff
        have hJ : (k : Int) < (rl : Int) := by omega
        have k2 : (0 : Int) ≤ (k : Int) := by omega
        have kdw : IntKind.i64.wrap ((dl : Int) - widthI r.type) = (dl : Int) - widthI r.type := IntWalk.i64_in _ (by omega)
        generalize inR r.sym 0 ((yl : Int) - 1) = q1 at *
        generalize inR r.off en' ((dl : Int) - widthI r.type) = q2 at *
        generalize widthI r.type = wd at *
        clear hrk x0 x1 x2 x3 hdr hstep hoff HS1
        go_upto_region 7 with fail
        generalize wr.alloc (.cells #[.int .i64 r.off, .int .i64 r.type, .int .i64 r.sym, .int .i64 r.add] 89) = ws at *
        have g0 : ws.cell? ⟨wr.heap.size, 0, none⟩ = some (.int .i64 r.off) := (cell_of_row ws wr.heap.size 0 _ _ (0, 0) hha).trans rfl
        have g1 : ws.cell? ⟨wr.heap.size, 1, none⟩ = some (.int .i64 r.type) := (cell_of_row ws wr.heap.size 1 _ _ (0, 0) hha).trans rfl
        have g2 : ws.cell? ⟨wr.heap.size, 2, none⟩ = some (.int .i64 r.sym) := (cell_of_row ws wr.heap.size 2 _ _ (0, 0) hha).trans rfl
        obtain ⟨_, _, _, _, _, _, _, t7, t8⟩ := HS2.out
        clear d0 d1 d2 d3 hha hba hb
        go_wp2_with fail
        refine (HZ.out _).mono ?_
        rintro e w' ⟨rfl, rfl⟩
        have hfin : Below w.heap.size w ws := HB1.out.trans (hb2.mono hbs)
        cases tz : (wd == 0) with
        | true =>
          have hE2 : Hid (res = false) := Lib.hid (by
            have h : (wd != 0) = false := by unfold bne; rw [tz]; rfl
            rw [HSTEP.out, h]; rfl)
          go_wp2_with fail
          go_ret
          rw [hE2.out]
          exact ⟨rfl, hfin⟩
        | false =>
          have hE2 : Hid (res = (q1 && (q2 && relsGoO yl dl (r.off + wd) (rs.drop (k + 1))))) := Lib.hid (by
            have h : (wd != 0) = true := by unfold bne; rw [tz]; rfl
            rw [HSTEP.out, h]; rfl)
          clear HSTEP
          go_wp2_with fail
          refine (HW1.out _).mono ?_
          rintro e w' ⟨rfl, rfl⟩
          cases q1 with
          | false =>
            have hE3 : Hid (res = false) := Lib.hid (by rw [hE2.out]; rfl)
            go_wp2_with fail
            go_ret
            rw [hE3.out]
            exact ⟨rfl, hfin⟩
          | true =>
            go_wp2_with fail
            refine (HW2.out _).mono ?_
            rintro e w' ⟨rfl, rfl⟩
            cases q2 with
            | false =>
              have hE3 : Hid (res = false) := Lib.hid (by rw [hE2.out]; rfl)
              go_wp2_with fail
              go_ret
              rw [hE3.out]
              exact ⟨rfl, hfin⟩
            | true =>
              have hE3 : Hid (res = relsGoO yl dl (r.off + wd) (rs.drop (k + 1))) := Lib.hid (by rw [hE2.out]; rfl)
              have hle := HOFF.out (by trivial)
              have kow : IntKind.i64.wrap (r.off + wd) = r.off + wd := IntWalk.i64_in _ (by omega)
              have hE4 : Hid (relsGoO yl dl 0 rs = relsGoO yl dl (r.off + wd) (rs.drop (k + 1))) := Lib.hid (by rw [← hE.out]; exact hE3.out)
              go_wp2_with fail
              go_roundw
              case rel => exact ⟨k + 1, r.off + wd, hlt, by go_num, rfl, hE4.out, hb2⟩
              case measure => simp [intOf]; omega
      · obtain rfl : k = rl := by omega
        have hJ : ¬ (k : Int) < (k : Int) := by omega
        have hE2 : Hid (res = true) := Lib.hid (by rw [hE.out, HGO.out, List.drop_eq_nil_of_le (by rw [HRN.out]; exact Nat.le_refl _)]; rfl)
        go_wp2_with fail
        go_ret
        rw [hE2.out]
        exact ⟨rfl, HB1.out.trans (hb.mono hbs)⟩
end Go.Proofs.YtmcegjkkgbnjlaaGreat
