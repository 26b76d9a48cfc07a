/-
  Contracts of the reference's file of an object's bytes: Told, Is, Number.
-/
import Derived.Test.YtenmcmnhiejbgaaGreatJg05
import Derived.Test.YtenmcmnhiejbgaaGreatJg21
namespace Go.Proofs.YtenmcmnhiejbgaaGreat
open Go.RowKit

/-- A file that the reference reads: its bytes, its headers. -/
structure RFile (w : World) (F : Nat) (bp : Option Addr) (bc : Nat) (l : List UInt8) (hp : Option Addr) (hc : Nat) (L : List Ten) : Prop where
  c0 : w.cell? ⟨F, 0, none⟩ = some (.slice bp l.length bc)
  c1 : w.cell? ⟨F, 1, none⟩ = some (.slice hp L.length hc)
  b : Has w bp l
  h : HasL 10 ETen w hp L
  bl : l.length ≤ bc
  bm : bc ≤ maxLen
  bn : bp = none → bc = 0
  hl : L.length ≤ 100000
  big : l.length ≤ 16384
  ok : HeadsOK l.length L
theorem RFile.below {w w' : World} {F : Nat} {bp : Option Addr} {bc : Nat} {l : List UInt8} {hp : Option Addr} {hc : Nat} {L : List Ten} (h : RFile w F bp bc l hp hc L) (hb : Below w.heap.size w w') : RFile w' F bp bc l hp hc L :=
  ⟨cell_later hb h.c0, cell_later hb h.c1, h.b.below hb, h.h.below ETen.keeps hb, h.bl, h.bm, h.bn, h.hl, h.big, h.ok⟩
theorem heads_zero {n : Nat} {L : List Ten} (h : HeadsOK n L) {t : Ten} (ht : L[0]? = some t) : t.b = 0 := by
  have h1 := (h 0 t ht).2
  unfold headMay at h1
  have h2 : zeroT t = true := h1
  unfold zeroT at h2
  simp only [Bool.and_eq_true, beq_iff_eq] at h2
  exact h2.2.1
/-- What header i tells, as the reference reads it. -/
def toldB (l : List UInt8) (L : List Ten) (i : Nat) : List UInt8 := match L[i]? with
  | none => []
  | some t => bif t.b == 8 || i == 0 then [] else win l t.e.toNat t.f.toNat

def toldP (bp : Option Addr) (bc : Nat) (L : List Ten) (i : Nat) : Option Addr := match L[i]? with
  | none => none
  | some t => bif t.b == 8 || i == 0 then none else tolP bp bc t.e.toNat
def toldC (bc : Nat) (L : List Ten) (i : Nat) : Nat := match L[i]? with
  | none => 0
  | some t => bif t.b == 8 || i == 0 then 0 else bc - t.e.toNat
/-- What Told gives is those bytes. -/
theorem told_has {w : World} {F : Nat} {bp : Option Addr} {bc : Nat} {l : List UInt8} {hp : Option Addr} {hc : Nat} {L : List Ten} (hf : RFile w F bp bc l hp hc L) (i : Nat) :
    Has w (toldP bp bc L i) (toldB l L i) ∧ (toldB l L i).length ≤ toldC bc L i ∧ toldC bc L i ≤ maxLen ∧ (toldP bp bc L i = none → toldC bc L i = 0) ∧ (toldB l L i).length ≤ l.length := by
  unfold toldP toldB toldC
  cases ht : L[i]? with
  | none => exact ⟨Has.none_ _ _, Nat.le_refl _, Nat.zero_le _, (fun _ => rfl), Nat.zero_le _⟩
  | some t =>
    simp only
    cases hq : (t.b == 8 || i == 0) with
    | true => exact ⟨Has.none_ _ _, Nat.le_refl _, Nat.zero_le _, (fun _ => rfl), Nat.zero_le _⟩
    | false =>
      simp only [cond_false]
      rw [Bool.or_eq_false_iff] at hq
      have hm := (hf.ok i t ht).1
      have he := (fitsB_iff _).1 (hm t.e (by simp [Ten.l]))
      have hff := (fitsB_iff _).1 (hm t.f (by simp [Ten.l]))
      have hin := heads_in hf.ok ht (by simpa using hq.1)
      have h1 := hf.bl
      have h2 := hf.bm
      have hw := win_length l t.e.toNat t.f.toNat (by omega)
      exact ⟨tol_has hf.b hf.bl (by omega), by rw [hw]; omega, by omega, tol_none hf.bn, by rw [hw]; omega⟩

set_option maxRecDepth 100000 in
set_option maxHeartbeats 2000000 in
theorem rTold_any (F i : Nat) (bp : Option Addr) (bc : Nat) (l : List UInt8) (hp : Option Addr) (hc : Nat) (L : List Ten) (w : World) (hf : RFile w F bp bc l hp hc L) (hi : i < L.length) :
    Calls Tryz.prog 31 #[filP F, .int .i64 (i : Int)] w fun e w' => e = .returned (.slice (toldP bp bc L i) (toldB l L i).length (toldC bc L i)) ∧ Below w.heap.size w w' := by
  obtain ⟨b, off, t, hpe, ht, e0, e1, e2, e3, e4, e5, e6, e7, e8, e9⟩ := hf.h.at_ (i := i) hi
  subst hpe
  have hr : toldB l L i = bif t.b == 8 || i == 0 then [] else win l t.e.toNat t.f.toNat := by unfold toldB; rw [ht]
  have hrp : toldP bp bc L i = bif t.b == 8 || i == 0 then none else tolP bp bc t.e.toNat := by unfold toldP; rw [ht]
  have hrc : toldC bc L i = bif t.b == 8 || i == 0 then 0 else bc - t.e.toNat := by unfold toldC; rw [ht]
  have hm := (hf.ok i t ht).1
  have he := (fitsB_iff _).1 (hm t.e (by simp [Ten.l]))
  have hff := (fitsB_iff _).1 (hm t.f (by simp [Ten.l]))
  have c0 := hf.c0
  have c1 := hf.c1
  have hbl := hf.bl
  have hbm := hf.bm
  have hbig := hf.big
  have HIN := Lib.hid fun h8 => heads_in hf.ok ht h8
  have hI : (i : Int) < (L.length : Int) := by omega
  have hI0 : (0 : Int) ≤ (i : Int) := by omega
  obtain ⟨e, hee⟩ := Int.eq_ofNat_of_zero_le he.1
  obtain ⟨f, hfe⟩ := Int.eq_ofNat_of_zero_le hff.1
  rw [hee] at hr hrp hrc e4
  rw [hfe] at hr e5
  rw [hee, hfe] at HIN
  rw [Int.toNat_natCast] at hrp hrc
  rw [Int.toNat_natCast, Int.toNat_natCast] at hr
  generalize toldB l L i = res at *
  generalize toldP bp bc L i = rp at *
  generalize toldC bc L i = rc at *
  have HR := Lib.hid hr
  have HRP := Lib.hid hrp
  have HRC := Lib.hid hrc
  generalize hln : l.length = ln at *
  have HLN := Lib.hid hln
  generalize L.length = hn at *
  generalize t.b = ty at *
  unfold maxLen at hbm
  clear hr hrp hrc hm ht e0 e2 e3 e6 e7 e8 e9 hi hln he hff hee hfe hf
  go_enter Tryz.func31, Tryz.ntmps31
  by_cases h8 : ty = 8
  · subst h8
    have hE : Hid (res = [] ∧ rp = none ∧ rc = 0) := Lib.hid ⟨by rw [HR.out]; rfl, by rw [HRP.out]; rfl, by rw [HRC.out]; rfl⟩
    go_wp2_with fail
    go_ret
    rw [hE.out.1, hE.out.2.1, hE.out.2.2]
    exact ⟨rfl, Below.refl _ _⟩
  · have h8b : (ty == 8) = false := by simpa using h8
    by_cases h0 : i = 0
    · subst h0
      have hE : Hid (res = [] ∧ rp = none ∧ rc = 0) := Lib.hid ⟨by rw [HR.out]; simp, by rw [HRP.out]; simp, by rw [HRC.out]; simp⟩
      simp only [Nat.zero_mul, Nat.add_zero] at e1
      go_wp2_with fail
      go_ret
      rw [hE.out.1, hE.out.2.1, hE.out.2.2]
      exact ⟨rfl, Below.refl _ _⟩
    · have h0b : ((i : Int) == 0) = false := by simp; omega
      have hin := HIN.out h8
      have hef : e + f ≤ ln := by omega
      have hE : Hid (res.length = f ∧ rp = tolP bp bc e ∧ rc = bc - e) := Lib.hid ⟨by rw [HR.out, h8b, show (i == 0) = false by simpa using h0]; exact win_length l e f (by rw [HLN.out]; exact hef), by rw [HRP.out, h8b, show (i == 0) = false by simpa using h0]; rfl, by rw [HRC.out, h8b, show (i == 0) = false by simpa using h0]; rfl⟩
      have k1 : IntKind.i64.wrap ((e : Int) + (f : Int)) = ((e + f : Nat) : Int) := by rw [show (e : Int) + (f : Int) = ((e + f : Nat) : Int) by omega]; exact IntWalk.i64_in _ (by omega)
      have hI1 : (e : Int) ≤ ((e + f : Nat) : Int) := by omega
      have hI2 : ((e + f : Nat) : Int) ≤ (bc : Int) := by omega
      clear HR HRP HRC HIN hin h0 h8
      go_upto_region 3 with fail
      by_cases hbe : bc = e
      · have hP : Hid (tolP bp bc e = bp) := Lib.hid (if_pos hbe)
        subst hbe
        obtain rfl : f = 0 := by omega
        go_quiet (fail)
        go_wp2_with fail
        go_ret
        rw [hE.out.1, hE.out.2.1, hE.out.2.2, hP.out]
        exact ⟨by rw [Nat.sub_self]; rfl, below_drewN (Below.refl _ w) _⟩
      · have hP : Hid (tolP bp bc e = bp.map (·.add e)) := Lib.hid (if_neg hbe)
        go_quiet (fail)
        go_wp2_with fail
        go_ret
        rw [hE.out.1, hE.out.2.1, hE.out.2.2, hP.out]
        exact ⟨(by show Ending.returned (.slice _ (e + f - e) _) = _; rw [Nat.add_sub_cancel_left]), below_drewN (Below.refl _ w) _⟩

set_option maxRecDepth 100000 in
set_option maxHeartbeats 2000000 in
theorem rIs_any (F n : Nat) (k : Int) (bp : Option Addr) (bc : Nat) (l : List UInt8) (hp : Option Addr) (hc : Nat) (L : List Ten) (w : World) (hf : RFile w F bp bc l hp hc L) (hk : k ≠ 0) :
    Calls Tryz.prog 57 #[filP F, .int .i64 (n : Int), .int .i64 k] w fun e w' => e = .returned (.bool (isTy L n k)) ∧ w = w' := by
  have c1 := hf.c1
  by_cases h0 : n = 0
  · subst h0
    have hE : Hid (isTy L 0 k = false) := Lib.hid (by
      unfold isTy
      cases ht : L[0]? with
      | none => rfl
      | some t =>
        show (t.b == k) = false
        rw [heads_zero hf.ok ht]
        simpa using fun h : (0 : Int) = k => hk h.symm)
    clear hf
    go_enter Tryz.func57, Tryz.ntmps57
    go_wp2_with fail
    go_ret
    rw [hE.out]
    exact ⟨rfl, rfl⟩
  · have h1 : decide ((1 : Int) ≤ (n : Int)) = true := decide_eq_true (by omega)
    by_cases hlt : n < L.length
    · obtain ⟨b, off, t, hpe, ht, d0, d1, _⟩ := hf.h.at_ (i := n) hlt
      subst hpe
      have hE : Hid (isTy L n k = (t.b == k)) := Lib.hid (by unfold isTy; rw [ht])
      have hI : decide ((n : Int) < (L.length : Int)) = true := decide_eq_true (by omega)
      have hI1 : (n : Int) < (L.length : Int) := by omega
      have hI0 : (0 : Int) ≤ (n : Int) := by omega
      generalize L.length = ln at *
      clear hf ht hlt
      go_enter Tryz.func57, Tryz.ntmps57
      go_wp2_with fail
      go_ret
      rw [hE.out]
      exact ⟨rfl, rfl⟩
    · have hE : Hid (isTy L n k = false) := Lib.hid (by unfold isTy; rw [List.getElem?_eq_none (by omega)])
      have hI : decide ((n : Int) < (L.length : Int)) = false := decide_eq_false (by omega)
      have hI' : ¬ (n : Int) < (L.length : Int) := by omega
      have hI2 : (L.length : Int) ≤ (n : Int) := by omega
      generalize L.length = ln at *
      clear hf hlt
      go_enter Tryz.func57, Tryz.ntmps57
      go_wp2_with fail
      go_ret
      rw [hE.out]
      exact ⟨rfl, rfl⟩

theorem numGo_at {L : List Ten} {n : Nat} {t : Ten} (h : L[n]? = some t) : (numGo 0 L)[n]?.getD 0 = bif isSecT t then ((cntS (L.take n) + 1 : Nat) : Int) else 0 := by
  rw [numGo_get L 0 n t h]
  simp
theorem numGo_out {L : List Ten} {n : Nat} (h : L.length ≤ n) : (numGo 0 L)[n]?.getD 0 = 0 := by
  rw [List.getElem?_eq_none (by rw [numGo_length]; exact h)]
  rfl
set_option maxRecDepth 100000 in
set_option maxHeartbeats 4000000 in
theorem rNumber_any (F n : Nat) (bp : Option Addr) (bc : Nat) (l : List UInt8) (hp : Option Addr) (hc : Nat) (L : List Ten) (w : World) (hf : RFile w F bp bc l hp hc L) :
    Calls Tryz.prog 28 #[filP F, .int .i64 (n : Int)] w fun e w' => e = .returned (.int .i64 ((numGo 0 L)[n]?.getD 0)) ∧ w = w' := by
  have c1 := hf.c1
  have hl := hf.hl
  obtain ⟨res, hres⟩ : ∃ res, res = (numGo 0 L)[n]?.getD 0 := ⟨_, rfl⟩
  rw [← hres]
  by_cases h0 : n = 0
  · subst h0
    have hE : Hid (res = 0) := Lib.hid (by
      rw [hres]
      cases ht : L[0]? with
      | none => rw [numGo_out (by simpa using ht)]
      | some t =>
        rw [numGo_at ht]
        unfold isSecT
        rw [heads_zero hf.ok ht]
        rfl)
    clear hf hres
    go_enter Tryz.func28, Tryz.ntmps28
    go_wp2_with fail
    go_ret
    rw [hE.out]
    exact ⟨rfl, rfl⟩
  · have h1 : decide ((n : Int) < 1) = false := decide_eq_false (by omega)
    by_cases hlt : n < L.length
    · obtain ⟨b, off, t, hpe, ht, d0, d1, _⟩ := hf.h.at_ (i := n) hlt
      subst hpe
      have hI : decide ((L.length : Int) ≤ (n : Int)) = false := decide_eq_false (by omega)
      have hI1 : (n : Int) < (L.length : Int) := by omega
      have hI0 : (0 : Int) ≤ (n : Int) := by omega
      cases hs : isSecT t with
      | false =>
        have hE : Hid (res = 0) := Lib.hid (by rw [hres, numGo_at ht, hs]; rfl)
        unfold isSecT at hs
        simp only [Bool.or_eq_false_iff] at hs
        obtain ⟨hs1, hs8⟩ := hs
        have hs1' : (t.b != 1) = true := by unfold bne; rw [hs1]; rfl
        have hs8' : (t.b != 8) = true := by unfold bne; rw [hs8]; rfl
        generalize L.length = ln at *
        clear hf ht hlt hres hs1 hs8
        go_enter Tryz.func28, Tryz.ntmps28
        go_wp2_with fail
        go_ret
        rw [hE.out]
        exact ⟨rfl, rfl⟩
      | true =>
        have hE : Hid (res = ((cntS (L.take (n + 1)) : Nat) : Int)) := Lib.hid (by rw [hres, numGo_at ht, hs, take_snoc ht, cntS_snoc, hs]; rfl)
        have HH := Lib.hid hf.h
        have h00 : cntS (L.take 1) = 0 := by
          obtain ⟨t0, ht0⟩ : ∃ t0, L[0]? = some t0 := ⟨_, List.getElem?_eq_getElem (by omega)⟩
          rw [take_snoc ht0, cntS_snoc]
          have : isSecT t0 = false := by unfold isSecT; rw [heads_zero hf.ok ht0]; rfl
          rw [this]
          rfl
        have H00 := Lib.hid h00
        have hq : (t.b = 1 ∨ t.b = 8) := by
          unfold isSecT at hs
          simpa using hs
        have HLL := Lib.hid (show L.length = L.length from rfl)
        clear hf hres h00 hs
        generalize hln : L.length = ln at *
        have HLN := Lib.hid hln
        clear hln HLL
        go_enter Tryz.func28, Tryz.ntmps28
        go_upto_region 1 with fail
        go_cut [39] (fun s39 wx => s39 = .bool false ∧ w = wx)
        case first =>
          generalize t.b = ty at *
          rcases hq with rfl | rfl
          · go_wp2_with fail
            go_meet
            exact ⟨by rw [decide_eq_false (show ¬ ln ≤ n by omega)], rfl⟩
          · go_wp2_with fail
            go_meet
            exact ⟨by rw [decide_eq_false (show ¬ ln ≤ n by omega)], rfl⟩
        case rest =>
          obtain ⟨rfl, rfl⟩ := hcut
          go_wp2_with fail
          go_loopw [5, 6] (fun r5 r6 wr => ∃ k : Nat, 1 ≤ k ∧ k ≤ n + 1 ∧ r6 = .int .i64 (k : Int) ∧ r5 = .int .i64 ((cntS (L.take k) : Nat) : Int) ∧ w = wr) (fun _ r6 _ => (n + 1) - (intOf r6).toNat)
          case atStart => exact ⟨1, Nat.le_refl _, by omega, rfl, by rw [H00.out]; rfl, rfl⟩
          case round =>
            obtain ⟨k, hk1, hk2, rfl, rfl, rfl⟩ := hrel
            by_cases hle : k ≤ n
            · obtain ⟨b', off', u, hpe, hu, _, u1, _⟩ := HH.out.at_ (i := k) (by rw [HLN.out]; omega)
              cases hpe
              have hst : cntS (L.take (k + 1)) = cntS (L.take k) + (bif isSecT u then 1 else 0) := by rw [take_snoc hu, cntS_snoc]
              have hcl : cntS (L.take k) ≤ k := Nat.le_trans (cntS_le _) (by rw [List.length_take]; omega)
              have HST := Lib.hid hst
              have hJ : (k : Int) ≤ (n : Int) := by omega
              have hJ1 : (k : Int) < (ln : Int) := by omega
              have hJ0 : (0 : Int) ≤ (k : Int) := by omega
              generalize hcc : cntS (L.take k) = cc at *
              clear hst hu hcc
              cases hs1 : (u.b == 1) with
              | true =>
                have hE2 : Hid (cntS (L.take (k + 1)) = cc + 1) := Lib.hid (by rw [HST.out]; unfold isSecT; rw [hs1]; rfl)
                clear HST
                go_wp2_with fail
                go_roundw
                case rel => exact ⟨k + 1, by omega, by omega, by go_num, by rw [hE2.out]; go_num, by trivial⟩
                case measure => simp [intOf]; omega
              | false =>
                cases hs8 : (u.b == 8) with
                | true =>
                  have hE2 : Hid (cntS (L.take (k + 1)) = cc + 1) := Lib.hid (by rw [HST.out]; unfold isSecT; rw [hs1, hs8]; rfl)
                  clear HST
                  go_wp2_with fail
                  go_roundw
                  case rel => exact ⟨k + 1, by omega, by omega, by go_num, by rw [hE2.out]; go_num, by trivial⟩
                  case measure => simp [intOf]; omega
                | false =>
                  have hE2 : Hid (cntS (L.take (k + 1)) = cc) := Lib.hid (by rw [HST.out]; unfold isSecT; rw [hs1, hs8]; rfl)
                  clear HST
                  go_wp2_with fail
                  go_roundw
                  case rel => exact ⟨k + 1, by omega, by omega, by go_num, by rw [hE2.out], by trivial⟩
                  case measure => simp [intOf]; omega
            · obtain rfl : k = n + 1 := by omega
              have hJ : ¬ ((n + 1 : Nat) : Int) ≤ (n : Int) := by omega
              have hJ' : ¬ ((n : Int) + 1) ≤ (n : Int) := by omega
              go_wp2_with fail
              go_ret
              rw [hE.out]
              exact ⟨rfl, rfl⟩
    · have hE : Hid (res = 0) := Lib.hid (by rw [hres]; exact numGo_out (by omega))
      have hI : decide ((L.length : Int) ≤ (n : Int)) = true := decide_eq_true (by omega)
      have hI2 : (L.length : Int) ≤ (n : Int) := by omega
      generalize L.length = ln at *
      clear hf hlt hres
      go_enter Tryz.func28, Tryz.ntmps28
      go_wp2_with fail
      go_ret
      rw [hE.out]
      exact ⟨rfl, rfl⟩
end Go.Proofs.YtenmcmnhiejbgaaGreat
