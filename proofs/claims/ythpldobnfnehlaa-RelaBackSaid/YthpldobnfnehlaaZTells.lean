/-
  The walk of RelaTells: rela and its reference tell the same.
-/
import Derived.Test.YthpldobnfnehlaaZUp
import Derived.Deep.RegionHeld
import Derived.Deep.DeepCutAuto
import Derived.Deep.QuietTactic
import Derived.BigQuiet
namespace Go.Proofs.Ythpldobnfnehlaa
open Go.RowKit

/-- What Put tells. -/
def zputB (t : Fou) : List UInt8 := if t.may then relB t else []
theorem zPut_str (hput : ZPutOK) (t : Fou) (hd : t.bd) (w : World) : Calls Try.prog 33 #[t.v] w (Str (zputB t).length (zputB t) w) := by
  by_cases h : t.may
  · have e : zputB t = relB t := by simp only [zputB, if_pos h]
    rw [e]
    exact ((hput t w hd).1 h).mono fun _ _ x => x.toH.toStr
  · have e : zputB t = [] := by simp only [zputB, if_neg h]
    rw [e]
    exact ((hput t w hd).2 h).mono fun _ _ x => x.toStr
theorem relBytes_str (t : Fou) (hd : t.bd) (w : World) : Calls Try.prog 34 #[t.v] w (Str (zputB t).length (zputB t) w) := by
  by_cases h : t.may
  · have e : zputB t = relB t := by simp only [zputB, if_pos h]
    rw [e]
    exact (relBytes_yes t w h hd).mono fun _ _ x => x.toH.toStr
  · have e : zputB t = [] := by simp only [zputB, if_neg h]
    rw [e]
    exact (relBytes_no t w h).mono fun _ _ x => x.toStr
theorem cell_alloc {w : World} {a : Addr} {v : Value} (o : Obj) (h : w.cell? a = some v) : (w.alloc o).cell? a = some v := cell_later ((Below.refl _ w).alloc (Nat.le_refl _) o) h
theorem relV_form (o : Option Fou) : ∃ (u : Fou) (ok : Bool), relV o = (u.v, ok) := by
  cases o with
  | none => exact ⟨fou0, false, rfl⟩
  | some t => exact ⟨t, true, rfl⟩

set_option maxRecDepth 100000 in
set_option maxHeartbeats 4000000 in
theorem ztells_walk (hwid : ZWidthOK) (hget : ZGetOK) (hput : ZPutOK) (p : Option Addr) (len cap : Nat) (l : List UInt8) (at_ : Int) (t : Fou) (hd : t.bd) (w : World) (h : Has w p l) (hlen : l.length = len) (hcap : len ≤ cap) (hm : cap ≤ maxLen) (ha0 : -9223372036854775808 ≤ at_) (ha1 : at_ ≤ 9223372036854775807) :
    Calls Try.prog 9 #[.slice p len cap, .int .i64 at_, t.v] w fun e w' => e = .returned (.bool true) ∧ Below w.heap.size w w' := by
  have HUP := Lib.hid fun W => zup_any hwid hput W
  have hb0 : Below w.heap.size w (w.alloc (.cells #[.int .i64 t.a, .int .i64 t.b, .int .i64 t.c, .int .i64 t.d] 57)) := (Below.refl _ w).alloc (Nat.le_refl _) _
  by_cases hbig : 10000 < len
  · have hI : (10000 : Int) < (len : Int) := by omega
    clear h hlen hget hput hwid
    go_enter Try.func9, Try.ntmps9
    go_wp2_with fail
    refine (HUP.out _).mono ?_
    rintro e w1 ⟨rfl, hb1⟩
    have hb2 : Below w.heap.size w w1 := hb0.trans (hb1.mono (by simp))
    go_wp2_with fail
    go_ret
    exact ⟨rfl, hb2⟩
  have hI : ¬ (10000 : Int) < (len : Int) := by omega
  obtain ⟨u, ok, hu⟩ := relV_form (relAt l at_)
  have HG := Lib.hid fun W (hb : Below w.heap.size w W) => hget p len cap l at_ W (h.below hb) hlen hcap hm (by omega) ha0 ha1
  have HR := Lib.hid fun W (hb : Below w.heap.size w W) => rel_any p len cap l at_ W (h.below hb) hlen hcap (by omega) ha1
  rw [hu] at HG HR
  simp only at HG HR
  have HP := Lib.hid fun W => zPut_str hput t hd W
  have HRP := Lib.hid fun W => relBytes_str t hd W
  have HW1 : Hid (∀ W, Calls Try.prog 31 #[.int .i64 t.b] W fun e w' => e = .returned (.int .i64 (widthI t.b)) ∧ w' = W) := Lib.hid fun W => (hwid t.b W).mono fun _ _ x => ⟨x.1, x.2.symm⟩
  have HW2 : Hid (∀ W, Calls Try.prog 32 #[.int .i64 t.b] W fun e w' => e = .returned (.int .i64 (widthI t.b)) ∧ w' = W) := Lib.hid fun W => (width_any t.b W).mono fun _ _ x => ⟨x.1, x.2.symm⟩
  generalize zputB t = put at HP HRP
  generalize widthI t.b = wd at HW1 HW2
  have hok : (ok == ok) = true := by simp
  have hwq : (wd == wd) = true := by simp
  clear h hlen hu hbig hget hput hwid hd
  go_enter Try.func9, Try.ntmps9
  go_wp2_with fail
  refine (HUP.out _).mono ?_
  rintro e w1 ⟨rfl, hb1⟩
  have a0 : w1.cell? ⟨w.heap.size, 0, none⟩ = some (.int .i64 t.a) := by rw [hb1.cell (by simp)]; simp
  have a1 : w1.cell? ⟨w.heap.size, 1, none⟩ = some (.int .i64 t.b) := by rw [hb1.cell (by simp)]; simp
  have a2 : w1.cell? ⟨w.heap.size, 2, none⟩ = some (.int .i64 t.c) := by rw [hb1.cell (by simp)]; simp
  have a3 : w1.cell? ⟨w.heap.size, 3, none⟩ = some (.int .i64 t.d) := by rw [hb1.cell (by simp)]; simp
  have hb2 : Below w.heap.size w w1 := hb0.trans (hb1.mono (by simp))
  obtain ⟨gb, hgb⟩ : ∃ gb, gb = w.heap.size := ⟨_, rfl⟩
  rw [← hgb] at a0 a1 a2 a3 ⊢
  clear hb1 hb0 hgb
  go_wp2_with fail
  refine (HG.out _ hb2).mono ?_
  rintro e w2 ⟨rfl, hbb2⟩
  have hb3 : Below w.heap.size w w2 := hb2.trans (hbb2.mono hb2.size)
  have b0 := cell_later hbb2 a0
  have b1 := cell_later hbb2 a1
  have b2 := cell_later hbb2 a2
  have b3 := cell_later hbb2 a3
  clear hbb2 hb2 a0 a1 a2 a3
  go_wp2_with fail
  have hb4 := hb3.alloc hb3.size (.cells #[.int .i64 u.a, .int .i64 u.b, .int .i64 u.c, .int .i64 u.d] 57)
  refine (HR.out _ hb4).mono ?_
  rintro e w3 ⟨rfl, hbb3⟩
  have hb5 : Below w.heap.size w w3 := hb4.trans (hbb3.mono hb4.size)
  have c0 : w3.cell? ⟨gb, 0, none⟩ = some (.int .i64 t.a) := cell_later hbb3 (cell_alloc _ b0)
  have c1 : w3.cell? ⟨gb, 1, none⟩ = some (.int .i64 t.b) := cell_later hbb3 (cell_alloc _ b1)
  have c2 : w3.cell? ⟨gb, 2, none⟩ = some (.int .i64 t.c) := cell_later hbb3 (cell_alloc _ b2)
  have c3 : w3.cell? ⟨gb, 3, none⟩ = some (.int .i64 t.d) := cell_later hbb3 (cell_alloc _ b3)
  have d0 : w3.cell? ⟨w2.heap.size, 0, none⟩ = some (.int .i64 u.a) := by rw [hbb3.cell (by simp)]; simp
  have d1 : w3.cell? ⟨w2.heap.size, 1, none⟩ = some (.int .i64 u.b) := by rw [hbb3.cell (by simp)]; simp
  have d2 : w3.cell? ⟨w2.heap.size, 2, none⟩ = some (.int .i64 u.c) := by rw [hbb3.cell (by simp)]; simp
  have d3 : w3.cell? ⟨w2.heap.size, 3, none⟩ = some (.int .i64 u.d) := by rw [hbb3.cell (by simp)]; simp
  obtain ⟨g1, hg1⟩ : ∃ g1, g1 = w2.heap.size := ⟨_, rfl⟩
  rw [← hg1] at d0 d1 d2 d3 ⊢
  clear hbb3 hb4 hb3 hg1 b0 b1 b2 b3
  go_upto_region 6 with fail
  have s0 := cell_alloc (.cells #[.int .i64 u.a, .int .i64 u.b, .int .i64 u.c, .int .i64 u.d] 57) c0
  have s1 := cell_alloc (.cells #[.int .i64 u.a, .int .i64 u.b, .int .i64 u.c, .int .i64 u.d] 57) c1
  have s2 := cell_alloc (.cells #[.int .i64 u.a, .int .i64 u.b, .int .i64 u.c, .int .i64 u.d] 57) c2
  have s3 := cell_alloc (.cells #[.int .i64 u.a, .int .i64 u.b, .int .i64 u.c, .int .i64 u.d] 57) c3
  have s10 := cell_alloc (.cells #[.int .i64 u.a, .int .i64 u.b, .int .i64 u.c, .int .i64 u.d] 57) d0
  have s11 := cell_alloc (.cells #[.int .i64 u.a, .int .i64 u.b, .int .i64 u.c, .int .i64 u.d] 57) d1
  have s12 := cell_alloc (.cells #[.int .i64 u.a, .int .i64 u.b, .int .i64 u.c, .int .i64 u.d] 57) d2
  have s13 := cell_alloc (.cells #[.int .i64 u.a, .int .i64 u.b, .int .i64 u.c, .int .i64 u.d] 57) d3
  have s20 : (w3.alloc (.cells #[.int .i64 u.a, .int .i64 u.b, .int .i64 u.c, .int .i64 u.d] 57)).cell? ⟨w3.heap.size, 0, none⟩ = some (.int .i64 u.a) := by simp
  have s21 : (w3.alloc (.cells #[.int .i64 u.a, .int .i64 u.b, .int .i64 u.c, .int .i64 u.d] 57)).cell? ⟨w3.heap.size, 1, none⟩ = some (.int .i64 u.b) := by simp
  have s22 : (w3.alloc (.cells #[.int .i64 u.a, .int .i64 u.b, .int .i64 u.c, .int .i64 u.d] 57)).cell? ⟨w3.heap.size, 2, none⟩ = some (.int .i64 u.c) := by simp
  have s23 : (w3.alloc (.cells #[.int .i64 u.a, .int .i64 u.b, .int .i64 u.c, .int .i64 u.d] 57)).cell? ⟨w3.heap.size, 3, none⟩ = some (.int .i64 u.d) := by simp
  have hb6 := hb5.alloc hb5.size (.cells #[.int .i64 u.a, .int .i64 u.b, .int .i64 u.c, .int .i64 u.d] 57)
  generalize w3.alloc (.cells #[.int .i64 u.a, .int .i64 u.b, .int .i64 u.c, .int .i64 u.d] 57) = W0 at *
  obtain ⟨g2, hg2⟩ : ∃ g2, g2 = w3.heap.size := ⟨_, rfl⟩
  rw [← hg2] at s20 s21 s22 s23 ⊢
  clear hg2 hb5 c0 c1 c2 c3 d0 d1 d2 d3
  go_cut [12] (fun s12 wx => s12 = .bool true ∧ Below w.heap.size w wx ∧ wx.cell? ⟨gb, 0, none⟩ = some (.int .i64 t.a) ∧ wx.cell? ⟨gb, 1, none⟩ = some (.int .i64 t.b) ∧ wx.cell? ⟨gb, 2, none⟩ = some (.int .i64 t.c) ∧ wx.cell? ⟨gb, 3, none⟩ = some (.int .i64 t.d) ∧ wx.cell? ⟨g1, 0, none⟩ = some (.int .i64 u.a) ∧ wx.cell? ⟨g1, 1, none⟩ = some (.int .i64 u.b) ∧ wx.cell? ⟨g1, 2, none⟩ = some (.int .i64 u.c) ∧ wx.cell? ⟨g1, 3, none⟩ = some (.int .i64 u.d) ∧ wx.cell? ⟨g2, 0, none⟩ = some (.int .i64 u.a) ∧ wx.cell? ⟨g2, 1, none⟩ = some (.int .i64 u.b) ∧ wx.cell? ⟨g2, 2, none⟩ = some (.int .i64 u.c) ∧ wx.cell? ⟨g2, 3, none⟩ = some (.int .i64 u.d))
  case first =>
    go_quiet (first
      | (go_at_call 31; refine Calls.quiet_of_same (HW1.out _))
      | (go_at_call 32; refine Calls.quiet_of_same (HW2.out _))
      | fail)
    go_wp2_with fail
    go_meet
    exact ⟨rfl, below_drewN hb6 _, s0, s1, s2, s3, s10, s11, s12, s13, s20, s21, s22, s23⟩
  case rest =>
    obtain ⟨rfl, hbc, c0, c1, c2, c3, c10, c11, c12, c13, c20, c21, c22, c23⟩ := hcut
    clear HW1 HW2 hb6 hwq
    clear s0 s1 s2 s3 s10 s11 s12 s13 s20 s21 s22 s23
    go_upto_region 7 with fail
    go_region_held (fun W => W.cell? ⟨gb, 0, none⟩ = some (.int .i64 t.a) ∧ W.cell? ⟨gb, 1, none⟩ = some (.int .i64 t.b) ∧ W.cell? ⟨gb, 2, none⟩ = some (.int .i64 t.c) ∧ W.cell? ⟨gb, 3, none⟩ = some (.int .i64 t.d) ∧ W.cell? ⟨g1, 0, none⟩ = some (.int .i64 u.a) ∧ W.cell? ⟨g1, 1, none⟩ = some (.int .i64 u.b) ∧ W.cell? ⟨g1, 2, none⟩ = some (.int .i64 u.c) ∧ W.cell? ⟨g1, 3, none⟩ = some (.int .i64 u.d) ∧ W.cell? ⟨g2, 0, none⟩ = some (.int .i64 u.a) ∧ W.cell? ⟨g2, 1, none⟩ = some (.int .i64 u.b) ∧ W.cell? ⟨g2, 2, none⟩ = some (.int .i64 u.c) ∧ W.cell? ⟨g2, 3, none⟩ = some (.int .i64 u.d))
      (first | go_keep | exact ⟨c0, c1, c2, c3, c10, c11, c12, c13, c20, c21, c22, c23⟩ | exact ⟨y0, y1, y2, y3, y10, y11, y12, y13, y20, y21, y22, y23⟩ | exact ⟨v0, v1, v2, v3, v10, v11, v12, v13, v20, v21, v22, v23⟩ | fail)
      ((first
        | (go_at_call 33
           refine (HP.out _).mono ?_
           rintro e w5 ⟨pc, cc, Nc, rfl, hcc, hNc, hbd⟩
           have hb8 : Below w.heap.size w w5 := hbc.drew.trans (hbd.mono (by exact hbc.size))
           have y0 := cell_later hbd c0
           have y1 := cell_later hbd c1
           have y2 := cell_later hbd c2
           have y3 := cell_later hbd c3
           have y10 := cell_later hbd c10
           have y11 := cell_later hbd c11
           have y12 := cell_later hbd c12
           have y13 := cell_later hbd c13
           have y20 := cell_later hbd c20
           have y21 := cell_later hbd c21
           have y22 := cell_later hbd c22
           have y23 := cell_later hbd c23
           have hrc := Below.refl Nc w5
           have HNc := Lib.hid hNc
           clear hNc hbd)
        | (go_at_call 34
           refine (HRP.out _).mono ?_
           rintro e w7 ⟨pd, cd, Nd, rfl, hcd, hNd, hbe⟩
           have hb10 : Below w.heap.size w w7 := hb8.trans (hbe.mono hb8.size)
           have v0 := cell_later hbe y0
           have v1 := cell_later hbe y1
           have v2 := cell_later hbe y2
           have v3 := cell_later hbe y3
           have v10 := cell_later hbe y10
           have v11 := cell_later hbe y11
           have v12 := cell_later hbe y12
           have v13 := cell_later hbe y13
           have v20 := cell_later hbe y20
           have v21 := cell_later hbe y21
           have v22 := cell_later hbe y22
           have v23 := cell_later hbe y23
           have hre : Below Nc w5 w7 := (by rw [HNc.out]; exact hbe)
           have hrd := Below.refl Nd w7
           clear hNd hbe)
        | fail))
    all_goals
      go_wp2_with fail
      go_ret
      exact ⟨rfl, hb10⟩

end Go.Proofs.Ythpldobnfnehlaa
