/-
  The walk of ObjAgain: what is got of any bytes, and may be, is got again of what is put of it.
-/
import Derived.Test.YtmcegjkkgbnjlaaJa39
import Derived.Test.YtmcegjkkgbnjlaaJa40
namespace Go.Proofs.Ytmcegjkkgbnjlaa
open Go.RowKit

set_option maxRecDepth 100000 in
set_option maxHeartbeats 4000000 in
theorem oagain_walk (p : Option Addr) (n c : Nat) (l : List UInt8) (w : World) (hh : Has w p l) (hl : l.length = n) (hc : n ≤ c) (hm : c ≤ maxLen) (h3 : p = none → c = 0) :
    Calls Try.prog 11 #[.slice p n c] w fun e w' => e = .returned (.bool true) ∧ Below w.heap.size w w' := by
  have HU := Lib.hid fun W => up_any W
  have HH := Lib.hid hh
  have HL := Lib.hid hl
  have H3 := Lib.hid h3
  have hm' := hm
  unfold maxLen at hm'
  clear hh hl h3
  go_enter Try.func11, Try.ntmps11
  generalize hgb : w.heap.size = gb at *
  go_upto_region 2 with (first | (go_at_call 61; refine (HU.out _).mono ?_; rintro e w2 ⟨rfl, hb2⟩) | fail)
  have hh2 := HH.out.below hb2
  have hb2' : Below gb w w2 := by rw [← hgb]; exact hb2
  have hg2 : gb ≤ w2.heap.size := by rw [← hgb]; exact hb2'.size
  by_cases t1 : 17000 < n
  · have t1d : (17000 : Int) < (n : Int) := by omega
    go_wp2_with fail
    go_ret
    subst hgb
    exact ⟨rfl, hb2'⟩
  have t1d : ¬ (17000 : Int) < (n : Int) := by omega
  cases hg : gotB l with
  | none =>
    have hget := oget_no hg p c w2 hh2 (by rw [HL.out]; exact hc) hm H3.out (by rw [HL.out]; omega)
    rw [HL.out] at hget
    have HG := Lib.hid hget
    clear hget hh2 hb2 hg HU HH HL H3
    go_upto_region 5 with (first | (go_at_call 65; refine HG.out.mono ?_; rintro e w3 ⟨hb3, p0, p1, p2, p4, c0, c1, c2, c4, rfl⟩) | fail)
    have hb4 : Below gb w (w3.alloc (.cells #[.slice p0 0 c0, .slice p1 0 c1, .slice p2 0 c2, .bool false, .slice p4 0 c4] 90)) := (hb2'.trans (hb3.mono hg2)).alloc (Nat.le_trans hg2 hb3.size) _
    obtain ⟨a0, a1, a2, a3, a4⟩ := obj_cells (heap_alloc_new w3 (.cells #[.slice p0 0 c0, .slice p1 0 c1, .slice p2 0 c2, .bool false, .slice p4 0 c4] 90))
    generalize w3.alloc (.cells #[.slice p0 0 c0, .slice p1 0 c1, .slice p2 0 c2, .bool false, .slice p4 0 c4] 90) = w4 at *
    have hce := code_eq 2 2 w4
    by_cases t2 : 16384 < n
    · have t2d : (16384 : Int) < (n : Int) := by omega
      go_wp2_with fail
      go_ret
      subst hgb
      exact ⟨rfl, hb4⟩
    · have t2d : ¬ (16384 : Int) < (n : Int) := by omega
      go_wp2_with fail
      go_ret
      subst hgb
      exact ⟨rfl, hb4⟩
  | some o =>
    have hget := oget_yes hg p c w2 hh2 (by rw [HL.out]; exact hc) hm H3.out (by rw [HL.out]; omega)
    rw [HL.out] at hget
    have HG := Lib.hid hget
    obtain ⟨hsh, hsm, hlen⟩ := got_small hg
    rw [HL.out] at hlen
    have t2d : ¬ (16384 : Int) < (n : Int) := by omega
    clear hget hh2 hb2 hg HU HH HL H3 hsh
    go_upto_region 5 with (first | (go_at_call 65; refine HG.out.mono ?_; rintro e w3 ⟨hb3, p0, p1, p2, p4, c0, c1, c2, c4, rfl, hpp⟩) | fail)
    have hbd := add_bd hpp
    have hb3' : Below gb w w3 := hb2'.trans (hb3.mono hg2)
    have hg3 : gb ≤ w3.heap.size := Nat.le_trans hg2 hb3.size
    obtain ⟨hp4, hb4, hx4⟩ := obj_laid hpp
    obtain ⟨a0, a1, a2, a3, a4⟩ := obj_cells hx4
    have hb4' : Below gb w _ := hb3'.trans (hb4.mono hg3)
    clear hpp hx4 hb4 hb3 hb2' HG
    generalize w3.alloc (.cells #[.slice p0 o.secs.length c0, .slice p1 o.syms.length c1, .slice p2 o.groups.length c2, .bool o.hasSig, .slice p4 o.sig.length c4] 90) = w4 at *
    have hg4 : gb ≤ w4.heap.size := by rw [← hgb]; exact hb4'.size
    have HMAY := Lib.hid (ownMay_any o _ _ _ _ w4 hp4 hsm)
    have HPY := Lib.hid fun W (hW : Below w4.heap.size w4 W) (hm : mayO o = true) => oput_yes o _ _ _ _ W (hp4.below hW) hsm hm
    have HP4 := Lib.hid hp4
    have HBK := Lib.hid fun (hm : mayO o = true) => got_back hm hsm hbd
    have HSM := Lib.hid hsm
    have hmo : mayO o = true → (bytesOf o).length ≤ 16384 := fun hm => by
      unfold mayO at hm
      rw [Bool.and_eq_true] at hm
      exact of_decide_eq_true hm.2
    have HMO := Lib.hid hmo
    clear hp4 hsm hbd hmo
    cases hmy : mayO o with
    | false =>
      rw [hmy] at HMAY
      clear HPY HBK HP4 HMO
      go_wp2_with fail
      refine HMAY.out.mono ?_
      rintro e w5 ⟨rfl, hb5⟩
      go_wp2_with fail
      go_ret
      subst hgb
      exact ⟨rfl, hb4'.trans (hb5.mono hg4)⟩
    | true =>
      rw [hmy] at HMAY
      have hlb := HMO.out hmy
      have hbk := HBK.out hmy
      have HPW := Lib.hid fun W hW => HPY.out W hW hmy
      clear HMO HBK HPY
      go_wp2_with fail
      refine HMAY.out.mono ?_
      rintro e w5 ⟨rfl, hb5⟩
      have b0 := cell_later hb5 a0
      have b1 := cell_later hb5 a1
      have b2 := cell_later hb5 a2
      have b3 := cell_later hb5 a3
      have b4 := cell_later hb5 a4
      have HPW5 := Lib.hid (HPW.out w5 hb5)
      clear HMAY HPW
      go_wp2_with fail
      refine HPW5.out.mono ?_
      rintro e w6 ⟨hb6, q, d, rfl, hq, q1, q2, q3⟩
      have hb46 := hb5.trans (hb6.mono hb5.size)
      have d0 := cell_later hb6 b0
      have d1 := cell_later hb6 b1
      have d2 := cell_later hb6 b2
      have d3 := cell_later hb6 b3
      have d4 := cell_later hb6 b4
      have HG6 := Lib.hid (oget_yes hbk q d w6 hq q1 q2 q3 (by omega))
      have HQ := Lib.hid hq
      have HLB : Hid ((bytesOf o).length = (bytesOf o).length) := Lib.hid rfl
      clear a0 a1 a2 a3 a4 b0 b1 b2 b3 b4 hb5 hb6 HPW5 hq hbk
      generalize hnb : (bytesOf o).length = nb at *
      have HNB := Lib.hid hnb
      clear hnb HLB
      go_upto_region 11 with (first | (go_at_call 65; refine HG6.out.mono ?_; rintro e w7 ⟨hb7, m0, m1, m2, m4, l0, l1, l2, l4, rfl, hpg⟩) | fail)
      obtain ⟨hp8, hb8, hx8⟩ := obj_laid hpg
      obtain ⟨f0, f1, f2, f3, f4⟩ := obj_cells hx8
      have hb78 := hb7.trans (hb8.mono hb7.size)
      have hb48 := hb46.trans (hb78.mono hb46.size)
      have k0 := cell_later hb78 d0
      have k1 := cell_later hb78 d1
      have k2 := cell_later hb78 d2
      have k3 := cell_later hb78 d3
      have k4 := cell_later hb78 d4
      have HQ8 := Lib.hid (HQ.out.below hb78)
      clear d0 d1 d2 d3 d4 hpg hx8 hb7 hb8 hb78 hb46 HQ HG6
      generalize w7.alloc (.cells #[.slice m0 o.secs.length l0, .slice m1 o.syms.length l1, .slice m2 o.groups.length l2, .bool o.hasSig, .slice m4 o.sig.length l4] 90) = w8 at *
      generalize w7.heap.size = g7 at *
      have HPW8 := Lib.hid (oput_yes o _ _ _ _ w8 hp8 HSM.out hmy)
      have HP8 := Lib.hid hp8
      have HPP := Lib.hid (HP4.out.below hb48)
      clear hp8 HP4
      unfold PutYes at HPW8
      rw [HNB.out] at HPW8
      go_wp2_with fail
      refine HPW8.out.mono ?_
      rintro e w9 ⟨hb9, r, s, rfl, hr, r1, r2, r3⟩
      have j0 := cell_later hb9 f0
      have j1 := cell_later hb9 f1
      have j2 := cell_later hb9 f2
      have j3 := cell_later hb9 f3
      have j4 := cell_later hb9 f4
      have i0 := cell_later hb9 k0
      have i1 := cell_later hb9 k1
      have i2 := cell_later hb9 k2
      have i3 := cell_later hb9 k3
      have i4 := cell_later hb9 k4
      have HSE := Lib.hid (refSame_eq o _ _ _ _ _ _ _ _ w9 (HP8.out.below hb9) (HPP.out.below hb9))
      have HC1 := Lib.hid fun W (hW : Below w9.heap.size w9 W) => conv_now (cap := s) (hr.below hW) HNB.out
      have HC2 := Lib.hid fun W (hW : Below w9.heap.size w9 W) => conv_now (cap := d) ((HQ8.out.below hb9).below hW) HNB.out
      have hb49 := hb48.trans (hb9.mono hb48.size)
      clear f0 f1 f2 f3 f4 k0 k1 k2 k3 k4 hb9 hb48 HQ8 HP8 HPP HPW8 hr
      go_wp2_with fail
      refine HSE.out.mono ?_
      rintro e w10 ⟨rfl, hb10⟩
      have hcv1 := HC1.out w10 hb10
      have hcv2 := HC2.out w10 hb10
      have hfin := hb4'.trans ((hb49.trans (hb10.mono hb49.size)).mono hg4)
      generalize str (bytesOf o) = sb at *
      clear HC1 HC2 HSE hb10 hb49
      go_wp2_with fail
      go_ret
      subst hgb
      exact ⟨rfl, hfin⟩
end Go.Proofs.Ytmcegjkkgbnjlaa
