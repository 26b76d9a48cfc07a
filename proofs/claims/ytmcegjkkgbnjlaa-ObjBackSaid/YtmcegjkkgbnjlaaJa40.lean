/-
  Contract of the reference's Same, of two objects that are alike.
  The walk of ObjBack: what was put is got.
  A struct of integers, by value, among a row's arguments, opened. It names nothing of the program.
-/
import Derived.Test.YtmcegjkkgbnjlaaJa39
import Derived.Test.YtmcegjkkgbnjlaaJa23
import Derived.Test.YtmcegjkkgbnjlaaJa20
import Derived.Test.YtmcegjkkgbnjlaaWords
import Derived.Deep.Fields
import Derived.ChangeArms
namespace Go.Proofs.Ytmcegjkkgbnjlaa
open Go.RowKit

theorem HasL.at_two {α : Type} {k : Nat} {E : World → Nat → Nat → α → Prop} {w : World} {p q : Option Addr} {xs : List α} (h : HasL k E w p xs) (h' : HasL k E w q xs) {i : Nat} (hi : i < xs.length) :
    ∃ b off b' off' x, p = some ⟨b, off, none⟩ ∧ q = some ⟨b', off', none⟩ ∧ E w b (off + i * k) x ∧ E w b' (off' + i * k) x := by
  obtain ⟨b, off, e, hx⟩ := h i xs[i] (List.getElem?_eq_getElem hi)
  obtain ⟨b', off', e', hx'⟩ := h' i xs[i] (List.getElem?_eq_getElem hi)
  exact ⟨b, off, b', off', xs[i], e, e', hx, hx'⟩
set_option maxRecDepth 100000 in
set_option maxHeartbeats 4000000 in
theorem refSame_eq (o : ObjD) (v0 v1 v2 v4 u0 u1 u2 u4 : Value) (w : World) (hp : ObjParts w v0 v1 v2 v4 o) (hq : ObjParts w u0 u1 u2 u4 o) :
    Calls Try.prog 66 #[objV v0 v1 v2 o.hasSig v4, objV u0 u1 u2 o.hasSig u4] w fun e w' => e = .returned (.bool true) ∧ Below w.heap.size w w' := by
  obtain ⟨hp0, hp1, hp2, hp4⟩ := hp
  obtain ⟨p0, c0, rfl, q01, q02, _, hqh⟩ := hp0
  obtain ⟨p1, c1, rfl, y01, y02, _, hyh⟩ := hp1
  obtain ⟨p2, c2, rfl, g01, g02, _, hgh⟩ := hp2
  obtain ⟨p4, c4, rfl, x01, x02, _, hxh⟩ := hp4
  obtain ⟨kp0, kp1, kp2, kp4⟩ := hq
  obtain ⟨r0, d0, rfl, _, _, _, kqh⟩ := kp0
  obtain ⟨r1, d1, rfl, _, _, _, kyh⟩ := kp1
  obtain ⟨r2, d2, rfl, _, _, _, kgh⟩ := kp2
  obtain ⟨r4, d4, rfl, _, _, _, kxh⟩ := kp4
  have hqm := Nat.le_trans q01 q02
  have hym := Nat.le_trans y01 y02
  have hgm := Nat.le_trans g01 g02
  have hxm := Nat.le_trans x01 x02
  have h22 := two_in w (.cells #[.slice p0 o.secs.length c0, .slice p1 o.syms.length c1, .slice p2 o.groups.length c2, .bool o.hasSig, .slice p4 o.sig.length c4] 90) (.cells #[.slice r0 o.secs.length d0, .slice r1 o.syms.length d1, .slice r2 o.groups.length d2, .bool o.hasSig, .slice r4 o.sig.length d4] 90)
  have HSG := Lib.hid fun W (hb : Below w.heap.size w W) => refInts_eq o.sig p4 r4 c4 d4 W (hxh.below EInt.keeps hb) (kxh.below EInt.keeps hb) hxm
  have HQ := Lib.hid fun W (hb : Below w.heap.size w W) => And.intro (hqh.below ESec.keeps hb) (kqh.below ESec.keeps hb)
  have HY := Lib.hid fun W (hb : Below w.heap.size w W) => And.intro (hyh.below ESym.keeps hb) (kyh.below ESym.keeps hb)
  have HG := Lib.hid fun W (hb : Below w.heap.size w W) => And.intro (hgh.below EGroup.keeps hb) (kgh.below EGroup.keeps hb)
  unfold maxLen at hqm hym hgm hxm
  clear hqh kqh hyh kyh hgh kgh hxh kxh q01 q02 y01 y02 g01 g02 x01 x02
  generalize hql : o.secs.length = ql at *
  generalize hyl : o.syms.length = yl at *
  generalize hgln : o.groups.length = gl at *
  generalize hxl : o.sig.length = xl at *
  generalize o.hasSig = sg at *
  have HQL := Lib.hid hql
  have HYL := Lib.hid hyl
  have HGL := Lib.hid hgln
  have n1 : ((ql : Int) != (ql : Int)) = false := by simp
  have n2 : ((yl : Int) != (yl : Int)) = false := by simp
  have n3 : ((gl : Int) != (gl : Int)) = false := by simp
  have n4 : (sg != sg) = false := by simp
  clear hql hyl hgln hxl
  go_enter Try.func66, Try.ntmps66
  go_upto_region 1 with fail
  generalize hW2 : (w.alloc (.cells #[.slice p0 ql c0, .slice p1 yl c1, .slice p2 gl c2, .bool sg, .slice p4 xl c4] 90)).alloc (.cells #[.slice r0 ql d0, .slice r1 yl d1, .slice r2 gl d2, .bool sg, .slice r4 xl d4] 90) = W2 at *
  clear hW2
  obtain ⟨g1, g2, hb⟩ := h22
  obtain ⟨⟨a0, a1, a2, a3, a4⟩, _⟩ := cells5 _ _ _ _ _ _ _ _ g1
  obtain ⟨⟨b0, b1, b2, b3, b4⟩, _⟩ := cells5 _ _ _ _ _ _ _ _ g2
  have HSG2 := Lib.hid (HSG.out W2 hb)
  have hbs := hb.size
  clear g1 g2 HSG
  generalize hgb : w.heap.size = gb at *
  go_wp2_with fail
  refine HSG2.out.mono ?_
  rintro e w3 ⟨rfl, hb3⟩
  have hx3 : Below gb w w3 := hb.trans (hb3.mono hbs)
  have A0 := cell_later hb3 a0
  have A1 := cell_later hb3 a1
  have A2 := cell_later hb3 a2
  have A3 := cell_later hb3 a3
  have B0 := cell_later hb3 b0
  have B1 := cell_later hb3 b1
  have B2 := cell_later hb3 b2
  have B3 := cell_later hb3 b3
  obtain ⟨hQ1, hQ2⟩ := HQ.out w3 hx3
  obtain ⟨hY1, hY2⟩ := HY.out w3 hx3
  obtain ⟨hG1, hG2⟩ := HG.out w3 hx3
  have HQ1 := Lib.hid hQ1
  have HQ2 := Lib.hid hQ2
  have HY1 := Lib.hid hY1
  have HY2 := Lib.hid hY2
  have HG1 := Lib.hid hG1
  have HG2 := Lib.hid hG2
  have hgw : gb ≤ w3.heap.size := Nat.le_trans hbs hb3.size
  clear a0 a1 a2 a3 a4 b0 b1 b2 b3 b4 hb hb3 hbs HQ HY HG HSG2 hQ1 hQ2 hY1 hY2 hG1 hG2
  go_upto_region 4 with fail
  go_wp2_with fail
  go_loopw [6] (fun r6 wr => ∃ i : Nat, i ≤ ql ∧ r6 = .int .i64 (i : Int) ∧ Below w3.heap.size w3 wr) (fun r6 _ => ql - (intOf r6).toNat)
  case atStart => exact ⟨0, Nat.zero_le _, rfl, Below.refl _ _⟩
  case round =>
    obtain ⟨i, hi, rfl, hbr⟩ := hrel
    have x0 := cell_later hbr A0
    have y0 := cell_later hbr B0
    by_cases hlt : i < ql
    · obtain ⟨b, off, b', off', x, rfl, rfl, hE1, hE2⟩ := HQ1.out.at_two HQ2.out (i := i) (by rw [HQL.out]; exact hlt)
      obtain ⟨e0, e1, e2, e3, e4, e5, e6, ⟨v7, e7, h7⟩, ⟨v8, e8, h8⟩⟩ := ESec.keeps _ _ _ _ _ hbr hE1
      obtain ⟨f0, f1, f2, f3, f4, f5, f6, ⟨u7, f7, k7⟩, ⟨u8, f8, k8⟩⟩ := ESec.keeps _ _ _ _ _ hbr hE2
      have HSE := Lib.hid fun W (hW : Below wr.heap.size wr W) => sameSec_eq x v7 v8 u7 u8 W (h7.below EByte.keeps hW) (h8.below ERel.keeps hW) (k7.below EByte.keeps hW) (k8.below ERel.keeps hW)
      have hJ : (i : Int) < (ql : Int) := by omega
      have hJ0 : (0 : Int) ≤ (i : Int) := by omega
      have e0 := e0.1
      have e1 := e1.1
      have e2 := e2.1
      have e3 := e3.1
      have e4 := e4.1
      have e5 := e5.1
      have e6 := e6.1
      have f0 := f0.1
      have f1 := f1.1
      have f2 := f2.1
      have f3 := f3.1
      have f4 := f4.1
      have f5 := f5.1
      have f6 := f6.1
      clear hE1 hE2 h7 h8 k7 k8
      unfold secVal at HSE
      go_upto_region 7 with fail
      go_cut [7] (fun s7 wx => s7 = .bool true ∧ Below wr.heap.size wr wx)
      case first =>
        refine wp_region_below (by kernel_rfl) (by kernel_rfl) ?_
        repeat (go_big_quiet_step (first
          | (intro hWq; go_at_call 102; refine (HSE.out _ hWq).mono ?_; rintro e w' ⟨rfl, hb⟩; exact ⟨rfl, hWq.trans (hb.mono hWq.size)⟩)
          | (intro hWq; have z0 := cell_later hWq x0; have z1 := cell_later hWq y0; have l0 := cell_later hWq e0; have l1 := cell_later hWq e1; have l2 := cell_later hWq e2; have l3 := cell_later hWq e3; have l4 := cell_later hWq e4; have l5 := cell_later hWq e5; have l6 := cell_later hWq e6; have l7 := cell_later hWq e7; have l8 := cell_later hWq e8; have m0 := cell_later hWq f0; have m1 := cell_later hWq f1; have m2 := cell_later hWq f2; have m3 := cell_later hWq f3; have m4 := cell_later hWq f4; have m5 := cell_later hWq f5; have m6 := cell_later hWq f6; have m7 := cell_later hWq f7; have m8 := cell_later hWq f8; go_simp; first | done | rfl | exact ⟨rfl, rfl⟩ | fail)
          | fail))
        refine wpQuiet_nil ?_
        intro wx hwx
        go_wp2_with fail
        go_meet
        exact ⟨rfl, hwx⟩
      case rest =>
        obtain ⟨rfl, hb5⟩ := hcut
        have hb6 := hbr.trans (hb5.mono hbr.size)
        clear e0 e1 e2 e3 e4 e5 e6 e7 e8 f0 f1 f2 f3 f4 f5 f6 f7 f8 HSE
        go_wp2_with fail
        go_roundw
        case rel => exact ⟨i + 1, hlt, by go_num, hb6⟩
        case measure => simp [intOf]; omega
    · have hJ : ¬ (i : Int) < (ql : Int) := by omega
      have X1 := cell_later hbr A1
      have X2 := cell_later hbr A2
      have Y1 := cell_later hbr B1
      have Y2 := cell_later hbr B2
      have HY3 := Lib.hid (HY1.out.below ESym.keeps hbr)
      have HY4 := Lib.hid (HY2.out.below ESym.keeps hbr)
      have HG3 := Lib.hid (HG1.out.below EGroup.keeps hbr)
      have HG4 := Lib.hid (HG2.out.below EGroup.keeps hbr)
      have hx4 : Below gb w wr := hx3.trans (hbr.mono hgw)
      have hgr : gb ≤ wr.heap.size := Nat.le_trans hgw hbr.size
      clear A0 A1 A2 A3 B0 B1 B2 B3 HQ1 HQ2 HY1 HY2 HG1 HG2 hx3 hgw hbr HQL
      generalize wr = wo at *
      go_wp2_with fail
      go_loopw [8] (fun r8 wr => ∃ j : Nat, j ≤ yl ∧ r8 = .int .i64 (j : Int) ∧ Below wo.heap.size wo wr) (fun r8 _ => yl - (intOf r8).toNat)
      case atStart => exact ⟨0, Nat.zero_le _, rfl, Below.refl _ _⟩
      case round =>
        obtain ⟨j, hj, rfl, hbr⟩ := hrel
        have x1 := cell_later hbr X1
        have y1 := cell_later hbr Y1
        by_cases hlt : j < yl
        · obtain ⟨b, off, b', off', x, rfl, rfl, hE1, hE2⟩ := HY3.out.at_two HY4.out (i := j) (by rw [HYL.out]; exact hlt)
          obtain ⟨⟨e0, _⟩, ⟨e1, _⟩, ⟨e2, _⟩, ⟨e3, _⟩, ⟨e4, _⟩, ⟨e5, _⟩⟩ := ESym.keeps _ _ _ _ _ hbr hE1
          obtain ⟨⟨f0, _⟩, ⟨f1, _⟩, ⟨f2, _⟩, ⟨f3, _⟩, ⟨f4, _⟩, ⟨f5, _⟩⟩ := ESym.keeps _ _ _ _ _ hbr hE2
          have hJ : (j : Int) < (yl : Int) := by omega
          have hJ0 : (0 : Int) ≤ (j : Int) := by omega
          clear hE1 hE2
          go_upto_region 13 with fail
          go_cut [89] (fun s89 wx => s89 = .bool false ∧ Below wo.heap.size wo wx)
          case first =>
            go_quiet (fail)
            go_wp2_with fail
            go_meet
            exact ⟨by simp, below_drewN hbr _⟩
          case rest =>
            obtain ⟨rfl, hb5⟩ := hcut
            go_wp2_with fail
            go_roundw
            case rel => exact ⟨j + 1, hlt, by go_num, hb5⟩
            case measure => simp [intOf]; omega
        · have hJ : ¬ (j : Int) < (yl : Int) := by omega
          have x2 := cell_later hbr X2
          have y2 := cell_later hbr Y2
          have HG5 := Lib.hid (HG3.out.below EGroup.keeps hbr)
          have HG6 := Lib.hid (HG4.out.below EGroup.keeps hbr)
          have hx5 : Below gb w wr := hx4.trans (hbr.mono hgr)
          have hgq : gb ≤ wr.heap.size := Nat.le_trans hgr hbr.size
          clear X1 X2 Y1 Y2 HY3 HY4 HG3 HG4 hx4 hgr hbr HYL
          generalize wr = wp at *
          go_wp2_with fail
          go_loopw [9, 10] (fun r9 _ wr => ∃ k : Nat, k ≤ gl ∧ r9 = .int .i64 (k : Int) ∧ Below wp.heap.size wp wr) (fun r9 _ _ => gl - (intOf r9).toNat)
          case atStart => exact ⟨0, Nat.zero_le _, rfl, Below.refl _ _⟩
          case round =>
            obtain ⟨k, hk, rfl, hbr⟩ := hrel
            have x3 := cell_later hbr x2
            have y3 := cell_later hbr y2
            by_cases hlt : k < gl
            · obtain ⟨b, off, b', off', x, rfl, rfl, hE1, hE2⟩ := HG5.out.at_two HG6.out (i := k) (by rw [HGL.out]; exact hlt)
              obtain ⟨⟨e0, _⟩, v1, e1, pm, cm, rfl, m1, m2, _, hmh⟩ := EGroup.keeps _ _ _ _ _ hbr hE1
              obtain ⟨⟨f0, _⟩, u1, f1, qm, dm, rfl, _, _, _, kmh⟩ := EGroup.keeps _ _ _ _ _ hbr hE2
              have HI := Lib.hid fun W (hW : Below wr.heap.size wr W) => refInts_eq x.members pm qm cm dm W (hmh.below EInt.keeps hW) (kmh.below EInt.keeps hW) (Nat.le_trans m1 m2)
              have hJ : (k : Int) < (gl : Int) := by omega
              have hJ0 : (0 : Int) ≤ (k : Int) := by omega
              have q0 : (x.sym != x.sym) = false := by simp
              clear hE1 hE2 hmh kmh m1 m2
              generalize x.members.length = ml at *
              go_upto_region 18 with fail
              go_cut [10] (fun s10 wx => s10 = .bool true ∧ Below wr.heap.size wr wx)
              case first =>
                refine wp_region_below (by kernel_rfl) (by kernel_rfl) ?_
                repeat (go_big_quiet_step (first
                  | (intro hWq; go_at_call 101; refine (HI.out _ hWq).mono ?_; rintro e w' ⟨rfl, hb⟩; exact ⟨rfl, hWq.trans (hb.mono hWq.size)⟩)
                  | (intro hWq; have z0 := cell_later hWq x3; have z1 := cell_later hWq y3; have l0 := cell_later hWq e0; have l1 := cell_later hWq e1; have m0 := cell_later hWq f0; have m1 := cell_later hWq f1; go_simp; first | done | rfl | exact ⟨rfl, rfl⟩ | fail)
                  | fail))
                refine wpQuiet_nil ?_
                intro wx hwx
                go_wp2_with fail
                go_meet
                exact ⟨rfl, hwx⟩
              case rest =>
                obtain ⟨rfl, hb5⟩ := hcut
                have z0 := cell_later hb5 x3
                have z1 := cell_later hb5 y3
                have l0 := cell_later hb5 e0
                have l1 := cell_later hb5 f0
                have hb6 := hbr.trans (hb5.mono hbr.size)
                clear e0 e1 f0 f1 x3 y3 HI hbr hb5
                go_upto_region 19 with fail
                go_cut [126] (fun s126 wx => s126 = .bool false ∧ Below wp.heap.size wp wx)
                case first =>
                  go_quiet (fail)
                  go_wp2_with fail
                  go_meet
                  exact ⟨by simp, below_drewN hb6 _⟩
                case rest =>
                  obtain ⟨rfl, hb5⟩ := hcut
                  go_wp2_with fail
                  go_roundw
                  case rel => exact ⟨k + 1, hlt, by go_num, hb5⟩
                  case measure => simp [intOf]; omega
            · have hJ : ¬ (k : Int) < (gl : Int) := by omega
              go_wp2_with fail
              go_ret
              subst hgb
              exact ⟨rfl, hx5.trans (hbr.mono hgq)⟩
end Go.Proofs.Ytmcegjkkgbnjlaa

namespace Go.Proofs.Ytmcegjkkgbnjlaa
open Go.RowKit

set_option maxRecDepth 100000 in
set_option maxHeartbeats 4000000 in
theorem oback_walk (o : ObjD) (v : Value) (w : World) (h : IsObj w v o) :
    Calls Try.prog 10 #[v] w fun e w' => e = .returned (.bool true) ∧ Below w.heap.size w w' := by
  obtain ⟨v0, v1, v2, v4, rfl, hp⟩ := h
  obtain ⟨hp1, hb1, hx1⟩ := obj_laid hp
  obtain ⟨a0, a1, a2, a3, a4⟩ := obj_cells hx1
  have hbd := add_bd hp
  have HU := Lib.hid fun W => up_any W
  have HP := Lib.hid hp1
  have hbs := hb1.size
  clear hp hp1 hx1
  go_enter Try.func10, Try.ntmps10
  go_upto_region 1 with fail
  generalize w.alloc (.cells #[v0, v1, v2, .bool o.hasSig, v4] 90) = W1 at *
  generalize hgb : w.heap.size = gb at *
  go_upto_region 2 with (first | (go_at_call 61; refine (HU.out _).mono ?_; rintro e w2 ⟨rfl, hb2⟩) | fail)
  have hb2' : Below gb w w2 := hb1.trans (hb2.mono hbs)
  have b0 := cell_later hb2 a0
  have b1 := cell_later hb2 a1
  have b2 := cell_later hb2 a2
  have b3 := cell_later hb2 a3
  have b4 := cell_later hb2 a4
  have hp2 := HP.out.below hb2
  have HS := Lib.hid (small_any o _ _ _ _ w2 hp2)
  have HP2 := Lib.hid hp2
  have hg2 : gb ≤ w2.heap.size := Nat.le_trans hbs hb2.size
  clear a0 a1 a2 a3 a4 hb2 hp2 hb1 HP HU
  go_wp2_with fail
  refine HS.out.mono ?_
  rintro e w3 ⟨⟨r, rfl, hr⟩, hb3⟩
  have hb3' : Below gb w w3 := hb2'.trans (hb3.mono hg2)
  rcases hr with rfl | ⟨rfl, hsm⟩
  · go_wp2_with fail
    go_ret
    subst hgb
    exact ⟨rfl, hb3'⟩
  have c0 := cell_later hb3 b0
  have c1 := cell_later hb3 b1
  have c2 := cell_later hb3 b2
  have c3 := cell_later hb3 b3
  have c4 := cell_later hb3 b4
  have hp3 := HP2.out.below hb3
  have hg3 : gb ≤ w3.heap.size := Nat.le_trans hg2 hb3.size
  have HMAY := Lib.hid fun W (hW : Below w3.heap.size w3 W) => ownMay_any o _ _ _ _ W (hp3.below hW) hsm
  have HPUT := Lib.hid (ownPut_any o _ _ _ _ w3 hp3 hsm)
  have HPY := Lib.hid (fun hm => oput_yes o _ _ _ _ w3 hp3 hsm hm)
  have HP3 := Lib.hid hp3
  have HGB := Lib.hid (fun hm => got_back (o := o) hm hsm hbd)
  have hmo : mayO o = true → (bytesOf o).length ≤ 16384 := fun hm => by
    unfold mayO at hm
    rw [Bool.and_eq_true] at hm
    exact of_decide_eq_true hm.2
  have HMO := Lib.hid hmo
  clear b0 b1 b2 b3 b4 hb3 hp3 hsm hb2' hg2 HP2 HS hmo hbd
  cases hm : mayO o with
  | false =>
    have HNO : Hid (Calls Try.prog 63 #[objV v0 v1 v2 o.hasSig v4] w3 fun e w' => e = .returned (.tuple #[.slice none 0 0, .iface 97 (.int .i64 1)]) ∧ Below w3.heap.size w3 w') := Lib.hid (HPUT.out.mono fun e w' ⟨hb, h⟩ => by
      rcases h with ⟨h, _⟩ | ⟨_, h⟩
      · rw [hm] at h; cases h
      · exact ⟨h, hb⟩)
    rw [hm] at HMAY
    clear HPUT HPY HGB HMO
    go_wp2_with fail
    refine HNO.out.mono ?_
    rintro e w4 ⟨rfl, hb4⟩
    have d0 := cell_later hb4 c0
    have d1 := cell_later hb4 c1
    have d2 := cell_later hb4 c2
    have d3 := cell_later hb4 c3
    have d4 := cell_later hb4 c4
    have hb4' : Below gb w w4 := hb3'.trans (hb4.mono hg3)
    have HM4 := Lib.hid (HMAY.out w4 hb4)
    have hg4 : gb ≤ w4.heap.size := Nat.le_trans hg3 hb4.size
    clear c0 c1 c2 c3 c4 hb4 HMAY HNO
    go_wp2_with fail
    refine HM4.out.mono ?_
    rintro e w5 ⟨rfl, hb5⟩
    have hce := code_eq 1 1 w5
    go_wp2_with fail
    go_ret
    subst hgb
    exact ⟨rfl, hb4'.trans (hb5.mono hg4)⟩
  | true =>
    have HPY2 := Lib.hid (HPY.out hm)
    have hgot := HGB.out hm
    have hlen := HMO.out hm
    rw [hm] at HMAY
    clear HPUT HPY HGB HMO
    go_wp2_with fail
    refine HPY2.out.mono ?_
    rintro e w4 ⟨hb4, p, c, rfl, hh, q1, q2, q3⟩
    have d0 := cell_later hb4 c0
    have d1 := cell_later hb4 c1
    have d2 := cell_later hb4 c2
    have d3 := cell_later hb4 c3
    have d4 := cell_later hb4 c4
    have hb4' : Below gb w w4 := hb3'.trans (hb4.mono hg3)
    have HM4 := Lib.hid (HMAY.out w4 hb4)
    have hg4 : gb ≤ w4.heap.size := Nat.le_trans hg3 hb4.size
    have HG4 := Lib.hid fun W (hW : Below w4.heap.size w4 W) => oget_yes hgot p c W (hh.below hW) q1 q2 q3 (by omega)
    have HP4 := Lib.hid (HP3.out.below hb4)
    generalize (bytesOf o).length = n at *
    clear c0 c1 c2 c3 c4 hb4 HMAY HPY2 HP3 hgot hh
    go_wp2_with fail
    refine HM4.out.mono ?_
    rintro e w5 ⟨rfl, hb5⟩
    have e0 := cell_later hb5 d0
    have e1 := cell_later hb5 d1
    have e2 := cell_later hb5 d2
    have e3 := cell_later hb5 d3
    have e4 := cell_later hb5 d4
    have HG5 := Lib.hid (HG4.out w5 hb5)
    have HP5 := Lib.hid (HP4.out.below hb5)
    have hb5' : Below gb w w5 := hb4'.trans (hb5.mono hg4)
    have hg5 : gb ≤ w5.heap.size := Nat.le_trans hg4 hb5.size
    clear d0 d1 d2 d3 d4 hb5 HG4 HP4 HM4
    go_upto_region 8 with (first | (go_at_call 65; refine HG5.out.mono ?_; rintro e w6 ⟨hb6, m0, m1, m2, m4, l0, l1, l2, l4, rfl, hpg⟩) | fail)
    obtain ⟨hp7, hb7, hx7⟩ := obj_laid hpg
    obtain ⟨f0, f1, f2, f3, f4⟩ := obj_cells hx7
    have hb7' := hb6.trans (hb7.mono hb6.size)
    have hb8 : Below gb w _ := hb5'.trans (hb7'.mono hg5)
    have k0 := cell_later hb7' e0
    have k1 := cell_later hb7' e1
    have k2 := cell_later hb7' e2
    have k3 := cell_later hb7' e3
    have k4 := cell_later hb7' e4
    have HSM := Lib.hid (refSame_eq o _ _ _ _ _ _ _ _ _ hp7 (HP5.out.below hb7'))
    clear hp7 hx7 hpg hb7 hb6 hb7' e0 e1 e2 e3 e4 HP5 HG5
    generalize w6.alloc (.cells #[.slice m0 o.secs.length l0, .slice m1 o.syms.length l1, .slice m2 o.groups.length l2, .bool o.hasSig, .slice m4 o.sig.length l4] 90) = w7 at *
    have hln : (n : Int) ≤ 16384 := by omega
    have hg7 : gb ≤ w7.heap.size := by rw [← hgb]; exact hb8.size
    go_wp2_with fail
    refine HSM.out.mono ?_
    rintro e w8 ⟨rfl, hb9⟩
    go_wp2_with fail
    go_ret
    subst hgb
    exact ⟨rfl, hb8.trans (hb9.mono hg7)⟩
end Go.Proofs.Ytmcegjkkgbnjlaa

namespace Go.Proofs.Ytmcegjkkgbnjlaa
open Go.ChangeShapes Go.WideShapes Go.RowKit Go.Deep

theorem open_struct_ints {H : Type} {enc : TypeId × Value → H} {P : Program} {w : World} {base : Nat} {spare : Nat → Bool} {held : Bool} {r : Reach} {b0 : Nat} {t : TypeId} {fs : Array Field} {v : Value} {d : DataW H} {p : List MemPlace}
    (hs : P.underlying t = some (.struct fs)) (hone : oneCellFields P fs = true) (hC : P.cellsOf t = fs.size) {e : TypeId} (hall : fs.all (fun f => f.type == e) = true) (he : P.underlying e = some (.int .i64))
    (hv : Value.okWide P w r b0 t v) (h : DataW.Trod enc P w base spare held t v d p) :
    ∃ xs : List Int, xs.length = fs.size ∧ v = .agg ((xs.map (Value.int .i64)).toArray) ∧ ∀ x ∈ xs, (Lit.int .i64 x).wf = true := by
  have hint : ∀ (j : Nat) (f : Field), fs[j]? = some f → P.underlying f.type = some (.int .i64) := fun j f hf => by
    obtain ⟨hj, hfj⟩ := Array.getElem?_eq_some_iff.1 hf
    have := (Array.all_eq_true.1 hall) j hj
    rw [hfj, beq_iff_eq] at this
    rw [this]
    exact he
  obtain ⟨cs, rfl, hsz⟩ := okWide_struct hs hv
  obtain ⟨fuel, hf⟩ := h
  obtain ⟨ys, n, _, _, hlen, hyl, hfl⟩ := DataW.trod_struct hs hf
  have hlen2 : cs.toList.length = fs.size := by rw [Array.length_toList, hsz, hC]
  have key : ∀ (j : Nat) (u : Value), cs.toList[j]? = some u → ∃ m : Int, u = .int .i64 m ∧ (Lit.int .i64 m).wf = true := fun j u hu => by
    have hj : j < fs.size := by have := (List.getElem?_eq_some_iff.1 hu).1; omega
    have hfj : fs[j]? = some fs[j] := Array.getElem?_eq_getElem hj
    obtain ⟨ho, hk⟩ := hone_of hone j _ hfj
    have h1 := hfl j _ hfj
    rw [ho, hk] at h1
    have hcells : (Value.agg cs).cells.toList = cs.toList := rfl
    rw [hcells] at h1
    have hone' : (cs.toList.drop j).take 1 = [u] := by
      have hjl : j < cs.toList.length := (List.getElem?_eq_some_iff.1 hu).1
      rw [List.drop_eq_getElem_cons hjl, (List.getElem?_eq_some_iff.1 hu).2]
      rfl
    rw [hone'] at h1
    have hy : ys[j]? = some (ys[j]'(by omega)) := List.getElem?_eq_getElem (by omega)
    rw [hy] at h1
    obtain ⟨m, hm, _, hw⟩ := DataW.trod_int (hint j _ hfj) h1
    simp only [List.cons.injEq, and_true] at hm
    exact ⟨m, hm, hw⟩
  refine ⟨cs.toList.map intOf, by rw [List.length_map]; exact hlen2, ?_, fun x hx => ?_⟩
  · congr 1
    apply Array.ext'
    rw [List.map_map]
    apply List.ext_getElem?
    intro j
    rw [List.getElem?_map]
    cases hj : cs.toList[j]? with
    | none => rfl
    | some u =>
      obtain ⟨m, rfl, _⟩ := key j u hj
      rfl
  · obtain ⟨u, hu, rfl⟩ := List.mem_map.1 hx
    obtain ⟨j, hj⟩ := List.getElem?_of_mem hu
    obtain ⟨m, rfl, hw⟩ := key j u hj
    exact hw

end Go.Proofs.Ytmcegjkkgbnjlaa
