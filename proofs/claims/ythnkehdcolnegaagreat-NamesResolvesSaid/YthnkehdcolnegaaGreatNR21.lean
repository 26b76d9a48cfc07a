/-
  Contracts of the project's own maySym, mayValue.
  Contract of the reference's section.
-/
import Derived.Test.YthnkehdcolnegaaGreatNR14
import Derived.Test.YthnkehdcolnegaaGreatNR16
import Derived.Test.YthnkehdcolnegaaGreatNR20
import Derived.Deep.QuietTactic
import Derived.BigQuiet
import Derived.Deep.DeepCutAuto
import Derived.Test.YthnkehdcolnegaaGreatShapeC
namespace Go.Proofs.YthnkehdcolnegaaGreat
open Go.RowKit

abbrev symV6 (s : SymD) : Value := .agg #[.string s.name, .int .i64 s.bind, .int .i64 s.type, .int .i64 s.sec, .int .i64 s.value, .int .i64 s.size]
def symO (s : SymD) : Bool := bif (s.bind != 0) && s.name.toList.isEmpty then false else mayB (lst s.name) && (inR s.bind 0 2 && (inR s.type 0 3 && inR s.size 0 2147483647))
set_option maxRecDepth 100000 in
set_option maxHeartbeats 2000000 in
theorem ownMaySym_any (s : SymD) (w : World) : Calls Tryz.prog 151 #[symV6 s] w fun e w' => e = .returned (.bool (symO s)) ∧ Below w.heap.size w w' := by
  have hb1 : Below w.heap.size w (w.alloc (.cells #[.string s.name, .int .i64 s.bind, .int .i64 s.type, .int .i64 s.sec, .int .i64 s.value, .int .i64 s.size] 98)) := (Below.refl _ w).alloc (Nat.le_refl _) _
  have hha := heap_new w (.cells #[.string s.name, .int .i64 s.bind, .int .i64 s.type, .int .i64 s.sec, .int .i64 s.value, .int .i64 s.size] 98)
  have HM := Lib.hid fun W => sMay_any s.name W
  have HW1 := Lib.hid fun W => ownWithin_any s.bind 0 2 W
  have HW2 := Lib.hid fun W => ownWithin_any s.type 0 3 W
  have HW3 := Lib.hid fun W => ownIsPlace_any s.size W
  have HB1 := Lib.hid hb1
  have hr : symO s = bif (s.bind != 0) && s.name.toList.isEmpty then false else mayB (lst s.name) && (inR s.bind 0 2 && (inR s.type 0 3 && inR s.size 0 2147483647)) := rfl
  generalize hc : ((s.bind != 0) && s.name.toList.isEmpty) = c at *
  generalize symO s = res at *
  generalize mayB (lst s.name) = m at *
  generalize inR s.bind 0 2 = q1 at *
  generalize inR s.type 0 3 = q2 at *
  generalize inR s.size 0 2147483647 = q3 at *
  have HR := Lib.hid hr
  have HC := Lib.hid hc
  clear hr hb1 hc
  go_enter Tryz.func151, Tryz.ntmps151
  go_upto_region 1 with fail
  generalize w.alloc (.cells #[.string s.name, .int .i64 s.bind, .int .i64 s.type, .int .i64 s.sec, .int .i64 s.value, .int .i64 s.size] 98) = W1 at *
  obtain ⟨s0, s1, s2, s3, s4, s5⟩ := cells6 _ _ _ _ _ _ _ _ _ hha
  clear hha
  go_cut [10] (fun s10 wx => s10 = .bool c ∧ W1 = wx)
  case first =>
    cases t1 : (s.bind != 0) with
    | true =>
      have hE : Hid (c = s.name.toList.isEmpty) := Lib.hid (by rw [← HC.out, t1]; rfl)
      go_wp2_with fail
      go_meet
      exact ⟨by rw [hE.out], by trivial⟩
    | false =>
      have hE : Hid (c = false) := Lib.hid (by rw [← HC.out, t1]; rfl)
      go_wp2_with fail
      go_meet
      exact ⟨by rw [hE.out], by trivial⟩
  case rest =>
    obtain ⟨rfl, rfl⟩ := hcut
    clear HC
    cases c with
    | true =>
      have hE : Hid (res = false) := Lib.hid (by rw [HR.out]; rfl)
      go_wp2_with fail
      go_ret
      rw [hE.out]
      exact ⟨rfl, HB1.out⟩
    | false =>
      have hE : Hid (res = (m && (q1 && (q2 && q3)))) := Lib.hid (by rw [HR.out]; rfl)
      clear HR
      go_wp2_with fail
      refine (HM.out _).mono ?_
      rintro e w' ⟨rfl, rfl⟩
      cases m with
      | false =>
        have hE2 : Hid (res = false) := Lib.hid (by rw [hE.out]; rfl)
        go_wp2_with fail
        go_ret
        rw [hE2.out]
        exact ⟨rfl, HB1.out⟩
      | true =>
        go_wp2_with fail
        refine (HW1.out _).mono ?_
        rintro e w' ⟨rfl, rfl⟩
        cases q1 with
        | false =>
          have hE2 : Hid (res = false) := Lib.hid (by rw [hE.out]; rfl)
          go_wp2_with fail
          go_ret
          rw [hE2.out]
          exact ⟨rfl, HB1.out⟩
        | true =>
          go_wp2_with fail
          refine (HW2.out _).mono ?_
          rintro e w' ⟨rfl, rfl⟩
          cases q2 with
          | false =>
            have hE2 : Hid (res = false) := Lib.hid (by rw [hE.out]; rfl)
            go_wp2_with fail
            go_ret
            rw [hE2.out]
            exact ⟨rfl, HB1.out⟩
          | true =>
            have hE2 : Hid (res = q3) := Lib.hid (by rw [hE.out]; rfl)
            go_wp2_with fail
            refine (HW3.out _).mono ?_
            rintro e w' ⟨rfl, rfl⟩
            go_wp2_with fail
            go_ret
            rw [hE2.out]
            exact ⟨rfl, HB1.out⟩

def valO (secs : List SecD) (s : SymD) : Bool :=
  bif !inR s.sec (-1) secs.length || !inR s.value 0 2147483647 then false else
  bif s.sec == 0 then (s.bind != 0) && (s.value == 0) else
  bif decide (0 < s.sec) then decide (s.value ≤ secSize secs s.sec) else true
set_option maxRecDepth 100000 in
set_option maxHeartbeats 2000000 in
theorem ownMayValue_any (s : SymD) (p0 : Option Addr) (c0 : Nat) (secs : List SecD) (w : World) (hq : HasL 9 ESec w p0 secs) (hql : secs.length ≤ 1000000) :
    Calls Tryz.prog 152 #[symV6 s, .slice p0 secs.length c0] w fun e w' => e = .returned (.bool (valO secs s)) ∧ Below w.heap.size w w' := by
  have hb1 : Below w.heap.size w (w.alloc (.cells #[.string s.name, .int .i64 s.bind, .int .i64 s.type, .int .i64 s.sec, .int .i64 s.value, .int .i64 s.size] 98)) := (Below.refl _ w).alloc (Nat.le_refl _) _
  have hha := heap_new w (.cells #[.string s.name, .int .i64 s.bind, .int .i64 s.type, .int .i64 s.sec, .int .i64 s.value, .int .i64 s.size] 98)
  have HQ := Lib.hid (hq.below ESec.keeps hb1)
  have HW1 := Lib.hid fun W => ownWithin_any s.sec (-1) (secs.length : Int) W
  have HW3 := Lib.hid fun W => ownIsPlace_any s.value W
  have HB1 := Lib.hid hb1
  have hr : valO secs s = bif !inR s.sec (-1) secs.length || !inR s.value 0 2147483647 then false else
    bif s.sec == 0 then (s.bind != 0) && (s.value == 0) else
    bif decide (0 < s.sec) then decide (s.value ≤ secSize secs s.sec) else true := rfl
  have hin : inR s.sec (-1) secs.length = true → -1 ≤ s.sec ∧ s.sec ≤ secs.length := fun h => by
    unfold inR at h
    simpa using h
  generalize valO secs s = res at *
  generalize inR s.sec (-1) secs.length = q1 at *
  generalize inR s.value 0 2147483647 = q3 at *
  have HIN := Lib.hid hin
  have HR := Lib.hid hr
  generalize hqn : secs.length = ql at *
  have HQN := Lib.hid hqn
  clear hr hb1 hq hin hqn
  go_enter Tryz.func152, Tryz.ntmps152
  go_upto_region 1 with fail
  generalize w.alloc (.cells #[.string s.name, .int .i64 s.bind, .int .i64 s.type, .int .i64 s.sec, .int .i64 s.value, .int .i64 s.size] 98) = W1 at *
  obtain ⟨s0, s1, s2, s3, s4, s5⟩ := cells6 _ _ _ _ _ _ _ _ _ hha
  clear hha
  go_wp2_with fail
  refine (HW1.out _).mono ?_
  rintro e w' ⟨rfl, rfl⟩
  cases q1 with
  | false =>
    have hE : Hid (res = false) := Lib.hid (by rw [HR.out]; rfl)
    go_wp2_with fail
    go_ret
    rw [hE.out]
    exact ⟨rfl, HB1.out⟩
  | true =>
    go_wp2_with fail
    refine (HW3.out _).mono ?_
    rintro e w' ⟨rfl, rfl⟩
    cases q3 with
    | false =>
      have hE : Hid (res = false) := Lib.hid (by rw [HR.out]; rfl)
      go_wp2_with fail
      go_ret
      rw [hE.out]
      exact ⟨rfl, HB1.out⟩
    | true =>
      have hR2 : Hid (res = bif s.sec == 0 then (s.bind != 0) && (s.value == 0) else bif decide (0 < s.sec) then decide (s.value ≤ secSize secs s.sec) else true) := Lib.hid (by rw [HR.out]; rfl)
      clear HR
      cases t0 : (s.sec == 0) with
      | true =>
        cases t1 : (s.bind != 0) with
        | true =>
          have hE : Hid (res = (s.value == 0)) := Lib.hid (by rw [hR2.out, t0, t1]; rfl)
          go_wp2_with fail
          go_ret
          rw [hE.out]
          exact ⟨rfl, HB1.out⟩
        | false =>
          have hE : Hid (res = false) := Lib.hid (by rw [hR2.out, t0, t1]; rfl)
          go_wp2_with fail
          go_ret
          rw [hE.out]
          exact ⟨rfl, HB1.out⟩
      | false =>
        by_cases hp : 0 < s.sec
        · have hb := HIN.out (by trivial)
          obtain ⟨k, hk⟩ : ∃ k : Nat, s.sec = (k : Int) + 1 := ⟨(s.sec - 1).toNat, by omega⟩
          have hkl : k < secs.length := by rw [HQN.out]; omega
          obtain ⟨b, off, x, rfl, hx, _, _, _, _, _, _, ⟨d6, _⟩, _⟩ := HQ.out.at_ (i := k) hkl
          have hsz : secSize secs s.sec = x.size := by
            unfold secSize
            rw [hk, show ((k : Int) + 1 - 1).toNat = k by omega, hx]
          have hE : Hid (res = decide (s.value ≤ x.size)) := Lib.hid (by rw [hR2.out, t0, decide_eq_true hp, hsz]; rfl)
          have hkw : IntKind.i64.wrap (s.sec - 1) = (k : Int) := by rw [show s.sec - 1 = (k : Int) by omega]; exact IntWalk.i64_in _ (by omega)
          have hk0 : (0 : Int) ≤ (k : Int) := by omega
          have hkq : (k : Int) < (ql : Int) := by have := HQN.out; omega
          clear hk hkl hx hsz hb
          go_wp2_with fail
          go_quiet (fail)
          go_wp2_with fail
          go_ret
          rw [hE.out]
          exact ⟨rfl, below_drewN HB1.out _⟩
        · have hE : Hid (res = true) := Lib.hid (by rw [hR2.out, t0, decide_eq_false hp]; rfl)
          go_wp2_with fail
          go_ret
          rw [hE.out]
          exact ⟨rfl, HB1.out⟩
end Go.Proofs.YthnkehdcolnegaaGreat

namespace Go.Proofs.YthnkehdcolnegaaGreat
open Go.RowKit

def kindS (s : SecD) : Bool := kindB s.type s.flags s.align s.ent s.size s.data.length s.rels.length (s.data.getLast? == some 0)
def secOK (ql yl : Nat) (gs : List GroupD) (k : Nat) (s : SecD) : Bool :=
  bif !mayB s.name.data.toList || !kindS s || !relsB yl s.data.length s.rels then false else
  bif (hasF s.flags 128 && (decide (s.link < 1) || decide ((ql : Int) < s.link) || (s.link == (k : Int) + 1))) || (!hasF s.flags 128 && (s.link != 0)) then false else
  (((memberN gs ((k : Int) + 1) : Int) == 0) && !hasF s.flags 512) || (((memberN gs ((k : Int) + 1) : Int) == 1) && hasF s.flags 512)

set_option maxRecDepth 100000 in
set_option maxHeartbeats 8000000 in
theorem section_any (v2 v4 : Value) (sig : Bool) (p0 p1 : Option Addr) (c0 c1 k ql yl : Nat) (secs : List SecD) (gs : List GroupD) (s : SecD) (w : World) (hq : HasL 9 ESec w p0 secs) (hg : IsL 2 EGroup w v2 gs) (hk : secs[k]? = some s) (hql : secs.length = ql) (hqm : ql ≤ maxLen) (hym : yl ≤ maxLen)
    (hgl : gs.length ≤ 1000000) (hml : ∀ g ∈ gs, g.members.length ≤ 1000000) :
    Calls Tryz.prog 76 #[objV (.slice p0 ql c0) (.slice p1 yl c1) v2 sig v4, .int .i64 ((k : Int) + 1)] w fun e w' => e = .returned (.bool (secOK ql yl gs k s)) ∧ Below w.heap.size w w' := by
  have hqm2 := hqm
  unfold maxLen at hqm2
  have hl1 : k < secs.length := (List.getElem?_eq_some_iff.1 hk).1
  obtain ⟨b, off, s', rfl, hs0, hes⟩ := hq.at_ hl1
  obtain rfl : s' = s := by rw [hk] at hs0; cases hs0; rfl
  obtain ⟨⟨d0, _⟩, ⟨d1, _⟩, ⟨d2, hfl⟩, ⟨d3, _⟩, ⟨d4, _⟩, ⟨d5, _⟩, ⟨d6, hsz⟩, ⟨vd, d7, hvd⟩, ⟨vr, d8, hvr⟩⟩ := hes
  obtain ⟨dp, dc, rfl, hd1, hd2, _, hdh⟩ := hvd
  obtain ⟨rp, rc, rfl, hr1, hr2, _, hrh⟩ := hvr
  have hb1 : Below w.heap.size w (w.alloc (.cells #[.slice (some ⟨b, off, none⟩) ql c0, .slice p1 yl c1, v2, .bool sig, v4] 27)) := (Below.refl _ w).alloc (Nat.le_refl _) _
  have f0 := cell_later hb1 d0
  have f1 := cell_later hb1 d1
  have f2 := cell_later hb1 d2
  have f3 := cell_later hb1 d3
  have f4 := cell_later hb1 d4
  have f5 := cell_later hb1 d5
  have f6 := cell_later hb1 d6
  have f7 := cell_later hb1 d7
  have f8 := cell_later hb1 d8
  have hct := cells_two w #[.slice (some ⟨b, off, none⟩) ql c0, .slice p1 yl c1, v2, .bool sig, v4] #[.string s'.name, .int .i64 s'.type, .int .i64 s'.flags, .int .i64 s'.align, .int .i64 s'.ent, .int .i64 s'.link, .int .i64 s'.size, .slice dp s'.data.length dc, .slice rp s'.rels.length rc] 27 89
  have a0 := hct.1 0
  have a1 := hct.1 1
  have a2 := hct.1 2
  have a3 := hct.1 3
  have a4 := hct.1 4
  have g0 := hct.2 0
  have g1 := hct.2 1
  have g2 := hct.2 2
  have g3 := hct.2 3
  have g4 := hct.2 4
  have g5 := hct.2 5
  have g6 := hct.2 6
  have g7 := hct.2 7
  have g8 := hct.2 8
  simp only [List.getElem?_toArray, List.getElem?_cons_succ, List.getElem?_cons_zero] at a0 a1 a2 a3 a4 g0 g1 g2 g3 g4 g5 g6 g7 g8
  have hbx := hb1.alloc hb1.size (.cells #[.string s'.name, .int .i64 s'.type, .int .i64 s'.flags, .int .i64 s'.align, .int .i64 s'.ent, .int .i64 s'.link, .int .i64 s'.size, .slice dp s'.data.length dc, .slice rp s'.rels.length rc] 89)
  have hdx := (hdh.below EByte.keeps hbx).has
  have hrx := hrh.below ERel.keeps hbx
  have hgx := hg.below EGroup.keeps hbx
  have HK := Lib.hid (secOK.eq_1 ql yl gs k s')
  have HN := Lib.hid fun W => refName_any s'.name W
  have hkd : ∀ W, Has W dp s'.data → Calls Tryz.prog 121 #[secV s'.name s'.type s'.flags s'.align s'.ent s'.link s'.size (.slice dp s'.data.length dc) (.slice rp s'.rels.length rc)] W fun e w' => e = .returned (.bool (kindS s')) ∧ Below W.heap.size W w' := fun W h => kind_any s'.name s'.type s'.flags s'.align s'.ent s'.link s'.size dp rp s'.data.length dc s'.rels.length rc s'.data W hfl hsz h rfl hd1 hd2 (Nat.le_trans hr1 hr2)
  have hrl : ∀ W, HasL 4 ERel W rp s'.rels → Calls Tryz.prog 122 #[objV (.slice (some ⟨b, off, none⟩) ql c0) (.slice p1 yl c1) v2 sig v4, secV s'.name s'.type s'.flags s'.align s'.ent s'.link s'.size (.slice dp s'.data.length dc) (.slice rp s'.rels.length rc)] W fun e w' => e = .returned (.bool (relsB yl s'.data.length s'.rels)) ∧ Below W.heap.size W w' := fun W h => rels_any (.slice (some ⟨b, off, none⟩) ql c0) v2 v4 sig p1 yl c1 s'.name s'.type s'.flags s'.align s'.ent s'.link s'.size dp rp s'.data.length dc rc s'.rels W h (Nat.le_trans hr1 hr2) hym (Nat.le_trans hd1 hd2)
  have hh1 := fun W => has_any s'.name s'.type s'.flags s'.align s'.ent s'.link s'.size (.slice dp s'.data.length dc) (.slice rp s'.rels.length rc) 128 W (by omega) (by omega) hfl
  have hh5 := fun W => has_any s'.name s'.type s'.flags s'.align s'.ent s'.link s'.size (.slice dp s'.data.length dc) (.slice rp s'.rels.length rc) 512 W (by omega) (by omega) hfl
  have hmb := fun W (h : IsL 2 EGroup W v2 gs) => member_any (.slice (some ⟨b, off, none⟩) ql c0) (.slice p1 yl c1) v2 sig v4 gs ((k : Int) + 1) W h hgl hml
  have hkw : IntKind.i64.wrap ((k : Int) + 1 - 1) = (k : Int) := by rw [show (k : Int) + 1 - 1 = k by omega]; exact IntWalk.i64_in _ (by omega)
  have hke : (k : Int) + 1 - 1 = (k : Int) := by omega
  have hk3 : (0 : Int) ≤ (k : Int) := by omega
  have hlk : (k : Int) < (ql : Int) := by omega
  generalize kindS s' = qk at *
  generalize relsB yl s'.data.length s'.rels = qr at *
  generalize mayB s'.name.data.toList = qn at *
  generalize hasF s'.flags 128 = h1 at *
  generalize hasF s'.flags 512 = h5 at *
  generalize memberN gs ((k : Int) + 1) = mem at *
  generalize secOK ql yl gs k s' = res at *
  generalize s'.data.length = dl at *
  generalize s'.rels.length = rl at *
  have HKD := Lib.hid hkd
  have HRL := Lib.hid hrl
  have HH1 := Lib.hid hh1
  have HH5 := Lib.hid hh5
  have HMB := Lib.hid hmb
  have HDX := Lib.hid hdx
  have HRX := Lib.hid hrx
  have HGX := Lib.hid hgx
  clear hct hq hg hk hs0 d0 d1 d2 d3 d4 d5 d6 d7 d8 hdh hrh hkd hrl hh1 hh5 hmb hdx hrx hgx hgl hml
  go_enter Tryz.func76, Tryz.ntmps76
  go_upto_region 2 with fail
  generalize hgb : w.heap.size = gb at *
  generalize hW1 : (w.alloc (.cells #[.slice (some ⟨b, off, none⟩) ql c0, .slice p1 yl c1, v2, .bool sig, v4] 27)).alloc (.cells #[.string s'.name, .int .i64 s'.type, .int .i64 s'.flags, .int .i64 s'.align, .int .i64 s'.ent, .int .i64 s'.link, .int .i64 s'.size, .slice dp dl dc, .slice rp rl rc] 89) = W1 at *
  clear f0 f1 f2 f3 f4 f5 f6 f7 f8
  go_wp2_with fail
  refine (HN.out _).mono ?_
  rintro e w2 ⟨rfl, rfl⟩
  go_wp2_with fail
  refine (HKD.out _ HDX.out).mono ?_
  rintro e w3 ⟨rfl, hb3⟩
  have xa0 := cell_later hb3 a0
  have xa1 := cell_later hb3 a1
  have xa2 := cell_later hb3 a2
  have xa3 := cell_later hb3 a3
  have xa4 := cell_later hb3 a4
  have xg0 := cell_later hb3 g0
  have xg1 := cell_later hb3 g1
  have xg2 := cell_later hb3 g2
  have xg3 := cell_later hb3 g3
  have xg4 := cell_later hb3 g4
  have xg5 := cell_later hb3 g5
  have xg6 := cell_later hb3 g6
  have xg7 := cell_later hb3 g7
  have xg8 := cell_later hb3 g8
  go_wp2_with fail
  refine (HRL.out _ (HRX.out.below ERel.keeps hb3)).mono ?_
  rintro e w4 ⟨rfl, hx4⟩
  have hb4 := hb3.trans (hx4.mono hb3.size)
  clear hx4
  clear xa0 xa1 xa2 xa3 xa4 xg0 xg1 xg2 xg3 xg4 xg5 xg6 xg7 xg8
  have ya0 := cell_later hb4 a0
  have ya1 := cell_later hb4 a1
  have ya2 := cell_later hb4 a2
  have ya3 := cell_later hb4 a3
  have ya4 := cell_later hb4 a4
  have yg0 := cell_later hb4 g0
  have yg1 := cell_later hb4 g1
  have yg2 := cell_later hb4 g2
  have yg3 := cell_later hb4 g3
  have yg4 := cell_later hb4 g4
  have yg5 := cell_later hb4 g5
  have yg6 := cell_later hb4 g6
  have yg7 := cell_later hb4 g7
  have yg8 := cell_later hb4 g8
  obtain ⟨k1, hk11⟩ : ∃ c, c = (!qn || !qk || !qr) := ⟨_, rfl⟩
  rw [← hk11] at HK
  have hby : Below gb w w4 := hbx.trans (hb4.mono (by rw [← hgb]; exact hbx.size))
  go_upto_region 5 with fail
  go_cut [35] (fun s35 wx => s35 = .bool k1 ∧ wx = w4)
  case first =>
    subst hk11
    cases qn
    · go_wp2_with fail
      go_meet
      exact ⟨rfl, rfl⟩
    cases qk
    · go_wp2_with fail
      go_meet
      exact ⟨rfl, rfl⟩
    cases qr
    all_goals
      go_wp2_with fail
      go_meet
      exact ⟨rfl, rfl⟩
  case rest =>
  obtain ⟨rfl, rfl⟩ := hcut
  clear hk11
  cases k1
  case true =>
    go_wp2_with fail
    go_ret
    subst hgb
    exact ⟨by rw [HK.out]; rfl, hby⟩
  go_wp2_with fail
  refine (HH1.out _).mono ?_
  rintro e w5 ⟨rfl, hx5⟩
  have hb5 := hb4.trans (hx5.mono hb4.size)
  have hby5 := hby.trans (hx5.mono (by rw [← hgb]; exact hby.size))
  clear hx5 hb4 hby
  clear ya0 ya1 ya2 ya3 ya4 yg0 yg1 yg2 yg3 yg4 yg5 yg6 yg7 yg8
  have za0 := cell_later hb5 a0
  have za1 := cell_later hb5 a1
  have za2 := cell_later hb5 a2
  have za3 := cell_later hb5 a3
  have za4 := cell_later hb5 a4
  have zg0 := cell_later hb5 g0
  have zg1 := cell_later hb5 g1
  have zg2 := cell_later hb5 g2
  have zg3 := cell_later hb5 g3
  have zg4 := cell_later hb5 g4
  have zg5 := cell_later hb5 g5
  have zg6 := cell_later hb5 g6
  have zg7 := cell_later hb5 g7
  have zg8 := cell_later hb5 g8
  obtain ⟨k2, hk22⟩ : ∃ c, c = ((h1 && (decide (s'.link < 1) || decide ((ql : Int) < s'.link) || (s'.link == (k : Int) + 1))) || (!h1 && (s'.link != 0))) := ⟨_, rfl⟩
  rw [← hk22] at HK
  go_upto_region 8 with fail
  go_cut [66] (fun s66 wx => s66 = .bool k2 ∧ wx = w5)
  case first =>
    cases h1
    · cases t1 : (s'.link != 0)
      all_goals
        rw [t1] at hk22
        subst hk22
        go_wp2_with fail
        go_meet
        exact ⟨rfl, rfl⟩
    cases t1 : decide (s'.link < 1)
    · cases t2 : decide ((ql : Int) < s'.link)
      · cases t3 : (s'.link == (k : Int) + 1)
        · rw [t1, t2, t3] at hk22
          subst hk22
          go_wp2_with fail
          go_meet
          exact ⟨rfl, rfl⟩
        · rw [t1, t2, t3] at hk22
          subst hk22
          go_wp2_with fail
          go_meet
          exact ⟨rfl, rfl⟩
      · rw [t1, t2] at hk22
        subst hk22
        go_wp2_with fail
        go_meet
        exact ⟨rfl, rfl⟩
    · rw [t1] at hk22
      subst hk22
      go_wp2_with fail
      go_meet
      exact ⟨rfl, rfl⟩
  case rest =>
  obtain ⟨rfl, rfl⟩ := hcut
  clear hk22
  cases k2
  case true =>
    go_wp2_with fail
    go_ret
    subst hgb
    exact ⟨by rw [HK.out]; rfl, hby5⟩
  go_wp2_with fail
  refine (HH5.out _).mono ?_
  rintro e w6 ⟨rfl, hx6⟩
  have hb6 := hb5.trans (hx6.mono hb5.size)
  have hby6 := hby5.trans (hx6.mono (by rw [← hgb]; exact hby5.size))
  clear hx6 hb5 hby5
  clear za0 za1 za2 za3 za4 zg0 zg1 zg2 zg3 zg4 zg5 zg6 zg7 zg8
  have ua0 := cell_later hb6 a0
  have ua1 := cell_later hb6 a1
  have ua2 := cell_later hb6 a2
  have ua3 := cell_later hb6 a3
  have ua4 := cell_later hb6 a4
  have ug0 := cell_later hb6 g0
  have ug1 := cell_later hb6 g1
  have ug2 := cell_later hb6 g2
  have ug3 := cell_later hb6 g3
  have ug4 := cell_later hb6 g4
  have ug5 := cell_later hb6 g5
  have ug6 := cell_later hb6 g6
  have ug7 := cell_later hb6 g7
  have ug8 := cell_later hb6 g8
  go_wp2_with fail
  refine (HMB.out _ (HGX.out.below EGroup.keeps hb6)).mono ?_
  rintro e w7 ⟨rfl, hx7⟩
  have hby7 := hby6.trans (hx7.mono (by rw [← hgb]; exact hby6.size))
  clear hx7 hb6 hby6
  clear ua0 ua1 ua2 ua3 ua4 ug0 ug1 ug2 ug3 ug4 ug5 ug6 ug7 ug8
  cases t1 : ((mem : Int) == 0)
  · cases t2 : ((mem : Int) == 1)
    · rw [t1, t2] at HK
      go_wp2_with fail
      go_ret
      subst hgb
      exact ⟨by rw [HK.out]; rfl, hby7⟩
    · cases h5
      all_goals
        rw [t1, t2] at HK
        go_wp2_with fail
        go_ret
        subst hgb
        exact ⟨by rw [HK.out]; rfl, hby7⟩
  · have t2 : ((mem : Int) == 1) = false := by simp at t1 ⊢; omega
    cases h5
    all_goals
      rw [t1, t2] at HK
      go_wp2_with fail
      go_ret
      subst hgb
      exact ⟨by rw [HK.out]; rfl, hby7⟩

end Go.Proofs.YthnkehdcolnegaaGreat
