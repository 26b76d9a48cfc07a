/-
  Parts of a proof.
-/
import Derived.Test.YteopgmieindojaaGreatGW32
import Derived.Deep.QuietTactic
import Derived.BigQuiet
import Derived.Deep.DeepCutAuto
import Derived.Test.YteopgmieindojaaGreatGW02
import Derived.Test.YteopgmieindojaaGreatGW22
import Derived.Test.YteopgmieindojaaGreatGW27
import Derived.Test.YteopgmieindojaaGreatGW03
import Derived.Test.YteopgmieindojaaGreatChecked
import Derived.LoopTactic
import Derived.Lib.Hide
import Derived.Outline
import Derived.Test.YteopgmieindojaaGreatMem
namespace Go.Proofs.YteopgmieindojaaGreat
open Go.RowKit
def smallSec (s : SecD) : Prop := s.data.length ≤ 20000 ∧ s.rels.length ≤ 80
theorem all_take_succ {α : Type} {P : α → Prop} {l : List α} {i : Nat} {x : α} (h : ∀ y ∈ l.take i, P y) (hx : l[i]? = some x) (hp : P x) : ∀ y ∈ l.take (i + 1), P y := fun y hy => by
 rw [List.take_add_one, hx] at hy
 rcases List.mem_append.1 hy with hy | hy
 ·exact h y hy
 ·simp at hy
  subst hy
  exact hp
set_option maxRecDepth 100000 in
set_option maxHeartbeats 4000000 in
theorem small_any (o : ObjD) (v0 v1 v2 v4 : Value) (w : World) (hp : ObjParts w v0 v1 v2 v4 o) :
  Calls Tryz.prog 9 #[objV v0 v1 v2 o.hasSig v4] w fun e w' => (∃ r : Int, e = .returned (.int .i64 r) ∧ (r = 0 ∨ (r = 1 ∧ SmallD o))) ∧ Below w.heap.size w w' := by
 obtain ⟨hp0, hp1, hp2, hp4⟩ := hp
 obtain ⟨p0, c0, rfl, q01, q02, _, hqh⟩ := hp0
 obtain ⟨p1, c1, rfl, y01, y02, _, hyh⟩ := hp1
 obtain ⟨p2, c2, rfl, g01, g02, _, hgh⟩ := hp2
 obtain ⟨p4, c4, rfl, x01, x02, _, hxh⟩ := hp4
 have hb1 : Below w.heap.size w (w.alloc (.cells #[.slice p0 o.secs.length c0, .slice p1 o.syms.length c1, .slice p2 o.groups.length c2, .bool o.hasSig, .slice p4 o.sig.length c4] 27)) := (Below.refl _ w).alloc (Nat.le_refl _) _
 have hx1 := heap_alloc_new w (.cells #[.slice p0 o.secs.length c0, .slice p1 o.syms.length c1, .slice p2 o.groups.length c2, .bool o.hasSig, .slice p4 o.sig.length c4] 27)
 have hqm := Nat.le_trans q01 q02
 have hym := Nat.le_trans y01 y02
 have hgm := Nat.le_trans g01 g02
 have hxm := Nat.le_trans x01 x02
 have HQ := Lib.hid (hqh.below ESec.keeps hb1)
 have HG := Lib.hid (hgh.below EGroup.keeps hb1)
 unfold maxLen at hqm hym hgm hxm
 clear hqh hyh hgh hxh q01 q02 y01 y02 g01 g02 x01 x02
 have hend : o.secs.length ≤ 40 → o.syms.length ≤ 140 → o.groups.length ≤ 40 → o.sig.length ≤ 200 → (∀ s ∈ o.secs.take o.secs.length, smallSec s) → (∀ g ∈ o.groups.take o.groups.length, g.members.length ≤ 50) → SmallD o := fun a b c d e f => by
  rw [List.take_length] at e f
  exact ⟨a, b, c, by omega, e, f⟩
 have HE := Lib.hid hend
 clear hend
 generalize hql : o.secs.length = ql at *
 generalize hyl : o.syms.length = yl at *
 generalize hgln : o.groups.length = gl at *
 generalize hxl : o.sig.length = xl at *
 generalize o.hasSig = sg at *
 have HQL := Lib.hid hql
 have HGL := Lib.hid hgln
 clear hql hyl hgln hxl
 go_enter Tryz.func9, Tryz.ntmps9
 go_upto_region 1 with fail
 generalize w.alloc (.cells #[.slice p0 ql c0, .slice p1 yl c1, .slice p2 gl c2, .bool sg, .slice p4 xl c4] 27) = W1 at *
 obtain ⟨⟨a0, a1, a2, a3, a4⟩, _⟩ := cells5 _ _ _ _ _ _ _ _ hx1
 clear hx1
 have hbs := hb1.size
 generalize hgb : w.heap.size = gb at *
 go_cut [27] (fun s27 wx => ∃ c, s27 = .bool c ∧ (c = false → ql ≤ 40 ∧ yl ≤ 140 ∧ gl ≤ 40 ∧ xl ≤ 200) ∧ W1 = wx)
 case first =>
  by_cases t1 : 40 < ql
  ·have t1d : decide ((40 : Int) < (ql : Int)) = true := decide_eq_true (by omega)
   go_wp2_with fail
   go_meet
   exact ⟨true, rfl, (fun h => by cases h), rfl⟩
  have t1d : decide ((40 : Int) < (ql : Int)) = false := decide_eq_false (by omega)
  by_cases t2 : 140 < yl
  ·have t2d : decide ((140 : Int) < (yl : Int)) = true := decide_eq_true (by omega)
   go_wp2_with fail
   go_meet
   exact ⟨true, rfl, (fun h => by cases h), rfl⟩
  have t2d : decide ((140 : Int) < (yl : Int)) = false := decide_eq_false (by omega)
  by_cases t3 : 40 < gl
  ·have t3d : decide ((40 : Int) < (gl : Int)) = true := decide_eq_true (by omega)
   go_wp2_with fail
   go_meet
   exact ⟨true, rfl, (fun h => by cases h), rfl⟩
  have t3d : decide ((40 : Int) < (gl : Int)) = false := decide_eq_false (by omega)
  by_cases t4 : 200 < xl
  ·have t4d : decide ((200 : Int) < (xl : Int)) = true := decide_eq_true (by omega)
   go_wp2_with fail
   go_meet
   exact ⟨true, rfl, (fun h => by cases h), rfl⟩
  have t4d : decide ((200 : Int) < (xl : Int)) = false := decide_eq_false (by omega)
  go_wp2_with fail
  go_meet
  exact ⟨false, rfl, (fun _ => by omega), rfl⟩
 case rest =>
 obtain ⟨c, rfl, hc, rfl⟩ := hcut
 cases c with
 | true =>
  go_wp2_with fail
  go_ret
  subst hgb
  exact ⟨⟨0, rfl, .inl rfl⟩, hb1⟩
 | false =>
  obtain ⟨m1, m2, m3, m4⟩ := hc rfl
  have HE2 := Lib.hid (HE.out m1 m2 m3 m4)
  clear hc HE
  go_wp2_with fail
  go_loopw [3, 4] (fun r3 r4 wr => ∃ (i : Nat) (n : Nat), i ≤ ql ∧ r4 = .int .i64 (i : Int) ∧ r3 = .int .i64 (n : Int) ∧ n ≤ 20000 * i ∧ (∀ s ∈ o.secs.take i, smallSec s) ∧ W1 = wr) (fun _ r4 _ => ql - (intOf r4).toNat)
  case atStart => exact ⟨0, 0, Nat.zero_le _, rfl, rfl, Nat.zero_le _, (fun _ h => by simp at h), rfl⟩
  case round =>
   obtain ⟨i, n, hi, rfl, rfl, hn, hall, rfl⟩ := hrel
   have HALL := Lib.hid hall
   clear hall
   by_cases hlt : i < ql
   ·obtain ⟨b, off, s, rfl, hs, ⟨_, _, _, _, _, _, _, ⟨v7, e7, q7, d7, rfl, h71, h72, _⟩, ⟨v8, e8, q8, d8, rfl, h81, h82, _⟩⟩⟩ := HQ.out.at_ (i := i) (by rw [HQL.out]; exact hlt)
    have HN := Lib.hid fun (h : smallSec s) => all_take_succ HALL.out hs h
    have hsd : smallSec s = (s.data.length ≤ 20000 ∧ s.rels.length ≤ 80) := rfl
    rw [hsd] at HN
    have hJ : (i : Int) < (ql : Int) := by omega
    have hJ0 : (0 : Int) ≤ (i : Int) := by omega
    clear hs hsd
    generalize s.data.length = dl at *
    generalize s.rels.length = rl at *
    unfold maxLen at h72 h82
    by_cases t1 : 20000 < dl
    ·have t1d : decide ((20000 : Int) < (dl : Int)) = true := decide_eq_true (by omega)
     go_wp2_with fail
     go_ret
     subst hgb
     exact ⟨⟨0, rfl, .inl rfl⟩, hb1⟩
    have t1d : decide ((20000 : Int) < (dl : Int)) = false := decide_eq_false (by omega)
    by_cases t2 : 80 < rl
    ·have t2d : decide ((80 : Int) < (rl : Int)) = true := decide_eq_true (by omega)
     go_wp2_with fail
     go_ret
     subst hgb
     exact ⟨⟨0, rfl, .inl rfl⟩, hb1⟩
    have t2d : decide ((80 : Int) < (rl : Int)) = false := decide_eq_false (by omega)
    have HN2 := Lib.hid (HN.out ⟨by omega, by omega⟩)
    go_wp2_with fail
    go_roundw
    case rel => exact ⟨i + 1, n + dl, hlt, by go_num, by go_num, by omega, HN2.out, by trivial⟩
    case measure => simp [intOf]; omega
   ·have hJ : ¬ (i : Int) < (ql : Int) := by omega
    obtain rfl : i = ql := by omega
    have HE3 := Lib.hid (HE2.out HALL.out)
    clear HE2 HALL HQ
    go_wp2_with fail
    go_loopw [5] (fun r5 wr => ∃ (k : Nat), k ≤ gl ∧ r5 = .int .i64 (k : Int) ∧ (∀ g ∈ o.groups.take k, g.members.length ≤ 50) ∧ W1 = wr) (fun r5 _ => gl - (intOf r5).toNat)
    case atStart => exact ⟨0, Nat.zero_le _, rfl, (fun _ h => by simp at h), rfl⟩
    case round =>
     obtain ⟨k, hk, rfl, hall, rfl⟩ := hrel
     have HALL := Lib.hid hall
     clear hall
     by_cases hlt : k < gl
     ·obtain ⟨b, off, g, rfl, hg, ⟨_, v7, e7, q7, d7, rfl, h71, h72, _⟩⟩ := HG.out.at_ (i := k) (by rw [HGL.out]; exact hlt)
      have HN := Lib.hid fun (h : g.members.length ≤ 50) => all_take_succ HALL.out hg h
      have hJ : (k : Int) < (gl : Int) := by omega
      have hJ0 : (0 : Int) ≤ (k : Int) := by omega
      clear hg
      generalize g.members.length = ml at *
      unfold maxLen at h72
      by_cases t1 : 50 < ml
      ·have t1d : decide ((50 : Int) < (ml : Int)) = true := decide_eq_true (by omega)
       have t1e : (50 : Int) < (ml : Int) := by omega
       go_wp2_with fail
       go_ret
       subst hgb
       exact ⟨⟨0, rfl, .inl rfl⟩, hb1⟩
      have t1d : decide ((50 : Int) < (ml : Int)) = false := decide_eq_false (by omega)
      have t1e : ¬ (50 : Int) < (ml : Int) := by omega
      have HN2 := Lib.hid (HN.out (by omega))
      go_wp2_with fail
      go_roundw
      case rel => exact ⟨k + 1, hlt, by go_num, HN2.out, by trivial⟩
      case measure => simp [intOf]; omega
     ·have hJ : ¬ (k : Int) < (gl : Int) := by omega
      obtain rfl : k = gl := by omega
      have HE4 := Lib.hid (HE3.out HALL.out)
      by_cases t1 : 40000 < n
      ·have t1e : (40000 : Int) < (n : Int) := by omega
       go_wp2_with fail
       go_ret
       subst hgb
       exact ⟨⟨0, rfl, .inl rfl⟩, hb1⟩
      ·have t1e : ¬ (40000 : Int) < (n : Int) := by omega
       go_wp2_with fail
       go_ret
       subst hgb
       exact ⟨⟨1, rfl, .inr ⟨rfl, HE4.out⟩⟩, hb1⟩
end Go.Proofs.YteopgmieindojaaGreat

namespace Go.Proofs.YteopgmieindojaaGreat
open Go.RowKit
set_option maxRecDepth 100000 in
set_option maxHeartbeats 4000000 in
theorem few_any (p : Option Addr) (c : Nat) (l : List ObjD) (w : World) (h : HasL 5 EObj w p l) (hln : l.length ≤ maxLen) :
  Calls Tryz.prog 18 #[.slice p l.length c] w fun e w' => (∃ r : Int, e = .returned (.int .i64 r) ∧ (r = 0 ∨ (r = 1 ∧ l.length ≤ 10 ∧ ∀ o ∈ l, SmallD o))) ∧ Below w.heap.size w w' := by
 have hb0 : Below w.heap.size w w := Below.refl _ w
 have HH := Lib.hid fun W (hW : Below w.heap.size w W) => h.below EObj.keeps hW
 have HE : Hid (∀ n, n = l.length → n ≤ 10 → (∀ o ∈ l.take n, SmallD o) → l.length ≤ 10 ∧ ∀ o ∈ l, SmallD o) := Lib.hid fun n hn h1 h2 => by
  subst hn
  rw [List.take_length] at h2
  exact ⟨h1, h2⟩
 have hnf := hln
 unfold maxLen at hnf
 obtain ⟨ln, hL⟩ : ∃ ln, ln = l.length := ⟨_, rfl⟩
 have HLN := Lib.hid hL
 rw [← hL] at hnf ⊢
 clear h hln hL
 have HB0 := Lib.hid hb0
 clear hb0
 go_enter Tryz.func18, Tryz.ntmps18
 by_cases h10 : 10 < ln
 ·have hI : (10 : Int) < (ln : Int) := by omega
  go_wp2_with fail
  go_ret
  exact ⟨⟨0, rfl, .inl rfl⟩, HB0.out⟩
 have hI : ¬ (10 : Int) < (ln : Int) := by omega
 generalize hgb : w.heap.size = gb at *
 have HGB := Lib.hid hgb
 clear hgb
 go_wp2_with fail
 go_loopw [3, 4] (fun r3 r4 wr => ∃ i n : Nat, i ≤ ln ∧ r4 = .int .i64 (i : Int) ∧ r3 = .int .i64 (n : Int) ∧ n ≤ 1000000 * i ∧ (∀ o ∈ l.take i, SmallD o) ∧ Below gb w wr) (fun _ r4 _ => ln - (intOf r4).toNat)
 case atStart => exact ⟨0, 0, Nat.zero_le _, rfl, rfl, Nat.zero_le _, (fun _ h => by simp at h), HB0.out⟩
 case round =>
  obtain ⟨i, n, hi, rfl, rfl, hn, hall, hb⟩ := hrel
  have HALL := Lib.hid hall
  have HB := Lib.hid hb
  clear hall hb
  by_cases hlt : i < ln
  ·obtain ⟨b, off, o, hpe, ho, v0, v1, v2, v4, e0, e1, e2, e3, e4, hpt⟩ := (HH.out wr HB.out).at_ (i := i) (by rw [← HLN.out]; exact hlt)
   subst hpe
   have HN := Lib.hid fun (h : SmallD o) => all_take_succ HALL.out ho h
   have hcall := small_any o v0 v1 v2 v4 wr hpt
   unfold objV at hcall
   obtain ⟨p0, c0, rfl, _⟩ := hpt.1
   obtain ⟨p1, c1, rfl, _⟩ := hpt.2.1
   obtain ⟨p2, c2, rfl, _⟩ := hpt.2.2.1
   obtain ⟨p4, c4, rfl, _⟩ := hpt.2.2.2
   have HC := Lib.hid hcall
   have HO := Lib.hid ho
   have hJ : (i : Int) < (ln : Int) := by omega
   have hJ0 : (0 : Int) ≤ (i : Int) := by omega
   have hsz : gb ≤ wr.heap.size := by rw [← HGB.out]; exact HB.out.size
   clear hpt hcall ho
   go_wp2_with fail
   refine HC.out.mono ?_
   rintro e w2 ⟨⟨r, rfl, hr⟩, hb2⟩
   have HB2 := Lib.hid (HB.out.trans (hb2.mono hsz))
   have u0 := cell_later hb2 e0
   rcases hr with rfl | ⟨rfl, hs⟩
   ·clear e0 e1 e2 e3 e4 hb2 HC u0
    go_wp2_with fail
    go_ret
    exact ⟨⟨0, rfl, .inl rfl⟩, by first | exact HB2.out | (rw [HGB.out]; exact HB2.out)⟩
   ·have HN2 := Lib.hid (HN.out hs)
    have HS := Lib.hid hs
    have hqn := hs.secs
    clear e0 e1 e2 e3 e4 hb2 HC HN hs
    generalize hq : o.secs.length = qn at *
    have HQ := Lib.hid hq
    clear hq
    go_wp2_with fail
    go_loopw [3, 5] (fun r3 r5 wr => ∃ k m : Nat, k ≤ qn ∧ r5 = .int .i64 (k : Int) ∧ r3 = .int .i64 (m : Int) ∧ m ≤ 1000000 * i + 20000 * k ∧ wr = w2) (fun _ r5 _ => qn - (intOf r5).toNat)
    case atStart => exact ⟨0, n, Nat.zero_le _, rfl, rfl, by omega, rfl⟩
    case round =>
     obtain ⟨k, m, hk, rfl, rfl, hm, rfl⟩ := hrel
     by_cases hlt2 : k < qn
     ·obtain ⟨b', off', o', hpe, ho', v0', v1', v2', v4', e0', _, _, _, _, hpt'⟩ := (HH.out wr (by first | exact HB2.out | (rw [HGB.out]; exact HB2.out))).at_ (i := i) (by rw [← HLN.out]; exact hlt)
      cases hpe
      obtain rfl : o' = o := by rw [HO.out] at ho'; cases ho'; rfl
      rw [u0] at e0'
      cases e0'
      obtain ⟨p0', c0', e, q1, q2, _, hqh⟩ := hpt'.1
      rw [HQ.out] at e
      cases e
      obtain ⟨b1, off1, s, hpe1, hs, ⟨_, _, _, _, _, _, _, ⟨v7, f7, q7, d7, rfl, h71, h72, _⟩, _⟩⟩ := hqh.at_ (i := k) (by rw [HQ.out]; exact hlt2)
      subst hpe1
      have hdl := (HS.out.data s (List.mem_of_getElem? hs)).1
      generalize s.data.length = dl at *
      have hK : (k : Int) < (qn : Int) := by omega
      have hK0 : (0 : Int) ≤ (k : Int) := by omega
      clear hpt' hqh hs ho'
      go_wp2_with fail
      go_roundw
      case rel => exact ⟨k + 1, m + dl, hlt2, by go_num, by go_num, by omega, by trivial⟩
      case measure => simp [intOf]; omega
     ·have hK : ¬ (k : Int) < (qn : Int) := by omega
      go_wp2_with fail
      go_roundw
      case rel => exact ⟨i + 1, m, hlt, by go_num, rfl, by omega, HN2.out, HB2.out⟩
      case measure => simp [intOf]; omega
  ·obtain rfl : i = ln := by omega
   have hJ : ¬ (i : Int) < (i : Int) := by omega
   have hE := Lib.hid (HE.out i HLN.out (by omega) HALL.out)
   by_cases hn2 : 12000 < n
   ·have hI2 : (12000 : Int) < (n : Int) := by omega
    go_wp2_with fail
    go_ret
    exact ⟨⟨0, rfl, .inl rfl⟩, by first | exact HB.out | (rw [HGB.out]; exact HB.out)⟩
   ·have hI2 : ¬ (12000 : Int) < (n : Int) := by omega
    go_wp2_with fail
    go_ret
    exact ⟨⟨1, rfl, .inr ⟨rfl, by omega, hE.out.2⟩⟩, by first | exact HB.out | (rw [HGB.out]; exact HB.out)⟩
end Go.Proofs.YteopgmieindojaaGreat

namespace Go.Proofs.YteopgmieindojaaGreat
open Go.RowKit
set_option maxRecDepth 100000 in
set_option maxHeartbeats 4000000 in
theorem nmay_any (p : Option Addr) (c : Nat) (l : List ObjD) (w : World) (h : HasL 5 EObj w p l) (f : ObjD → Bool)
  (hmay : ∀ o ∈ l, ∀ W (v0 v1 v2 v4 : Value), ObjParts W v0 v1 v2 v4 o → Calls Tryz.prog 12 #[.agg #[v0, v1, v2, .bool o.hasSig, v4]] W fun e w' => e = .returned (.bool (f o)) ∧ Below W.heap.size W w') :
  Calls Tryz.prog 52 #[.slice p l.length c] w fun e w' => e = .returned (.bool (decide (l.length ≤ 8) && l.all f)) ∧ Below w.heap.size w w' := by
 obtain ⟨r, hr⟩ : ∃ r, r = (decide (l.length ≤ 8) && l.all f) := ⟨_, rfl⟩
 rw [← hr]
 have HR := Lib.hid hr
 have HH := Lib.hid fun W (hW : Below w.heap.size w W) => h.below EObj.keeps hW
 have HM := Lib.hid hmay
 generalize hln : l.length = ln at *
 have HLN := Lib.hid hln
 clear h hmay hr hln
 by_cases h8 : ln ≤ 8
 ·have h8i : ¬ (8 : Int) < (ln : Int) := by omega
  have hr1 : r = l.all f := by rw [HR.out, decide_eq_true h8, Bool.true_and]
  have HR1 := Lib.hid hr1
  clear hr1 HR
  go_enter Tryz.func52, Tryz.ntmps52
  generalize hgb : w.heap.size = gb at *
  have HGB := Lib.hid hgb
  clear hgb
  have hb0 : Below gb w w := by rw [← HGB.out]; exact Below.refl _ w
  go_wp2_with fail
  go_loopw [10] (fun r10 wr => ∃ i : Nat, i ≤ ln ∧ r10 = .int .i64 (i : Int) ∧ (l.take i).all f = true ∧ Below gb w wr) (fun r10 _ => ln - (intOf r10).toNat)
  case atStart => exact ⟨0, Nat.zero_le _, rfl, rfl, hb0⟩
  case round =>
   obtain ⟨i, hi, rfl, hall, hb⟩ := hrel
   have HALL := Lib.hid hall
   clear hall
   by_cases hlt : i < ln
   ·obtain ⟨o, ho⟩ : ∃ o, l[i]? = some o := ⟨_, List.getElem?_eq_getElem (by rw [HLN.out]; exact hlt)⟩
    obtain ⟨b, off, hpe, v0, v1, v2, v4, e0, e1, e2, e3, e4, i0, i1, i2, i4⟩ := HH.out wr hb i o ho
    subst hpe
    have hpt : ObjParts wr v0 v1 v2 v4 o := ⟨i0, i1, i2, i4⟩
    have hpt2 := hpt.below ((Below.refl _ wr).alloc (Nat.le_refl _) (.cells #[v0, v1, v2, .bool o.hasSig, v4] 27))
    have hcall := HM.out o (List.mem_of_getElem? ho) _ _ _ _ _ hpt2
    obtain ⟨p0, c0, rfl, _⟩ := i0
    obtain ⟨p1, c1, rfl, _⟩ := i1
    obtain ⟨p2, c2, rfl, _⟩ := i2
    obtain ⟨p4, c4, rfl, _⟩ := i4
    have hst : (l.take (i + 1)).all f = f o := by rw [take_snocN ho, List.all_append, HALL.out]; simp
    have hmm : o ∈ l := List.mem_of_getElem? ho
    obtain ⟨fo, hfo⟩ : ∃ fo, fo = f o := ⟨_, rfl⟩
    rw [← hfo] at hcall hst
    have HFO := Lib.hid (And.intro hmm hfo)
    have HST := Lib.hid hst
    have hI : (i : Int) < (ln : Int) := by omega
    have hI0 : (0 : Int) ≤ (i : Int) := by omega
    have hI1 : ¬ (ln : Int) ≤ (i : Int) := by omega
    have hgbs : gb ≤ wr.heap.size := by rw [← HGB.out]; exact hb.size
    have hb2 : Below gb w (wr.alloc (.cells #[.slice p0 o.secs.length c0, .slice p1 o.syms.length c1, .slice p2 o.groups.length c2, .bool o.hasSig, .slice p4 o.sig.length c4] 27)) := hb.alloc hgbs _
    obtain ⟨⟨u0, u1, u2, u3, u4'⟩, _⟩ := cells5 _ _ _ _ _ _ _ _ (heap_alloc_new wr (.cells #[.slice p0 o.secs.length c0, .slice p1 o.syms.length c1, .slice p2 o.groups.length c2, .bool o.hasSig, .slice p4 o.sig.length c4] 27))
    have HC := Lib.hid hcall
    clear ho hmm hfo hst hpt hpt2 hcall
    go_upto_region 6 with fail
    generalize wr.alloc (.cells #[.slice p0 o.secs.length c0, .slice p1 o.syms.length c1, .slice p2 o.groups.length c2, .bool o.hasSig, .slice p4 o.sig.length c4] 27) = ws at *
    generalize wr.heap.size = go at *
    clear e0 e1 e2 e3 e4 hb
    go_wp2_with fail
    refine HC.out.mono ?_
    rintro e w2 ⟨rfl, hb3⟩
    have hb4 : Below gb w w2 := hb2.trans (hb3.mono (by have := HGB.out; have := hb2.size; omega))
    clear hb3 hb2 u0 u1 u2 u3 u4'
    cases fo with
    | true =>
     go_wp2_with fail
     go_roundw
     case rel => exact ⟨i + 1, hlt, by go_num, HST.out, hb4⟩
     case measure => simp [intOf]; omega
    | false =>
     have hE : Hid (r = false) := Lib.hid (by rw [HR1.out, List.all_eq_false]; exact ⟨o, HFO.out.1, by rw [← HFO.out.2]; simp⟩)
     go_wp2_with fail
     go_ret
     rw [hE.out]
     exact ⟨rfl, by first | exact hb4 | (rw [HGB.out]; exact hb4)⟩
   ·obtain rfl : i = ln := by omega
    have hI : ¬ (i : Int) < (i : Int) := by omega
    have hE : Hid (r = true) := Lib.hid (by rw [HR1.out]; have := HALL.out; rwa [List.take_of_length_le (by rw [HLN.out]; exact Nat.le_refl _)] at this)
    go_wp2_with fail
    go_ret
    rw [hE.out]
    exact ⟨rfl, by first | exact hb | (rw [HGB.out]; exact hb)⟩
 ·have h8i : (8 : Int) < (ln : Int) := by omega
  have hE : Hid (r = false) := Lib.hid (by rw [HR.out, decide_eq_false h8]; rfl)
  go_enter Tryz.func52, Tryz.ntmps52
  go_wp2_with fail
  go_ret
  rw [hE.out]
  exact ⟨rfl, Below.refl _ _⟩
end Go.Proofs.YteopgmieindojaaGreat

namespace Go.Proofs.YteopgmieindojaaGreat
open Go.RowKit
end Go.Proofs.YteopgmieindojaaGreat

namespace Go.Proofs.YteopgmieindojaaGreat
open Go.RowKit
end Go.Proofs.YteopgmieindojaaGreat

namespace Go.Proofs.YteopgmieindojaaGreat
open Go.RowKit
end Go.Proofs.YteopgmieindojaaGreat
