/-
  Contract of the project's own maySyms.
  Contract of the project's own mayGroups.
-/
import Derived.Test.YtenmcmnhiejbgaaGreatJg24
import Derived.Test.YtenmcmnhiejbgaaGreatJg25
import Derived.Test.YtenmcmnhiejbgaaGreatJg04
namespace Go.Proofs.YtenmcmnhiejbgaaGreat
open Go.RowKit

def symsGoO (secs : List SecD) : Bool → List SymD → Bool
  | _, [] => true
  | locals, s :: t => bif (s.bind == 0) && !locals then false else symO s && (valO secs s && symsGoO secs (s.bind == 0) t)
def sym0O (syms : List SymD) : Bool := match syms[0]? with
  | none => false
  | some s => sym0B s
def symsO (secs : List SecD) (syms : List SymD) : Bool := bif decide (128 < syms.length) then false else sym0O syms && symsGoO secs true (syms.drop 1)
set_option maxRecDepth 100000 in
set_option maxHeartbeats 4000000 in
theorem ownMaySyms_any (v2 v4 : Value) (hs : Bool) (p0 p1 : Option Addr) (c0 c1 : Nat) (secs : List SecD) (syms : List SymD) (w : World) (hq : HasL 9 ESec w p0 secs) (hy : HasL 6 ESym w p1 syms) (hql : secs.length ≤ 1000000) (hyc : syms.length ≤ c1) :
    Calls Tryz.prog 51 #[objV (.slice p0 secs.length c0) (.slice p1 syms.length c1) v2 hs v4] w fun e w' => e = .returned (.bool (symsO secs syms)) ∧ Below w.heap.size w w' := by
  have hb1 : Below w.heap.size w (w.alloc (.cells #[.slice p0 secs.length c0, .slice p1 syms.length c1, v2, .bool hs, v4] 27)) := (Below.refl _ w).alloc (Nat.le_refl _) _
  have a0 : (w.alloc (.cells #[.slice p0 secs.length c0, .slice p1 syms.length c1, v2, .bool hs, v4] 27)).cell? ⟨w.heap.size, 0, none⟩ = some (.slice p0 secs.length c0) := by simp
  have a1 : (w.alloc (.cells #[.slice p0 secs.length c0, .slice p1 syms.length c1, v2, .bool hs, v4] 27)).cell? ⟨w.heap.size, 1, none⟩ = some (.slice p1 syms.length c1) := by simp
  have HQ := Lib.hid (hq.below ESec.keeps hb1)
  have HY := Lib.hid (hy.below ESym.keeps hb1)
  have HB1 := Lib.hid hb1
  have hr : symsO secs syms = bif decide (128 < syms.length) then false else sym0O syms && symsGoO secs true (syms.drop 1) := rfl
  have HV := Lib.hid fun s p0 c0 W hq => ownMayValue_any s p0 c0 secs W hq hql
  generalize symsO secs syms = res at *
  generalize hyn : syms.length = yl at *
  have HYN := Lib.hid hyn
  generalize hqn : secs.length = ql at *
  have HR := Lib.hid hr
  clear hb1 hq hy hyn hqn hr hql
  go_enter Tryz.func51, Tryz.ntmps51
  go_upto_region 1 with fail
  generalize w.alloc (.cells #[.slice p0 ql c0, .slice p1 yl c1, v2, .bool hs, v4] 27) = W1 at *
  have hbs := HB1.out.size
  by_cases h0 : yl < 1
  · have hE : Hid (res = false) := Lib.hid (by
      have hn : syms[0]? = none := List.getElem?_eq_none (by rw [HYN.out]; omega)
      rw [HR.out, decide_eq_false (show ¬ 128 < yl by omega)]
      unfold sym0O
      rw [hn]
      rfl)
    obtain rfl : yl = 0 := by omega
    clear h0
    go_wp2_with fail
    go_ret
    rw [hE.out]
    exact ⟨rfl, HB1.out⟩
  · by_cases h64 : 128 < yl
    · have hE : Hid (res = false) := Lib.hid (by rw [HR.out, decide_eq_true h64]; rfl)
      have hI0 : ¬ (yl : Int) < 1 := by omega
      have hI : (128 : Int) < (yl : Int) := by omega
      clear h64 h0
      go_wp2_with fail
      go_ret
      rw [hE.out]
      exact ⟨rfl, HB1.out⟩
    · obtain ⟨b, off, s, rfl, hs0, ⟨d0, _⟩, ⟨d1, _⟩, ⟨d2, _⟩, ⟨d3, _⟩, ⟨d4, _⟩, ⟨d5, _⟩⟩ := HY.out.at_ (i := 0) (by rw [HYN.out]; omega)
      have hE : Hid (res = (sym0B s && symsGoO secs true (syms.drop 1))) := Lib.hid (by
        rw [HR.out, decide_eq_false h64]
        unfold sym0O
        rw [hs0]
        rfl)
      have hI0 : ¬ (yl : Int) < 1 := by omega
      have hI : ¬ (128 : Int) < (yl : Int) := by omega
      have hI1 : (0 : Int) < (yl : Int) := by omega
      simp only [Nat.zero_mul, Nat.add_zero] at d0 d1 d2 d3 d4 d5
      have hrest : ∀ i x, (syms.drop 1)[i]? = some x → ESym W1 b (off + 6 + i * 6) x := fun i x hx => by
        rw [List.getElem?_drop] at hx
        obtain ⟨b', o', e, hE⟩ := HY.out (1 + i) x hx
        cases e
        rw [show off + 6 + i * 6 = off + (1 + i) * 6 by omega]
        exact hE
      have HREST := Lib.hid hrest
      obtain ⟨c, hc⟩ : ∃ c, c = sym0B s := ⟨_, rfl⟩
      have HC := Lib.hid hc
      rw [← hc] at hE
      clear HR hrest hc hs0
      go_cut [23] (fun s23 wx => s23 = .bool (!c) ∧ W1 = wx)
      case first =>
        go_wp2_with fail
        all_goals go_meet
        all_goals refine ⟨?_, by trivial⟩
        all_goals rw [HC.out]
        all_goals clear HC HREST HY HQ HB1 HV hE HYN
        all_goals simp [sym0B, *]
      case rest =>
        obtain ⟨rfl, rfl⟩ := hcut
        clear HC d0 d1 d2 d3 d4 d5
        cases c with
        | false =>
          have hE2 : Hid (res = false) := Lib.hid (by rw [hE.out]; rfl)
          go_wp2_with fail
          go_ret
          rw [hE2.out]
          exact ⟨rfl, HB1.out⟩
        | true =>
          have hE2 : Hid (res = symsGoO secs true (syms.drop 1)) := Lib.hid (by rw [hE.out]; rfl)
          have hI3 : (1 : Int) ≤ (yl : Int) := by omega
          go_upto_region 4 with fail
          go_cut [26, 27, 28] (fun s26 s27 s28 wx => ∃ (q : Option Addr) (c' : Nat), s26 = .slice q (yl - 1) c' ∧ (1 < yl → q = some ⟨b, off + 6, none⟩) ∧ s27 = .int .i64 ((yl - 1 : Nat) : Int) ∧ s28 = .int .i64 0 ∧ W1 = wx)
          case first =>
            by_cases hc1 : c1 = 1
            · subst hc1
              go_wp2_with fail
              go_meet
              exact ⟨some ⟨b, off, none⟩, 0, by rw [show yl - 1 = 0 by omega], fun h => absurd h (by omega), by rw [show yl - 1 = 0 by omega]; rfl, rfl, by trivial⟩
            · go_wp2_with fail
              go_meet
              exact ⟨_, _, rfl, fun h => rfl, rfl, rfl, by trivial⟩
          case rest =>
            obtain ⟨q, c', rfl, hq, rfl, rfl, rfl⟩ := hcut
            have HQ6 := Lib.hid hq
            clear hq
            go_wp2_with fail
            go_loopw [3, 28] (fun r3 r28 wr => ∃ (k : Nat) (lo : Bool), k ≤ yl - 1 ∧ r28 = .int .i64 (k : Int) ∧ r3 = .bool lo ∧ symsGoO secs true (syms.drop 1) = symsGoO secs lo ((syms.drop 1).drop k) ∧ Below W1.heap.size W1 wr) (fun _ r28 _ => (yl - 1) - (intOf r28).toNat)
            case atStart => exact ⟨0, true, Nat.zero_le _, rfl, rfl, rfl, Below.refl _ _⟩
            case round =>
              obtain ⟨k, lo, hk, rfl, rfl, hgo, hb⟩ := hrel
              have HGO := Lib.hid hgo
              clear hgo
              by_cases hlt : k < yl - 1
              · obtain ⟨x, hx⟩ : ∃ x, (syms.drop 1)[k]? = some x := ⟨_, List.getElem?_eq_getElem (by rw [List.length_drop, HYN.out]; exact hlt)⟩
                obtain ⟨⟨x0, _⟩, ⟨x1, _⟩, ⟨x2, _⟩, ⟨x3, _⟩, ⟨x4, _⟩, ⟨x5, _⟩⟩ := HREST.out k x hx
                obtain rfl := HQ6.out (by omega)
                have e0 := cell_later hb x0
                have e1 := cell_later hb x1
                have e2 := cell_later hb x2
                have e3 := cell_later hb x3
                have e4 := cell_later hb x4
                have e5 := cell_later hb x5
                have hdr : (syms.drop 1).drop k = x :: (syms.drop 1).drop (k + 1) := by
                  rw [List.drop_eq_getElem_cons (by rw [List.length_drop, HYN.out]; exact hlt)]
                  congr 1
                  exact (List.getElem?_eq_some_iff.1 hx).2
                have hstep : Hid (res = bif (x.bind == 0) && !lo then false else symO x && (valO secs x && symsGoO secs (x.bind == 0) ((syms.drop 1).drop (k + 1)))) := Lib.hid (by rw [hE2.out, HGO.out, hdr]; rfl)
                have hba : Below wr.heap.size wr (wr.alloc (.cells #[.string x.name, .int .i64 x.bind, .int .i64 x.type, .int .i64 x.sec, .int .i64 x.value, .int .i64 x.size] 45)) := (Below.refl _ wr).alloc (Nat.le_refl _) _
                have hha := heap_new wr (.cells #[.string x.name, .int .i64 x.bind, .int .i64 x.type, .int .i64 x.sec, .int .i64 x.value, .int .i64 x.size] 45)
                have hb2 : Below W1.heap.size W1 (wr.alloc (.cells #[.string x.name, .int .i64 x.bind, .int .i64 x.type, .int .i64 x.sec, .int .i64 x.value, .int .i64 x.size] 45)) := hb.trans (hba.mono hb.size)
                have HS := Lib.hid fun W => ownMaySym_any x W
                have hJ : (k : Int) < ((yl - 1 : Nat) : Int) := by omega
                have k2 : (0 : Int) ≤ (k : Int) := by omega
                clear hx x0 x1 x2 x3 x4 x5 hdr
                go_upto_region 7 with fail
                generalize wr.alloc (.cells #[.string x.name, .int .i64 x.bind, .int .i64 x.type, .int .i64 x.sec, .int .i64 x.value, .int .i64 x.size] 45) = ws at *
                obtain ⟨s0, s1, s2, s3, s4, s5⟩ := cells6 _ _ _ _ _ _ _ _ _ hha
                have b0 := cell_later hb2 a0
                have hbk := hb2.size
                have hfin : Below w.heap.size w ws := HB1.out.trans (hb2.mono hbs)
                clear e0 e1 e2 e3 e4 e5 hba hb hha
                obtain ⟨t, ht⟩ : ∃ t, t = (x.bind == 0) := ⟨_, rfl⟩
                have HT := Lib.hid ht
                rw [← ht] at hstep
                cases t with
                | true =>
                  have ht1 : (x.bind == 0) = true := ht.symm
                  clear ht HT
                  cases lo with
                  | false =>
                    have hE3 : Hid (res = false) := Lib.hid (by rw [hstep.out]; rfl)
                    go_wp2_with fail
                    go_ret
                    rw [hE3.out]
                    exact ⟨rfl, hfin⟩
                  | true =>
                    have hstep2 : Hid (res = (symO x && (valO secs x && symsGoO secs true ((syms.drop 1).drop (k + 1))))) := Lib.hid (by rw [hstep.out]; rfl)
                    clear hstep
                    go_wp2_with fail
                    refine (HS.out _).mono ?_
                    rintro e w2 ⟨rfl, hb3⟩
                    have hb4 : Below W1.heap.size W1 w2 := hb2.trans (hb3.mono hbk)
                    have hfin2 : Below w.heap.size w w2 := HB1.out.trans (hb4.mono hbs)
                    have t0 := cell_later hb3 s0
                    have t1 := cell_later hb3 s1
                    have t2 := cell_later hb3 s2
                    have t3 := cell_later hb3 s3
                    have t4 := cell_later hb3 s4
                    have t5 := cell_later hb3 s5
                    have b1 := cell_later hb3 b0
                    clear s0 s1 s2 s3 s4 s5 hb3 b0 hb2 hfin HS
                    generalize symO x = q1 at *
                    generalize hv : valO secs x = q2 at *
                    have HV2 := Lib.hid (HV.out x p0 c0 w2 (HQ.out.below ESec.keeps hb4))
                    rw [hv] at HV2
                    clear hv
                    cases q1 with
                    | false =>
                      have hE3 : Hid (res = false) := Lib.hid (by rw [hstep2.out]; rfl)
                      go_wp2_with fail
                      go_ret
                      rw [hE3.out]
                      exact ⟨rfl, hfin2⟩
                    | true =>
                      go_wp2_with fail
                      refine HV2.out.mono ?_
                      rintro e w3 ⟨rfl, hb5⟩
                      have hb6 : Below W1.heap.size W1 w3 := hb4.trans (hb5.mono hb4.size)
                      have hfin3 : Below w.heap.size w w3 := HB1.out.trans (hb6.mono hbs)
                      clear t0 t1 t2 t3 t4 t5 b1 hb5 hb4 HV2 hfin2
                      cases q2 with
                      | false =>
                        have hE3 : Hid (res = false) := Lib.hid (by rw [hstep2.out]; rfl)
                        go_wp2_with fail
                        go_ret
                        rw [hE3.out]
                        exact ⟨rfl, hfin3⟩
                      | true =>
                        have hE3 : Hid (symsGoO secs true (syms.drop 1) = symsGoO secs true ((syms.drop 1).drop (k + 1))) := Lib.hid (by rw [← hE2.out, hstep2.out]; rfl)
                        go_wp2_with fail
                        go_roundw
                        case rel => exact ⟨k + 1, true, hlt, by go_num, rfl, hE3.out, hb6⟩
                        case measure => simp [intOf]; omega
                | false =>
                  have ht1 : (x.bind == 0) = false := ht.symm
                  clear ht HT
                  have hstep2 : Hid (res = (symO x && (valO secs x && symsGoO secs false ((syms.drop 1).drop (k + 1))))) := Lib.hid (by rw [hstep.out]; rfl)
                  clear hstep
                  go_wp2_with fail
                  refine (HS.out _).mono ?_
                  rintro e w2 ⟨rfl, hb3⟩
                  have hb4 : Below W1.heap.size W1 w2 := hb2.trans (hb3.mono hbk)
                  have hfin2 : Below w.heap.size w w2 := HB1.out.trans (hb4.mono hbs)
                  have t0 := cell_later hb3 s0
                  have t1 := cell_later hb3 s1
                  have t2 := cell_later hb3 s2
                  have t3 := cell_later hb3 s3
                  have t4 := cell_later hb3 s4
                  have t5 := cell_later hb3 s5
                  have b1 := cell_later hb3 b0
                  clear s0 s1 s2 s3 s4 s5 hb3 b0 hb2 hfin HS
                  generalize symO x = q1 at *
                  generalize hv : valO secs x = q2 at *
                  have HV2 := Lib.hid (HV.out x p0 c0 w2 (HQ.out.below ESec.keeps hb4))
                  rw [hv] at HV2
                  clear hv
                  cases q1 with
                  | false =>
                    have hE3 : Hid (res = false) := Lib.hid (by rw [hstep2.out]; rfl)
                    go_wp2_with fail
                    go_ret
                    rw [hE3.out]
                    exact ⟨rfl, hfin2⟩
                  | true =>
                    go_wp2_with fail
                    refine HV2.out.mono ?_
                    rintro e w3 ⟨rfl, hb5⟩
                    have hb6 : Below W1.heap.size W1 w3 := hb4.trans (hb5.mono hb4.size)
                    have hfin3 : Below w.heap.size w w3 := HB1.out.trans (hb6.mono hbs)
                    clear t0 t1 t2 t3 t4 t5 b1 hb5 hb4 HV2 hfin2
                    cases q2 with
                    | false =>
                      have hE3 : Hid (res = false) := Lib.hid (by rw [hstep2.out]; rfl)
                      go_wp2_with fail
                      go_ret
                      rw [hE3.out]
                      exact ⟨rfl, hfin3⟩
                    | true =>
                      have hE3 : Hid (symsGoO secs true (syms.drop 1) = symsGoO secs false ((syms.drop 1).drop (k + 1))) := Lib.hid (by rw [← hE2.out, hstep2.out]; rfl)
                      go_wp2_with fail
                      go_roundw
                      case rel => exact ⟨k + 1, false, hlt, by go_num, rfl, hE3.out, hb6⟩
                      case measure => simp [intOf]; omega
              · obtain rfl : k = yl - 1 := by omega
                have hJ : ¬ ((yl - 1 : Nat) : Int) < ((yl - 1 : Nat) : Int) := by omega
                have hE3 : Hid (res = true) := Lib.hid (by rw [hE2.out, HGO.out, List.drop_eq_nil_of_le (by rw [List.length_drop, HYN.out]; exact Nat.le_refl _)]; rfl)
                go_wp2_with fail
                go_ret
                rw [hE3.out]
                exact ⟨rfl, HB1.out.trans (hb.mono hbs)⟩
end Go.Proofs.YtenmcmnhiejbgaaGreat

namespace Go.Proofs.YtenmcmnhiejbgaaGreat
open Go.RowKit

def memGoO (ql : Nat) : Int → List Bool → List Int → Option (List Bool)
  | _, gd, [] => some gd
  | last, gd, n :: t => bif inR n (last + 1) (ql : Int) && !(gd[(n - 1).toNat]?.getD true) then memGoO ql n (gd.set (n - 1).toNat true) t else none
def grpGoO (ql yl : Nat) : List Bool → List GroupD → Option (List Bool)
  | gd, [] => some gd
  | gd, g :: t => bif inR g.sym 1 ((yl : Int) - 1) && !(g.members.length == 0) then
      match memGoO ql 0 gd g.members with
      | none => none
      | some gd' => grpGoO ql yl gd' t
    else none
def eqGrp (gd : List Bool) (i : Nat) (s : SecD) : Bool := hasO s.flags 512 == gd[i]?.getD true
def groupsO (secs : List SecD) (yl : Nat) (gs : List GroupD) : Bool := match grpGoO secs.length yl (List.replicate secs.length false) gs with
  | none => false
  | some gd => eachB (eqGrp gd) secs
theorem grpGoO_step {ql yl : Nat} {gd : List Bool} {gs : List GroupD} {k : Nat} {g : GroupD} (h : gs[k]? = some g) : grpGoO ql yl gd (gs.drop k) = bif inR g.sym 1 ((yl : Int) - 1) && !(g.members.length == 0) then
      match memGoO ql 0 gd g.members with
      | none => none
      | some gd' => grpGoO ql yl gd' (gs.drop (k + 1))
    else none := by
  have hl := (List.getElem?_eq_some_iff.1 h).1
  rw [List.drop_eq_getElem_cons hl, (List.getElem?_eq_some_iff.1 h).2]
  rfl
theorem memGoO_step {ql : Nat} {last : Int} {gd : List Bool} {ms : List Int} {j : Nat} {n : Int} (h : ms[j]? = some n) : memGoO ql last gd (ms.drop j) = bif inR n (last + 1) (ql : Int) && !(gd[(n - 1).toNat]?.getD true) then memGoO ql n (gd.set (n - 1).toNat true) (ms.drop (j + 1)) else none := by
  have hl := (List.getElem?_eq_some_iff.1 h).1
  rw [List.drop_eq_getElem_cons hl, (List.getElem?_eq_some_iff.1 h).2]
  rfl
theorem inR_of {n a b : Int} (h : inR n a b = true) : a ≤ n ∧ n ≤ b := by
  unfold inR at h
  simpa using h

theorem pair_new (w : World) (x y : Value) (T : TypeId) : (w.alloc (.cells #[x, y] T)).cell? ⟨w.heap.size, 0, none⟩ = some x ∧ (w.alloc (.cells #[x, y] T)).cell? ⟨w.heap.size, 1, none⟩ = some y :=
  ⟨(cell_of_row _ _ 0 _ _ (0, 0) (heap_alloc_new w _)).trans rfl, (cell_of_row _ _ 1 _ _ (0, 0) (heap_alloc_new w _)).trans rfl⟩
theorem Tryz.infoBoolB : (Tryz.prog.info? 4).map (fun i => (i.zero, i.size, i.bytes)) = some (some (.bool false), 1, 1) := by kernel_rfl
set_option maxRecDepth 100000 in
set_option maxHeartbeats 4000000 in
theorem ownMayGroups_any (v4 : Value) (hs : Bool) (p0 p1 p2 : Option Addr) (c0 c1 c2 yl : Nat) (secs : List SecD) (gs : List GroupD) (w : World) (hq : HasL 9 ESec w p0 secs) (hg : HasL 2 EGroup w p2 gs) (hql : secs.length ≤ 1000000) (hyl : yl ≤ 1000000) (hgl : gs.length ≤ 1000000)
    (hml : ∀ g ∈ gs, g.members.length ≤ 1000000) :
    Calls Tryz.prog 52 #[objV (.slice p0 secs.length c0) (.slice p1 yl c1) (.slice p2 gs.length c2) hs v4] w fun e w' => e = .returned (.bool (groupsO secs yl gs)) ∧ Below w.heap.size w w' := by
  obtain ⟨i0, hi, hz0, hz1, hz2⟩ := info_parts Tryz.infoBoolB
  have hb8 : i0.bytes * secs.length ≤ 281474976710656 := by rw [hz2]; omega
  have HI := Lib.hid hi
  have H0 := Lib.hid hz0
  have H1 := Lib.hid hz1
  have hb1 : Below w.heap.size w (w.alloc (.cells #[.slice p0 secs.length c0, .slice p1 yl c1, .slice p2 gs.length c2, .bool hs, v4] 27)) := (Below.refl _ w).alloc (Nat.le_refl _) _
  have a0 : (w.alloc (.cells #[.slice p0 secs.length c0, .slice p1 yl c1, .slice p2 gs.length c2, .bool hs, v4] 27)).cell? ⟨w.heap.size, 0, none⟩ = some (.slice p0 secs.length c0) := by simp
  have a1 : (w.alloc (.cells #[.slice p0 secs.length c0, .slice p1 yl c1, .slice p2 gs.length c2, .bool hs, v4] 27)).cell? ⟨w.heap.size, 1, none⟩ = some (.slice p1 yl c1) := by simp
  have a2 : (w.alloc (.cells #[.slice p0 secs.length c0, .slice p1 yl c1, .slice p2 gs.length c2, .bool hs, v4] 27)).cell? ⟨w.heap.size, 2, none⟩ = some (.slice p2 gs.length c2) := by simp
  have HQ := Lib.hid (hq.below ESec.keeps hb1)
  have HG := Lib.hid (hg.below EGroup.keeps hb1)
  have HB1 := Lib.hid hb1
  have HML := Lib.hid hml
  have hr : groupsO secs yl gs = match grpGoO secs.length yl (List.replicate secs.length false) gs with
    | none => false
    | some gd => eachB (eqGrp gd) secs := rfl
  generalize groupsO secs yl gs = res at *
  generalize hgn : gs.length = gl at *
  have HGN := Lib.hid hgn
  generalize hqn : secs.length = ql at *
  have HQN := Lib.hid hqn
  have HR := Lib.hid hr
  have hky : IntKind.i64.wrap ((yl : Int) - 1) = (yl : Int) - 1 := IntWalk.i64_in _ (by omega)
  clear hb1 hq hg hgn hqn hr hml hi hz0 hz1 hz2
  go_enter Tryz.func52, Tryz.ntmps52
  go_upto_region 1 with fail
  generalize w.alloc (.cells #[.slice p0 ql c0, .slice p1 yl c1, .slice p2 gl c2, .bool hs, v4] 27) = W1 at *
  have hbs := HB1.out.size
  go_wp2_with (at_make; refine wpList_make_full _ rfl _ _ 103 rfl W1.heap.size 4 i0 (.bool false) 1 Tryz.underlying103 HI.out H0.out H1.out _ _ _ _ ql rfl rfl rfl rfl hb8 (by unfold maxLen; omega) (Nat.le_refl _) ?_)
  intro w1 hown hgrow
  have hbel : Below W1.heap.size W1 w1 := (Below.refl _ W1).grown hgrow (Nat.le_refl _) (fun k h => by cases h)
  have hown0 : w1.ownsRow W1.heap.size 4 1 (.slice (some ⟨W1.heap.size, 0, none⟩) ql ql) ql ((List.replicate ql false).map Value.bool) := by
    rw [List.map_replicate, ← toList_madeCells_one]
    exact hown
  have b2 := cell_later hbel a2
  clear hown hgrow
  go_wp2_with fail
  go_loopw [18] (fun r18 wr => ∃ (k : Nat) (gd : List Bool), k ≤ gl ∧ r18 = .int .i64 (k : Int) ∧ gd.length = ql ∧ grpGoO ql yl (List.replicate ql false) gs = grpGoO ql yl gd (gs.drop k) ∧ wr.ownsRow W1.heap.size 4 1 (.slice (some ⟨W1.heap.size, 0, none⟩) ql ql) ql (gd.map Value.bool) ∧ Below W1.heap.size W1 wr) (fun r18 _ => gl - (intOf r18).toNat)
  case atStart => exact ⟨0, _, Nat.zero_le _, rfl, List.length_replicate, rfl, hown0, hbel⟩
  case round =>
    obtain ⟨k, gd, hk, rfl, hgdl, hgo, hown, hb⟩ := hrel
    have HGO := Lib.hid hgo
    have a0k := cell_later hb a0
    have a1k := cell_later hb a1
    have a2k := cell_later hb a2
    clear hgo hown0 hbel b2
    by_cases hlt : k < gl
    · obtain ⟨b, off, g, rfl, hgk, ⟨d0, _⟩, vm, d1, hvm⟩ := HG.out.at_ (i := k) (by rw [HGN.out]; exact hlt)
      obtain ⟨mp, mc, rfl, l1, l2, l3, hmh⟩ := hvm
      have e0 := cell_later hb d0
      have e1 := cell_later hb d1
      have hmb := HML.out g (List.mem_of_getElem? hgk)
      have hstep : Hid (grpGoO ql yl (List.replicate ql false) gs = bif inR g.sym 1 ((yl : Int) - 1) && !(g.members.length == 0) then
          match memGoO ql 0 gd g.members with
          | none => none
          | some gd' => grpGoO ql yl gd' (gs.drop (k + 1))
        else none) := Lib.hid (by rw [HGO.out, grpGoO_step hgk])
      have hba : Below wr.heap.size wr (wr.alloc (.cells #[.int .i64 g.sym, .slice mp g.members.length mc] 50)) := (Below.refl _ wr).alloc (Nat.le_refl _) _
      have hct := pair_new wr (.int .i64 g.sym) (.slice mp g.members.length mc) 50
      have hb2 : Below W1.heap.size W1 (wr.alloc (.cells #[.int .i64 g.sym, .slice mp g.members.length mc] 50)) := hb.trans (hba.mono hb.size)
      have hown2 := hown.alloc (.cells #[.int .i64 g.sym, .slice mp g.members.length mc] 50)
      have HMH := Lib.hid hmh
      have HW := Lib.hid fun W => ownWithin_any g.sym 1 ((yl : Int) - 1) W
      have hJ : (k : Int) < (gl : Int) := by omega
      have k2 : (0 : Int) ≤ (k : Int) := by omega
      generalize hmn : g.members.length = ml at *
      have HMN := Lib.hid hmn
      clear hgk d0 d1 hmh hmn hown
      go_upto_region 5 with fail
      generalize wr.alloc (.cells #[.int .i64 g.sym, .slice mp ml mc] 50) = ws at *
      obtain ⟨s0, s1⟩ := hct
      have b0 := cell_later hba a0k
      have b1 := cell_later hba a1k
      have b2 := cell_later hba a2k
      have hfin : Below w.heap.size w ws := HB1.out.trans (hb2.mono hbs)
      clear e0 e1 hba hb a0k a1k a2k
      generalize inR g.sym 1 ((yl : Int) - 1) = q1 at *
      go_wp2_with fail
      refine (HW.out _).mono ?_
      rintro e w' ⟨rfl, rfl⟩
      cases q1 with
      | false =>
        have hE : Hid (res = false) := Lib.hid (by rw [HR.out, hstep.out]; rfl)
        go_wp2_with fail
        go_ret
        rw [hE.out]
        exact ⟨rfl, hfin⟩
      | true =>
        by_cases hm0 : ml = 0
        · have hE : Hid (res = false) := Lib.hid (by rw [HR.out, hstep.out, hm0]; rfl)
          subst hm0
          go_wp2_with fail
          go_ret
          rw [hE.out]
          exact ⟨rfl, hfin⟩
        · have hm1 : ((ml : Int) == 0) = false := by simp; omega
          have hmn0 : (ml == 0) = false := by simp; omega
          have hstep2 : Hid (grpGoO ql yl (List.replicate ql false) gs = match memGoO ql 0 gd g.members with
            | none => none
            | some gd' => grpGoO ql yl gd' (gs.drop (k + 1))) := Lib.hid (by rw [hstep.out, hmn0]; rfl)
          clear hstep hmn0 hm0
          have hb2s := hb2.size
          go_wp2_with fail
          go_loopw [6, 39] (fun r6 r39 wx => ∃ (j : Nat) (ge : List Bool) (last : Nat), j ≤ ml ∧ r39 = .int .i64 (j : Int) ∧ r6 = .int .i64 (last : Int) ∧ last ≤ ql ∧ ge.length = ql ∧ memGoO ql 0 gd g.members = memGoO ql (last : Int) ge (g.members.drop j) ∧ wx.ownsRow W1.heap.size 4 1 (.slice (some ⟨W1.heap.size, 0, none⟩) ql ql) ql (ge.map Value.bool) ∧ Below W1.heap.size W1 wx) (fun _ r39 _ => ml - (intOf r39).toNat)
          case atStart => exact ⟨0, gd, 0, Nat.zero_le _, rfl, rfl, Nat.zero_le _, hgdl, rfl, hown2, hb2⟩
          case round =>
            obtain ⟨j, ge, last, hj, rfl, rfl, hlq, hgel, hmg, hown3, hb3⟩ := hrel
            have HMG := Lib.hid hmg
            have x0 := cell_later hb3 a0
            clear hmg s0 s1 b0 b1 b2 hown2
            by_cases hjl : j < ml
            · obtain ⟨b', off', n, rfl, hnj, d0, hn0, hn1⟩ := HMH.out.at_ (i := j) (by rw [HMN.out]; exact hjl)
              have e0 := cell_later hb3 d0
              have hms : Hid (memGoO ql 0 gd g.members = bif inR n ((last : Int) + 1) (ql : Int) && !(ge[(n - 1).toNat]?.getD true) then memGoO ql n (ge.set (n - 1).toNat true) (g.members.drop (j + 1)) else none) := Lib.hid (by rw [HMG.out, memGoO_step hnj])
              have HW2 := Lib.hid fun W => ownWithin_any n ((last : Int) + 1) (ql : Int) W
              have hin := fun h : inR n ((last : Int) + 1) (ql : Int) = true => inR_of h
              have HIN := Lib.hid hin
              have hJ : (j : Int) < (ml : Int) := by omega
              have k3 : (0 : Int) ≤ (j : Int) := by omega
              have kl : IntKind.i64.wrap ((last : Int) + 1) = (last : Int) + 1 := IntWalk.i64_in _ (by omega)
              have hfin3 : Below w.heap.size w wr := HB1.out.trans (hb3.mono hbs)
              rw [Nat.mul_one] at e0
              generalize inR n ((last : Int) + 1) (ql : Int) = q2 at *
              clear d0 hnj hin
              go_wp2_with fail
              refine (HW2.out _).mono ?_
              rintro e w' ⟨rfl, rfl⟩
              cases q2 with
              | false =>
                have hE : Hid (res = false) := Lib.hid (by rw [HR.out, hstep2.out, hms.out]; rfl)
                go_wp2_with fail
                go_ret
                rw [hE.out]
                exact ⟨rfl, hfin3⟩
              | true =>
                obtain ⟨hi1, hi2⟩ := HIN.out (by trivial)
                obtain ⟨m, rfl⟩ : ∃ m : Nat, n = (m : Int) + 1 := ⟨(n - 1).toNat, by omega⟩
                have hmq : m < ql := by omega
                obtain ⟨bv, hbv⟩ : ∃ bv, ge[m]? = some bv := ⟨_, List.getElem?_eq_getElem (by omega)⟩
                have hcl : wr.cell? ⟨W1.heap.size, m, none⟩ = some (.bool bv) := (hown3.cellAt m (by omega)).trans (by rw [List.getElem?_map, hbv]; rfl)
                have hms2 : Hid (memGoO ql 0 gd g.members = bif !bv then memGoO ql ((m : Int) + 1) (ge.set m true) (g.members.drop (j + 1)) else none) := Lib.hid (by
                  rw [hms.out, show ((m : Int) + 1 - 1).toNat = m by omega, hbv]
                  rfl)
                have kw1 : IntKind.i64.wrap ((m : Int) + 1 - 1) = (m : Int) := by rw [show (m : Int) + 1 - 1 = (m : Int) by omega]; exact IntWalk.i64_in _ (by omega)
                have kw2 : IntKind.i64.wrap (m : Int) = (m : Int) := IntWalk.i64_in _ (by omega)
                have hJ2 : (m : Int) < (ql : Int) := by omega
                have k5 : (0 : Int) ≤ (m : Int) := by omega
                clear hms hbv hi1 hi2
                cases bv with
                | true =>
                  have hE : Hid (res = false) := Lib.hid (by rw [HR.out, hstep2.out, hms2.out]; rfl)
                  go_wp2_with fail
                  go_ret
                  rw [hE.out]
                  exact ⟨rfl, hfin3⟩
                | false =>
                  have hf := hown3.frozenAt m
                  have hst := hown3.stored m (.bool true)
                  rw [← show (ge.set m true).map Value.bool = (ge.map Value.bool).set m (.bool true) from List.map_set] at hst
                  have HST := Lib.hid hst
                  have hms3 : Hid (memGoO ql 0 gd g.members = memGoO ql ((m + 1 : Nat) : Int) (ge.set m true) (g.members.drop (j + 1))) := Lib.hid (by rw [hms2.out]; rfl)
                  clear hst hms2
                  go_wp2_with fail
                  go_roundw
                  case rel => exact ⟨j + 1, ge.set m true, m + 1, hjl, by go_num, by go_num, hmq, by rw [List.length_set]; exact hgel, hms3.out, HST.out.1, hb3.setCell (Nat.le_refl _) _⟩
                  case measure => simp [intOf]; omega
            · obtain rfl : j = ml := by omega
              have hJ : ¬ (j : Int) < (j : Int) := by omega
              have hmo : Hid (memGoO ql 0 gd g.members = some ge) := Lib.hid (by rw [HMG.out, List.drop_eq_nil_of_le (by rw [HMN.out]; exact Nat.le_refl _)]; rfl)
              have hnx : Hid (grpGoO ql yl (List.replicate ql false) gs = grpGoO ql yl ge (gs.drop (k + 1))) := Lib.hid (by rw [hstep2.out, hmo.out])
              go_wp2_with fail
              go_roundw
              case rel => exact ⟨k + 1, ge, hlt, by go_num, hgel, hnx.out, hown3, hb3⟩
              case measure => simp [intOf]; omega
    · obtain rfl : k = gl := by omega
      have hJ : ¬ (k : Int) < (k : Int) := by omega
      have hE : Hid (res = eachB (eqGrp gd) secs) := Lib.hid (by rw [HR.out, HGO.out, List.drop_eq_nil_of_le (by rw [HGN.out]; exact Nat.le_refl _)]; rfl)
      have hbks := hb.size
      go_wp2_with fail
      have HOW := Lib.hid hown
      have HBO := Lib.hid hb
      clear hown a0k a1k a2k HGO
      generalize hwo : wr = wo at *
      clear hwo
      go_loopw [68] (fun r68 wx => ∃ j : Nat, j ≤ ql ∧ r68 = .int .i64 (j : Int) ∧ eachB (eqGrp gd) (secs.take j) = true ∧ Below wo.heap.size wo wx) (fun r68 _ => ql - (intOf r68).toNat)
      case atStart => exact ⟨0, Nat.zero_le _, rfl, by simp [eachB], Below.refl _ _⟩
      case round =>
        obtain ⟨j, hj, rfl, hall, hb3⟩ := hrel
        have HA := Lib.hid hall
        have hbw : Below W1.heap.size W1 wr := hb.trans (hb3.mono hbks)
        clear hall
        by_cases hjl : j < ql
        · obtain ⟨b, off, s, rfl, hsk, ⟨d0, _⟩, ⟨d1, _⟩, ⟨d2, _⟩, ⟨d3, _⟩, ⟨d4, _⟩, ⟨d5, _⟩, ⟨d6, _⟩, ⟨vd, d7, hvd⟩, ⟨vr, d8, hvr⟩⟩ := HQ.out.at_ (i := j) (by rw [HQN.out]; exact hjl)
          obtain ⟨dp, dc, rfl, _, _, _, _⟩ := hvd
          obtain ⟨rp, rc, rfl, _, _, _, _⟩ := hvr
          have e0 := cell_later hbw d0
          have e1 := cell_later hbw d1
          have e2 := cell_later hbw d2
          have e3 := cell_later hbw d3
          have e4 := cell_later hbw d4
          have e5 := cell_later hbw d5
          have e6 := cell_later hbw d6
          have e7 := cell_later hbw d7
          have e8 := cell_later hbw d8
          obtain ⟨bv, hbv⟩ : ∃ bv, gd[j]? = some bv := ⟨_, List.getElem?_eq_getElem (by omega)⟩
          have hcl0 : wo.cell? ⟨W1.heap.size, j, none⟩ = some (.bool bv) := (HOW.out.cellAt j (by omega)).trans (by rw [List.getElem?_map, hbv]; rfl)
          have hcl1 := cell_later hb3 hcl0
          have heq : eqGrp gd j s = (hasO s.flags 512 == bv) := by
            unfold eqGrp
            rw [hbv]
            rfl
          have hno : eqGrp gd j s = false → res = false := fun h => by rw [hE.out]; exact eachB_no hsk h
          have hta : eachB (eqGrp gd) (secs.take (j + 1)) = (eachB (eqGrp gd) (secs.take j) && eqGrp gd j s) := eachB_take hsk
          rw [heq] at hno hta
          have hba : Below wr.heap.size wr (wr.alloc (.cells #[.string s.name, .int .i64 s.type, .int .i64 s.flags, .int .i64 s.align, .int .i64 s.ent, .int .i64 s.link, .int .i64 s.size, .slice dp s.data.length dc, .slice rp s.rels.length rc] 48)) := (Below.refl _ wr).alloc (Nat.le_refl _) _
          have hha := heap_new wr (.cells #[.string s.name, .int .i64 s.type, .int .i64 s.flags, .int .i64 s.align, .int .i64 s.ent, .int .i64 s.link, .int .i64 s.size, .slice dp s.data.length dc, .slice rp s.rels.length rc] 48)
          have HS := Lib.hid (SecAt.of hha)
          have hb4 : Below wo.heap.size wo (wr.alloc (.cells #[.string s.name, .int .i64 s.type, .int .i64 s.flags, .int .i64 s.align, .int .i64 s.ent, .int .i64 s.link, .int .i64 s.size, .slice dp s.data.length dc, .slice rp s.rels.length rc] 48)) := hb3.trans (hba.mono hb3.size)
          have HH := Lib.hid fun W => ownHas_any s.name s.type s.flags s.align s.ent s.link s.size (.slice dp s.data.length dc) (.slice rp s.rels.length rc) 512 W
          generalize hasO s.flags 512 = hq at *
          have HNO := Lib.hid hno
          have HTA := Lib.hid hta
          have hJ : (j : Int) < (ql : Int) := by omega
          have k3 : (0 : Int) ≤ (j : Int) := by omega
          generalize s.data.length = dn at *
          generalize s.rels.length = rn at *
          clear hsk d0 d1 d2 d3 d4 d5 d6 d7 d8 hbv heq hno hta hha hcl0
          go_upto_region 20 with fail
          have hcl := cell_later hba hcl1
          generalize wr.alloc (.cells #[.string s.name, .int .i64 s.type, .int .i64 s.flags, .int .i64 s.align, .int .i64 s.ent, .int .i64 s.link, .int .i64 s.size, .slice dp dn dc, .slice rp rn rc] 48) = ws at *
          obtain ⟨s0, s1, s2, s3, s4, s5, s6, s7, s8⟩ := HS.out
          clear e0 e1 e2 e3 e4 e5 e6 e7 e8 hba hb3 hcl1 HS
          go_cut [79] (fun s79 wx => s79 = .bool (hq != bv) ∧ Below ws.heap.size ws wx)
          case first =>
            go_region_with (go_at_call 98; refine (HH.out _).mono ?_; rintro e w2 ⟨rfl, hb5⟩; have f0 := cell_later hb5 hcl; have hb6 : Below ws.heap.size ws w2 := below_drew (w := ws) hb5 rfl)
            all_goals go_wp2_with fail
            all_goals go_meet
            all_goals exact ⟨by first | rfl | trivial | simp | fail, hb6⟩
          case rest =>
            obtain ⟨rfl, hb5⟩ := hcut
            have hb6 := hb4.trans (hb5.mono hb4.size)
            have hfin := HB1.out.trans ((hb.trans (hb6.mono hbks)).mono hbs)
            cases hne : (hq != bv) with
            | true =>
              have hE2 : Hid (res = false) := Lib.hid (HNO.out (by unfold bne at hne; simpa using hne))
              clear s0 s1 s2 s3 s4 s5 s6 s7 s8 hcl hb4 hb5
              go_wp2_with fail
              go_ret
              rw [hE2.out]
              exact ⟨rfl, hfin⟩
            | false =>
              have hE2 : Hid (eachB (eqGrp gd) (secs.take (j + 1)) = true) := Lib.hid (by
                rw [HTA.out, HA.out]
                unfold bne at hne
                simpa using hne)
              clear s0 s1 s2 s3 s4 s5 s6 s7 s8 hcl hb4 hb5
              go_wp2_with fail
              go_roundw
              case rel => exact ⟨j + 1, hjl, by go_num, hE2.out, hb6⟩
              case measure => simp [intOf]; omega
        · obtain rfl : j = ql := by omega
          have hJ2 : ¬ (j : Int) < (j : Int) := by omega
          have hE2 : Hid (res = true) := Lib.hid (by rw [hE.out, ← HA.out, List.take_of_length_le (by rw [HQN.out]; exact Nat.le_refl _)])
          go_wp2_with fail
          go_ret
          rw [hE2.out]
          exact ⟨rfl, HB1.out.trans (hbw.mono hbs)⟩
end Go.Proofs.YtenmcmnhiejbgaaGreat
