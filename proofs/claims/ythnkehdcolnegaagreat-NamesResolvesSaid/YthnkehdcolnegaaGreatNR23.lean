/-
  Contract of the project's own maySyms.
  Contracts of the reference's HeadBytes and Section.
-/
import Derived.Test.YthnkehdcolnegaaGreatNR21
import Derived.Test.YthnkehdcolnegaaGreatNR22
import Derived.Test.YthnkehdcolnegaaGreatNR17
namespace Go.Proofs.YthnkehdcolnegaaGreat
open Go.RowKit

def symsGoO (secs : List SecD) : Bool → List SymD → Bool
  | _, [] => true
  | locals, s :: t => bif (s.bind == 0) && !locals then false else symO s && (valO secs s && symsGoO secs (s.bind == 0) t)
def sym0O (syms : List SymD) : Bool := match syms[0]? with
  | none => false
  | some s => sym0B s
def symsO (secs : List SecD) (syms : List SymD) : Bool := bif decide (128 < syms.length) then false else sym0O syms && symsGoO secs true (syms.drop 1)
set_option maxRecDepth 100000 in
set_option maxHeartbeats 4000000 in
theorem ownMaySyms_any (v2 v4 : Value) (hs : Bool) (p0 p1 : Option Addr) (c0 c1 : Nat) (secs : List SecD) (syms : List SymD) (w : World) (hq : HasL 9 ESec w p0 secs) (hy : HasL 6 ESym w p1 syms) (hql : secs.length ≤ 1000000) (hyc : syms.length ≤ c1) :
    Calls Tryz.prog 93 #[objV (.slice p0 secs.length c0) (.slice p1 syms.length c1) v2 hs v4] w fun e w' => e = .returned (.bool (symsO secs syms)) ∧ Below w.heap.size w w' := by
  have hb1 : Below w.heap.size w (w.alloc (.cells #[.slice p0 secs.length c0, .slice p1 syms.length c1, v2, .bool hs, v4] 27)) := (Below.refl _ w).alloc (Nat.le_refl _) _
  have a0 : (w.alloc (.cells #[.slice p0 secs.length c0, .slice p1 syms.length c1, v2, .bool hs, v4] 27)).cell? ⟨w.heap.size, 0, none⟩ = some (.slice p0 secs.length c0) := by simp
  have a1 : (w.alloc (.cells #[.slice p0 secs.length c0, .slice p1 syms.length c1, v2, .bool hs, v4] 27)).cell? ⟨w.heap.size, 1, none⟩ = some (.slice p1 syms.length c1) := by simp
  have HQ := Lib.hid (hq.below ESec.keeps hb1)
  have HY := Lib.hid (hy.below ESym.keeps hb1)
  have HB1 := Lib.hid hb1
  have hr : symsO secs syms = bif decide (128 < syms.length) then false else sym0O syms && symsGoO secs true (syms.drop 1) := rfl
  have HV := Lib.hid fun s p0 c0 W hq => ownMayValue_any s p0 c0 secs W hq hql
  generalize symsO secs syms = res at *
  generalize hyn : syms.length = yl at *
  have HYN := Lib.hid hyn
  generalize hqn : secs.length = ql at *
  have HR := Lib.hid hr
  clear hb1 hq hy hyn hqn hr hql
  go_enter Tryz.func93, Tryz.ntmps93
  go_upto_region 1 with fail
  generalize w.alloc (.cells #[.slice p0 ql c0, .slice p1 yl c1, v2, .bool hs, v4] 27) = W1 at *
  have hbs := HB1.out.size
  by_cases h0 : yl < 1
  · have hE : Hid (res = false) := Lib.hid (by
      have hn : syms[0]? = none := List.getElem?_eq_none (by rw [HYN.out]; omega)
      rw [HR.out, decide_eq_false (show ¬ 128 < yl by omega)]
      unfold sym0O
      rw [hn]
      rfl)
    obtain rfl : yl = 0 := by omega
    clear h0
    go_wp2_with fail
    go_ret
    rw [hE.out]
    exact ⟨rfl, HB1.out⟩
  · by_cases h64 : 128 < yl
    · have hE : Hid (res = false) := Lib.hid (by rw [HR.out, decide_eq_true h64]; rfl)
      have hI0 : ¬ (yl : Int) < 1 := by omega
      have hI : (128 : Int) < (yl : Int) := by omega
      clear h64 h0
      go_wp2_with fail
      go_ret
      rw [hE.out]
      exact ⟨rfl, HB1.out⟩
    · obtain ⟨b, off, s, rfl, hs0, ⟨d0, _⟩, ⟨d1, _⟩, ⟨d2, _⟩, ⟨d3, _⟩, ⟨d4, _⟩, ⟨d5, _⟩⟩ := HY.out.at_ (i := 0) (by rw [HYN.out]; omega)
      have hE : Hid (res = (sym0B s && symsGoO secs true (syms.drop 1))) := Lib.hid (by
        rw [HR.out, decide_eq_false h64]
        unfold sym0O
        rw [hs0]
        rfl)
      have hI0 : ¬ (yl : Int) < 1 := by omega
      have hI : ¬ (128 : Int) < (yl : Int) := by omega
      have hI1 : (0 : Int) < (yl : Int) := by omega
      simp only [Nat.zero_mul, Nat.add_zero] at d0 d1 d2 d3 d4 d5
      have hrest : ∀ i x, (syms.drop 1)[i]? = some x → ESym W1 b (off + 6 + i * 6) x := fun i x hx => by
        rw [List.getElem?_drop] at hx
        obtain ⟨b', o', e, hE⟩ := HY.out (1 + i) x hx
        cases e
        rw [show off + 6 + i * 6 = off + (1 + i) * 6 by omega]
        exact hE
      have HREST := Lib.hid hrest
      obtain ⟨c, hc⟩ : ∃ c, c = sym0B s := ⟨_, rfl⟩
      have HC := Lib.hid hc
      rw [← hc] at hE
      clear HR hrest hc hs0
      go_cut [23] (fun s23 wx => s23 = .bool (!c) ∧ W1 = wx)
      case first =>
        go_wp2_with fail
        all_goals go_meet
        all_goals refine ⟨?_, by trivial⟩
        all_goals rw [HC.out]
        all_goals clear HC HREST HY HQ HB1 HV hE HYN
        all_goals simp [sym0B, *]
      case rest =>
        obtain ⟨rfl, rfl⟩ := hcut
        clear HC d0 d1 d2 d3 d4 d5
        cases c with
        | false =>
          have hE2 : Hid (res = false) := Lib.hid (by rw [hE.out]; rfl)
          go_wp2_with fail
          go_ret
          rw [hE2.out]
          exact ⟨rfl, HB1.out⟩
        | true =>
          have hE2 : Hid (res = symsGoO secs true (syms.drop 1)) := Lib.hid (by rw [hE.out]; rfl)
          have hI3 : (1 : Int) ≤ (yl : Int) := by omega
          go_upto_region 4 with fail
          go_cut [26, 27, 28] (fun s26 s27 s28 wx => ∃ (q : Option Addr) (c' : Nat), s26 = .slice q (yl - 1) c' ∧ (1 < yl → q = some ⟨b, off + 6, none⟩) ∧ s27 = .int .i64 ((yl - 1 : Nat) : Int) ∧ s28 = .int .i64 0 ∧ W1 = wx)
          case first =>
            by_cases hc1 : c1 = 1
            · subst hc1
              go_wp2_with fail
              go_meet
              exact ⟨some ⟨b, off, none⟩, 0, by rw [show yl - 1 = 0 by omega], fun h => absurd h (by omega), by rw [show yl - 1 = 0 by omega]; rfl, rfl, by trivial⟩
            · go_wp2_with fail
              go_meet
              exact ⟨_, _, rfl, fun h => rfl, rfl, rfl, by trivial⟩
          case rest =>
            obtain ⟨q, c', rfl, hq, rfl, rfl, rfl⟩ := hcut
            have HQ6 := Lib.hid hq
            clear hq
            go_wp2_with fail
            go_loopw [3, 28] (fun r3 r28 wr => ∃ (k : Nat) (lo : Bool), k ≤ yl - 1 ∧ r28 = .int .i64 (k : Int) ∧ r3 = .bool lo ∧ symsGoO secs true (syms.drop 1) = symsGoO secs lo ((syms.drop 1).drop k) ∧ Below W1.heap.size W1 wr) (fun _ r28 _ => (yl - 1) - (intOf r28).toNat)
            case atStart => exact ⟨0, true, Nat.zero_le _, rfl, rfl, rfl, Below.refl _ _⟩
            case round =>
              obtain ⟨k, lo, hk, rfl, rfl, hgo, hb⟩ := hrel
              have HGO := Lib.hid hgo
              clear hgo
              by_cases hlt : k < yl - 1
              · obtain ⟨x, hx⟩ : ∃ x, (syms.drop 1)[k]? = some x := ⟨_, List.getElem?_eq_getElem (by rw [List.length_drop, HYN.out]; exact hlt)⟩
                obtain ⟨⟨x0, _⟩, ⟨x1, _⟩, ⟨x2, _⟩, ⟨x3, _⟩, ⟨x4, _⟩, ⟨x5, _⟩⟩ := HREST.out k x hx
                obtain rfl := HQ6.out (by omega)
                have e0 := cell_later hb x0
                have e1 := cell_later hb x1
                have e2 := cell_later hb x2
                have e3 := cell_later hb x3
                have e4 := cell_later hb x4
                have e5 := cell_later hb x5
                have hdr : (syms.drop 1).drop k = x :: (syms.drop 1).drop (k + 1) := by
                  rw [List.drop_eq_getElem_cons (by rw [List.length_drop, HYN.out]; exact hlt)]
                  congr 1
                  exact (List.getElem?_eq_some_iff.1 hx).2
                have hstep : Hid (res = bif (x.bind == 0) && !lo then false else symO x && (valO secs x && symsGoO secs (x.bind == 0) ((syms.drop 1).drop (k + 1)))) := Lib.hid (by rw [hE2.out, HGO.out, hdr]; rfl)
                have hba : Below wr.heap.size wr (wr.alloc (.cells #[.string x.name, .int .i64 x.bind, .int .i64 x.type, .int .i64 x.sec, .int .i64 x.value, .int .i64 x.size] 98)) := (Below.refl _ wr).alloc (Nat.le_refl _) _
                have hha := heap_new wr (.cells #[.string x.name, .int .i64 x.bind, .int .i64 x.type, .int .i64 x.sec, .int .i64 x.value, .int .i64 x.size] 98)
                have hb2 : Below W1.heap.size W1 (wr.alloc (.cells #[.string x.name, .int .i64 x.bind, .int .i64 x.type, .int .i64 x.sec, .int .i64 x.value, .int .i64 x.size] 98)) := hb.trans (hba.mono hb.size)
                have HS := Lib.hid fun W => ownMaySym_any x W
                have hJ : (k : Int) < ((yl - 1 : Nat) : Int) := by omega
                have k2 : (0 : Int) ≤ (k : Int) := by omega
                clear hx x0 x1 x2 x3 x4 x5 hdr
                go_upto_region 7 with fail
                generalize wr.alloc (.cells #[.string x.name, .int .i64 x.bind, .int .i64 x.type, .int .i64 x.sec, .int .i64 x.value, .int .i64 x.size] 98) = ws at *
                obtain ⟨s0, s1, s2, s3, s4, s5⟩ := cells6 _ _ _ _ _ _ _ _ _ hha
                have b0 := cell_later hb2 a0
                have hbk := hb2.size
                have hfin : Below w.heap.size w ws := HB1.out.trans (hb2.mono hbs)
                clear e0 e1 e2 e3 e4 e5 hba hb hha
                obtain ⟨t, ht⟩ : ∃ t, t = (x.bind == 0) := ⟨_, rfl⟩
                have HT := Lib.hid ht
                rw [← ht] at hstep
                cases t with
                | true =>
                  have ht1 : (x.bind == 0) = true := ht.symm
                  clear ht HT
                  cases lo with
                  | false =>
                    have hE3 : Hid (res = false) := Lib.hid (by rw [hstep.out]; rfl)
                    go_wp2_with fail
                    go_ret
                    rw [hE3.out]
                    exact ⟨rfl, hfin⟩
                  | true =>
                    have hstep2 : Hid (res = (symO x && (valO secs x && symsGoO secs true ((syms.drop 1).drop (k + 1))))) := Lib.hid (by rw [hstep.out]; rfl)
                    clear hstep
                    go_wp2_with fail
                    refine (HS.out _).mono ?_
                    rintro e w2 ⟨rfl, hb3⟩
                    have hb4 : Below W1.heap.size W1 w2 := hb2.trans (hb3.mono hbk)
                    have hfin2 : Below w.heap.size w w2 := HB1.out.trans (hb4.mono hbs)
                    have t0 := cell_later hb3 s0
                    have t1 := cell_later hb3 s1
                    have t2 := cell_later hb3 s2
                    have t3 := cell_later hb3 s3
                    have t4 := cell_later hb3 s4
                    have t5 := cell_later hb3 s5
                    have b1 := cell_later hb3 b0
                    clear s0 s1 s2 s3 s4 s5 hb3 b0 hb2 hfin HS
                    generalize symO x = q1 at *
                    generalize hv : valO secs x = q2 at *
                    have HV2 := Lib.hid (HV.out x p0 c0 w2 (HQ.out.below ESec.keeps hb4))
                    rw [hv] at HV2
                    clear hv
                    cases q1 with
                    | false =>
                      have hE3 : Hid (res = false) := Lib.hid (by rw [hstep2.out]; rfl)
                      go_wp2_with fail
                      go_ret
                      rw [hE3.out]
                      exact ⟨rfl, hfin2⟩
                    | true =>
                      go_wp2_with fail
                      refine HV2.out.mono ?_
                      rintro e w3 ⟨rfl, hb5⟩
                      have hb6 : Below W1.heap.size W1 w3 := hb4.trans (hb5.mono hb4.size)
                      have hfin3 : Below w.heap.size w w3 := HB1.out.trans (hb6.mono hbs)
                      clear t0 t1 t2 t3 t4 t5 b1 hb5 hb4 HV2 hfin2
                      cases q2 with
                      | false =>
                        have hE3 : Hid (res = false) := Lib.hid (by rw [hstep2.out]; rfl)
                        go_wp2_with fail
                        go_ret
                        rw [hE3.out]
                        exact ⟨rfl, hfin3⟩
                      | true =>
                        have hE3 : Hid (symsGoO secs true (syms.drop 1) = symsGoO secs true ((syms.drop 1).drop (k + 1))) := Lib.hid (by rw [← hE2.out, hstep2.out]; rfl)
                        go_wp2_with fail
                        go_roundw
                        case rel => exact ⟨k + 1, true, hlt, by go_num, rfl, hE3.out, hb6⟩
                        case measure => simp [intOf]; omega
                | false =>
                  have ht1 : (x.bind == 0) = false := ht.symm
                  clear ht HT
                  have hstep2 : Hid (res = (symO x && (valO secs x && symsGoO secs false ((syms.drop 1).drop (k + 1))))) := Lib.hid (by rw [hstep.out]; rfl)
                  clear hstep
                  go_wp2_with fail
                  refine (HS.out _).mono ?_
                  rintro e w2 ⟨rfl, hb3⟩
                  have hb4 : Below W1.heap.size W1 w2 := hb2.trans (hb3.mono hbk)
                  have hfin2 : Below w.heap.size w w2 := HB1.out.trans (hb4.mono hbs)
                  have t0 := cell_later hb3 s0
                  have t1 := cell_later hb3 s1
                  have t2 := cell_later hb3 s2
                  have t3 := cell_later hb3 s3
                  have t4 := cell_later hb3 s4
                  have t5 := cell_later hb3 s5
                  have b1 := cell_later hb3 b0
                  clear s0 s1 s2 s3 s4 s5 hb3 b0 hb2 hfin HS
                  generalize symO x = q1 at *
                  generalize hv : valO secs x = q2 at *
                  have HV2 := Lib.hid (HV.out x p0 c0 w2 (HQ.out.below ESec.keeps hb4))
                  rw [hv] at HV2
                  clear hv
                  cases q1 with
                  | false =>
                    have hE3 : Hid (res = false) := Lib.hid (by rw [hstep2.out]; rfl)
                    go_wp2_with fail
                    go_ret
                    rw [hE3.out]
                    exact ⟨rfl, hfin2⟩
                  | true =>
                    go_wp2_with fail
                    refine HV2.out.mono ?_
                    rintro e w3 ⟨rfl, hb5⟩
                    have hb6 : Below W1.heap.size W1 w3 := hb4.trans (hb5.mono hb4.size)
                    have hfin3 : Below w.heap.size w w3 := HB1.out.trans (hb6.mono hbs)
                    clear t0 t1 t2 t3 t4 t5 b1 hb5 hb4 HV2 hfin2
                    cases q2 with
                    | false =>
                      have hE3 : Hid (res = false) := Lib.hid (by rw [hstep2.out]; rfl)
                      go_wp2_with fail
                      go_ret
                      rw [hE3.out]
                      exact ⟨rfl, hfin3⟩
                    | true =>
                      have hE3 : Hid (symsGoO secs true (syms.drop 1) = symsGoO secs false ((syms.drop 1).drop (k + 1))) := Lib.hid (by rw [← hE2.out, hstep2.out]; rfl)
                      go_wp2_with fail
                      go_roundw
                      case rel => exact ⟨k + 1, false, hlt, by go_num, rfl, hE3.out, hb6⟩
                      case measure => simp [intOf]; omega
              · obtain rfl : k = yl - 1 := by omega
                have hJ : ¬ ((yl - 1 : Nat) : Int) < ((yl - 1 : Nat) : Int) := by omega
                have hE3 : Hid (res = true) := Lib.hid (by rw [hE2.out, HGO.out, List.drop_eq_nil_of_le (by rw [List.length_drop, HYN.out]; exact Nat.le_refl _)]; rfl)
                go_wp2_with fail
                go_ret
                rw [hE3.out]
                exact ⟨rfl, HB1.out.trans (hb.mono hbs)⟩
end Go.Proofs.YthnkehdcolnegaaGreat

namespace Go.Proofs.YthnkehdcolnegaaGreat
open Go.RowKit

theorem nums_wid (t : Ten) : ∀ (i : Nat) (x : Int), t.nums[2 * i + 1]? = some x → wid x = true := fun i x hx => by
  have hi : i < 10 := by have := (List.getElem?_eq_some_iff.1 hx).1; simp [Ten.nums] at this; omega
  match i, hi, hx with
  | 0, _, hx | 1, _, hx | 2, _, hx | 3, _, hx | 4, _, hx | 5, _, hx | 6, _, hx | 7, _, hx | 8, _, hx | 9, _, hx => simp [Ten.nums] at hx; subst hx; rfl
theorem nums_bd {t : Ten} (h : t.may) : ∀ (i : Nat) (x : Int), t.nums[i]? = some x → -9223372036854775808 ≤ x ∧ x ≤ 9223372036854775807 := fun i x hx => by
  have hm := List.mem_of_getElem? hx
  simp only [Ten.nums, List.mem_cons, List.not_mem_nil, or_false] at hm
  have hf : ∀ y, y ∈ t.l → 0 ≤ y ∧ y ≤ 2147483647 := fun y hy => (fitsB_iff y).1 (h y hy)
  simp only [Ten.l, List.mem_cons, List.not_mem_nil, or_false, forall_eq_or_imp, forall_eq] at hf
  omega
theorem sectB_length (t : Ten) : (sectB t).length = 64 := rfl

set_option maxHeartbeats 2000000 in
theorem headBytes_yes (t : Ten) (w : World) (h : t.may) : Calls Tryz.prog 38 #[t.v] w (Gives (sectB t) w) := by
  have HM := Lib.hid fun W => may_yes t W h
  have HN := Lib.hid fun (W : World) (p : Option Addr) (hp : HasI W p t.nums) => nums_any p 20 20 10 t.nums W hp rfl rfl (by omega) (nums_wid t) (nums_bd h)
  clear h
  go_enter Tryz.func38, Tryz.ntmps38
  go_wp2_with fail
  refine (HM.out _).mono ?_
  rintro e w2 ⟨rfl, hbb⟩
  have c0 : w2.cell? ⟨w.heap.size, 0, none⟩ = some (.int .i64 t.a) := by rw [hbb.cell (by simp <;> omega)]; simp
  have c1 : w2.cell? ⟨w.heap.size, 1, none⟩ = some (.int .i64 t.b) := by rw [hbb.cell (by simp <;> omega)]; simp
  have c2 : w2.cell? ⟨w.heap.size, 2, none⟩ = some (.int .i64 t.c) := by rw [hbb.cell (by simp <;> omega)]; simp
  have c3 : w2.cell? ⟨w.heap.size, 3, none⟩ = some (.int .i64 t.d) := by rw [hbb.cell (by simp <;> omega)]; simp
  have c4 : w2.cell? ⟨w.heap.size, 4, none⟩ = some (.int .i64 t.e) := by rw [hbb.cell (by simp <;> omega)]; simp
  have c5 : w2.cell? ⟨w.heap.size, 5, none⟩ = some (.int .i64 t.f) := by rw [hbb.cell (by simp <;> omega)]; simp
  have c6 : w2.cell? ⟨w.heap.size, 6, none⟩ = some (.int .i64 t.g) := by rw [hbb.cell (by simp <;> omega)]; simp
  have c7 : w2.cell? ⟨w.heap.size, 7, none⟩ = some (.int .i64 t.h) := by rw [hbb.cell (by simp <;> omega)]; simp
  have c8 : w2.cell? ⟨w.heap.size, 8, none⟩ = some (.int .i64 t.i) := by rw [hbb.cell (by simp <;> omega)]; simp
  have c9 : w2.cell? ⟨w.heap.size, 9, none⟩ = some (.int .i64 t.j) := by rw [hbb.cell (by simp <;> omega)]; simp
  have hb : Below w.heap.size w w2 := ((Below.refl _ w).alloc (Nat.le_refl _) _).trans (hbb.mono (by simp))
  clear hbb
  go_wp2_with fail
  refine (HN.out _ _ (lit_hasI w2 3 t.nums #[.int .i64 t.a, .int .i64 4, .int .i64 t.b, .int .i64 4, .int .i64 t.c, .int .i64 8, .int .i64 t.d, .int .i64 8, .int .i64 t.e, .int .i64 8, .int .i64 t.f, .int .i64 8, .int .i64 t.g, .int .i64 4, .int .i64 t.h, .int .i64 4, .int .i64 t.i, .int .i64 8, .int .i64 t.j, .int .i64 8] rfl _ rfl)).mono ?_
  rintro e w3 ⟨v, rfl, ho, hbb3⟩
  have hb3 : Below w.heap.size w w3 := (hb.alloc hb.size _).trans (hbb3.mono (by have := hb.size; simp; omega))
  have ho3 := owns_lower (c := w.heap.size) ho (by have := hb.size; simp; omega)
  clear hbb3 ho
  go_wp2_with fail
  go_ret
  exact ⟨_, rfl, ho3, hb3⟩

/-- The numbers of the header at at. -/
def tenAt (l : List UInt8) (o : Nat) : Ten := ⟨numI l o 4, numI l (o + 4) 4, numI l (o + 8) 8, numI l (o + 16) 8, numI l (o + 24) 8, numI l (o + 32) 8, numI l (o + 40) 4, numI l (o + 44) 4, numI l (o + 48) 8, numI l (o + 56) 8⟩
end Go.Proofs.YthnkehdcolnegaaGreat
