/-
  Parts of a proof.
-/
import Derived.Test.YteopgmieindojaaGreatGW25
import Derived.Test.YteopgmieindojaaGreatGW26
import Derived.Test.YteopgmieindojaaGreatGW03
import Derived.Test.YteopgmieindojaaGreatGW06
import Derived.Test.YteopgmieindojaaGreatWords
import Derived.Test.YteopgmieindojaaGreatObjMem
import Derived.Test.YteopgmieindojaaGreatGW04
import Derived.Test.YteopgmieindojaaGreatGW24
import Derived.Test.YteopgmieindojaaGreatGW02
namespace Go.Proofs.YteopgmieindojaaGreat
open Go.RowKit
def symsGoO (secs : List SecD) : Bool → List SymD → Bool
 | _, [] => true
 | locals, s :: t => bif (s.bind == 0) && !locals then false else symO s && (valO secs s && symsGoO secs (s.bind == 0) t)
def sym0O (syms : List SymD) : Bool := match syms[0]? with
 | none => false
 | some s => sym0B s
def symsO (secs : List SecD) (syms : List SymD) : Bool := bif decide (128 < syms.length) then false else sym0O syms && symsGoO secs true (syms.drop 1)
set_option maxRecDepth 100000 in
set_option maxHeartbeats 4000000 in
theorem ownMaySyms_any (v2 v4 : Value) (hs : Bool) (p0 p1 : Option Addr) (c0 c1 : Nat) (secs : List SecD) (syms : List SymD) (w : World) (hq : HasL 9 ESec w p0 secs) (hy : HasL 6 ESym w p1 syms) (hql : secs.length ≤ 1000000) (hyc : syms.length ≤ c1) :
  Calls Tryz.prog 93 #[objV (.slice p0 secs.length c0) (.slice p1 syms.length c1) v2 hs v4] w fun e w' => e = .returned (.bool (symsO secs syms)) ∧ Below w.heap.size w w' := by
 have hb1 : Below w.heap.size w (w.alloc (.cells #[.slice p0 secs.length c0, .slice p1 syms.length c1, v2, .bool hs, v4] 27)) := (Below.refl _ w).alloc (Nat.le_refl _) _
 have a0 : (w.alloc (.cells #[.slice p0 secs.length c0, .slice p1 syms.length c1, v2, .bool hs, v4] 27)).cell? ⟨w.heap.size, 0, none⟩ = some (.slice p0 secs.length c0) := by simp
 have a1 : (w.alloc (.cells #[.slice p0 secs.length c0, .slice p1 syms.length c1, v2, .bool hs, v4] 27)).cell? ⟨w.heap.size, 1, none⟩ = some (.slice p1 syms.length c1) := by simp
 have HQ := Lib.hid (hq.below ESec.keeps hb1)
 have HY := Lib.hid (hy.below ESym.keeps hb1)
 have HB1 := Lib.hid hb1
 have hr : symsO secs syms = bif decide (128 < syms.length) then false else sym0O syms && symsGoO secs true (syms.drop 1) := rfl
 have HV := Lib.hid fun s p0 c0 W hq => ownMayValue_any s p0 c0 secs W hq hql
 generalize symsO secs syms = res at *
 generalize hyn : syms.length = yl at *
 have HYN := Lib.hid hyn
 generalize hqn : secs.length = ql at *
 have HR := Lib.hid hr
 clear hb1 hq hy hyn hqn hr hql
 go_enter Tryz.func93, Tryz.ntmps93
 go_upto_region 1 with fail
 generalize w.alloc (.cells #[.slice p0 ql c0, .slice p1 yl c1, v2, .bool hs, v4] 27) = W1 at *
 have hbs := HB1.out.size
 by_cases h0 : yl < 1
 ·have hE : Hid (res = false) := Lib.hid (by
   have hn : syms[0]? = none := List.getElem?_eq_none (by rw [HYN.out]; omega)
   rw [HR.out, decide_eq_false (show ¬ 128 < yl by omega)]
   unfold sym0O
   rw [hn]
   rfl)
  obtain rfl : yl = 0 := by omega
  clear h0
  go_wp2_with fail
  go_ret
  rw [hE.out]
  exact ⟨rfl, HB1.out⟩
 ·by_cases h64 : 128 < yl
  ·have hE : Hid (res = false) := Lib.hid (by rw [HR.out, decide_eq_true h64]; rfl)
   have hI0 : ¬ (yl : Int) < 1 := by omega
   have hI : (128 : Int) < (yl : Int) := by omega
   clear h64 h0
   go_wp2_with fail
   go_ret
   rw [hE.out]
   exact ⟨rfl, HB1.out⟩
  ·obtain ⟨b, off, s, rfl, hs0, ⟨d0, _⟩, ⟨d1, _⟩, ⟨d2, _⟩, ⟨d3, _⟩, ⟨d4, _⟩, ⟨d5, _⟩⟩ := HY.out.at_ (i := 0) (by rw [HYN.out]; omega)
   have hE : Hid (res = (sym0B s && symsGoO secs true (syms.drop 1))) := Lib.hid (by
    rw [HR.out, decide_eq_false h64]
    unfold sym0O
    rw [hs0]
    rfl)
   have hI0 : ¬ (yl : Int) < 1 := by omega
   have hI : ¬ (128 : Int) < (yl : Int) := by omega
   have hI1 : (0 : Int) < (yl : Int) := by omega
   simp only [Nat.zero_mul, Nat.add_zero] at d0 d1 d2 d3 d4 d5
   have hrest : ∀ i x, (syms.drop 1)[i]? = some x → ESym W1 b (off + 6 + i * 6) x := fun i x hx => by
    rw [List.getElem?_drop] at hx
    obtain ⟨b', o', e, hE⟩ := HY.out (1 + i) x hx
    cases e
    rw [show off + 6 + i * 6 = off + (1 + i) * 6 by omega]
    exact hE
   have HREST := Lib.hid hrest
   obtain ⟨c, hc⟩ : ∃ c, c = sym0B s := ⟨_, rfl⟩
   have HC := Lib.hid hc
   rw [← hc] at hE
   clear HR hrest hc hs0
   go_cut [23] (fun s23 wx => s23 = .bool (!c) ∧ W1 = wx)
   case first =>
    go_wp2_with fail
    all_goals go_meet
    all_goals refine ⟨?_, by trivial⟩
    all_goals rw [HC.out]
    all_goals clear HC HREST HY HQ HB1 HV hE HYN
    all_goals simp [sym0B, *]
   case rest =>
    obtain ⟨rfl, rfl⟩ := hcut
    clear HC d0 d1 d2 d3 d4 d5
    cases c with
    | false =>
     have hE2 : Hid (res = false) := Lib.hid (by rw [hE.out]; rfl)
     go_wp2_with fail
     go_ret
     rw [hE2.out]
     exact ⟨rfl, HB1.out⟩
    | true =>
     have hE2 : Hid (res = symsGoO secs true (syms.drop 1)) := Lib.hid (by rw [hE.out]; rfl)
     have hI3 : (1 : Int) ≤ (yl : Int) := by omega
     go_upto_region 4 with fail
     go_cut [26, 27, 28] (fun s26 s27 s28 wx => ∃ (q : Option Addr) (c' : Nat), s26 = .slice q (yl - 1) c' ∧ (1 < yl → q = some ⟨b, off + 6, none⟩) ∧ s27 = .int .i64 ((yl - 1 : Nat) : Int) ∧ s28 = .int .i64 0 ∧ W1 = wx)
     case first =>
      by_cases hc1 : c1 = 1
      ·subst hc1
       go_wp2_with fail
       go_meet
       exact ⟨some ⟨b, off, none⟩, 0, by rw [show yl - 1 = 0 by omega], fun h => absurd h (by omega), by rw [show yl - 1 = 0 by omega]; rfl, rfl, by trivial⟩
      ·go_wp2_with fail
       go_meet
       exact ⟨_, _, rfl, fun h => rfl, rfl, rfl, by trivial⟩
     case rest =>
      obtain ⟨q, c', rfl, hq, rfl, rfl, rfl⟩ := hcut
      have HQ6 := Lib.hid hq
      clear hq
      go_wp2_with fail
      go_loopw [3, 28] (fun r3 r28 wr => ∃ (k : Nat) (lo : Bool), k ≤ yl - 1 ∧ r28 = .int .i64 (k : Int) ∧ r3 = .bool lo ∧ symsGoO secs true (syms.drop 1) = symsGoO secs lo ((syms.drop 1).drop k) ∧ Below W1.heap.size W1 wr) (fun _ r28 _ => (yl - 1) - (intOf r28).toNat)
      case atStart => exact ⟨0, true, Nat.zero_le _, rfl, rfl, rfl, Below.refl _ _⟩
      case round =>
       obtain ⟨k, lo, hk, rfl, rfl, hgo, hb⟩ := hrel
       have HGO := Lib.hid hgo
       clear hgo
       by_cases hlt : k < yl - 1
       ·obtain ⟨x, hx⟩ : ∃ x, (syms.drop 1)[k]? = some x := ⟨_, List.getElem?_eq_getElem (by rw [List.length_drop, HYN.out]; exact hlt)⟩
        obtain ⟨⟨x0, _⟩, ⟨x1, _⟩, ⟨x2, _⟩, ⟨x3, _⟩, ⟨x4, _⟩, ⟨x5, _⟩⟩ := HREST.out k x hx
        obtain rfl := HQ6.out (by omega)
        have e0 := cell_later hb x0
        have e1 := cell_later hb x1
        have e2 := cell_later hb x2
        have e3 := cell_later hb x3
        have e4 := cell_later hb x4
        have e5 := cell_later hb x5
        have hdr : (syms.drop 1).drop k = x :: (syms.drop 1).drop (k + 1) := by
         rw [List.drop_eq_getElem_cons (by rw [List.length_drop, HYN.out]; exact hlt)]
         congr 1
         exact (List.getElem?_eq_some_iff.1 hx).2
        have hstep : Hid (res = bif (x.bind == 0) && !lo then false else symO x && (valO secs x && symsGoO secs (x.bind == 0) ((syms.drop 1).drop (k + 1)))) := Lib.hid (by rw [hE2.out, HGO.out, hdr]; rfl)
        have hba : Below wr.heap.size wr (wr.alloc (.cells #[.string x.name, .int .i64 x.bind, .int .i64 x.type, .int .i64 x.sec, .int .i64 x.value, .int .i64 x.size] 98)) := (Below.refl _ wr).alloc (Nat.le_refl _) _
        have hha := heap_new wr (.cells #[.string x.name, .int .i64 x.bind, .int .i64 x.type, .int .i64 x.sec, .int .i64 x.value, .int .i64 x.size] 98)
        have hb2 : Below W1.heap.size W1 (wr.alloc (.cells #[.string x.name, .int .i64 x.bind, .int .i64 x.type, .int .i64 x.sec, .int .i64 x.value, .int .i64 x.size] 98)) := hb.trans (hba.mono hb.size)
        have HS := Lib.hid fun W => ownMaySym_any x W
        have hJ : (k : Int) < ((yl - 1 : Nat) : Int) := by omega
        have k2 : (0 : Int) ≤ (k : Int) := by omega
        clear hx x0 x1 x2 x3 x4 x5 hdr
        go_upto_region 7 with fail
        generalize wr.alloc (.cells #[.string x.name, .int .i64 x.bind, .int .i64 x.type, .int .i64 x.sec, .int .i64 x.value, .int .i64 x.size] 98) = ws at *
        obtain ⟨s0, s1, s2, s3, s4, s5⟩ := cells6 _ _ _ _ _ _ _ _ _ hha
        have b0 := cell_later hb2 a0
        have hbk := hb2.size
        have hfin : Below w.heap.size w ws := HB1.out.trans (hb2.mono hbs)
        clear e0 e1 e2 e3 e4 e5 hba hb hha
        obtain ⟨t, ht⟩ : ∃ t, t = (x.bind == 0) := ⟨_, rfl⟩
        have HT := Lib.hid ht
        rw [← ht] at hstep
        cases t with
        | true =>
         have ht1 : (x.bind == 0) = true := ht.symm
         clear ht HT
         cases lo with
         | false =>
          have hE3 : Hid (res = false) := Lib.hid (by rw [hstep.out]; rfl)
          go_wp2_with fail
          go_ret
          rw [hE3.out]
          exact ⟨rfl, hfin⟩
         | true =>
          have hstep2 : Hid (res = (symO x && (valO secs x && symsGoO secs true ((syms.drop 1).drop (k + 1))))) := Lib.hid (by rw [hstep.out]; rfl)
          clear hstep
          go_wp2_with fail
          refine (HS.out _).mono ?_
          rintro e w2 ⟨rfl, hb3⟩
          have hb4 : Below W1.heap.size W1 w2 := hb2.trans (hb3.mono hbk)
          have hfin2 : Below w.heap.size w w2 := HB1.out.trans (hb4.mono hbs)
          have t0 := cell_later hb3 s0
          have t1 := cell_later hb3 s1
          have t2 := cell_later hb3 s2
          have t3 := cell_later hb3 s3
          have t4 := cell_later hb3 s4
          have t5 := cell_later hb3 s5
          have b1 := cell_later hb3 b0
          clear s0 s1 s2 s3 s4 s5 hb3 b0 hb2 hfin HS
          generalize symO x = q1 at *
          generalize hv : valO secs x = q2 at *
          have HV2 := Lib.hid (HV.out x p0 c0 w2 (HQ.out.below ESec.keeps hb4))
          rw [hv] at HV2
          clear hv
          cases q1 with
          | false =>
           have hE3 : Hid (res = false) := Lib.hid (by rw [hstep2.out]; rfl)
           go_wp2_with fail
           go_ret
           rw [hE3.out]
           exact ⟨rfl, hfin2⟩
          | true =>
           go_wp2_with fail
           refine HV2.out.mono ?_
           rintro e w3 ⟨rfl, hb5⟩
           have hb6 : Below W1.heap.size W1 w3 := hb4.trans (hb5.mono hb4.size)
           have hfin3 : Below w.heap.size w w3 := HB1.out.trans (hb6.mono hbs)
           clear t0 t1 t2 t3 t4 t5 b1 hb5 hb4 HV2 hfin2
           cases q2 with
           | false =>
            have hE3 : Hid (res = false) := Lib.hid (by rw [hstep2.out]; rfl)
            go_wp2_with fail
            go_ret
            rw [hE3.out]
            exact ⟨rfl, hfin3⟩
           | true =>
            have hE3 : Hid (symsGoO secs true (syms.drop 1) = symsGoO secs true ((syms.drop 1).drop (k + 1))) := Lib.hid (by rw [← hE2.out, hstep2.out]; rfl)
            go_wp2_with fail
            go_roundw
            case rel => exact ⟨k + 1, true, hlt, by go_num, rfl, hE3.out, hb6⟩
            case measure => simp [intOf]; omega
        | false =>
         have ht1 : (x.bind == 0) = false := ht.symm
         clear ht HT
         have hstep2 : Hid (res = (symO x && (valO secs x && symsGoO secs false ((syms.drop 1).drop (k + 1))))) := Lib.hid (by rw [hstep.out]; rfl)
         clear hstep
         go_wp2_with fail
         refine (HS.out _).mono ?_
         rintro e w2 ⟨rfl, hb3⟩
         have hb4 : Below W1.heap.size W1 w2 := hb2.trans (hb3.mono hbk)
         have hfin2 : Below w.heap.size w w2 := HB1.out.trans (hb4.mono hbs)
         have t0 := cell_later hb3 s0
         have t1 := cell_later hb3 s1
         have t2 := cell_later hb3 s2
         have t3 := cell_later hb3 s3
         have t4 := cell_later hb3 s4
         have t5 := cell_later hb3 s5
         have b1 := cell_later hb3 b0
         clear s0 s1 s2 s3 s4 s5 hb3 b0 hb2 hfin HS
         generalize symO x = q1 at *
         generalize hv : valO secs x = q2 at *
         have HV2 := Lib.hid (HV.out x p0 c0 w2 (HQ.out.below ESec.keeps hb4))
         rw [hv] at HV2
         clear hv
         cases q1 with
         | false =>
          have hE3 : Hid (res = false) := Lib.hid (by rw [hstep2.out]; rfl)
          go_wp2_with fail
          go_ret
          rw [hE3.out]
          exact ⟨rfl, hfin2⟩
         | true =>
          go_wp2_with fail
          refine HV2.out.mono ?_
          rintro e w3 ⟨rfl, hb5⟩
          have hb6 : Below W1.heap.size W1 w3 := hb4.trans (hb5.mono hb4.size)
          have hfin3 : Below w.heap.size w w3 := HB1.out.trans (hb6.mono hbs)
          clear t0 t1 t2 t3 t4 t5 b1 hb5 hb4 HV2 hfin2
          cases q2 with
          | false =>
           have hE3 : Hid (res = false) := Lib.hid (by rw [hstep2.out]; rfl)
           go_wp2_with fail
           go_ret
           rw [hE3.out]
           exact ⟨rfl, hfin3⟩
          | true =>
           have hE3 : Hid (symsGoO secs true (syms.drop 1) = symsGoO secs false ((syms.drop 1).drop (k + 1))) := Lib.hid (by rw [← hE2.out, hstep2.out]; rfl)
           go_wp2_with fail
           go_roundw
           case rel => exact ⟨k + 1, false, hlt, by go_num, rfl, hE3.out, hb6⟩
           case measure => simp [intOf]; omega
       ·obtain rfl : k = yl - 1 := by omega
        have hJ : ¬ ((yl - 1 : Nat) : Int) < ((yl - 1 : Nat) : Int) := by omega
        have hE3 : Hid (res = true) := Lib.hid (by rw [hE2.out, HGO.out, List.drop_eq_nil_of_le (by rw [List.length_drop, HYN.out]; exact Nat.le_refl _)]; rfl)
        go_wp2_with fail
        go_ret
        rw [hE3.out]
        exact ⟨rfl, HB1.out.trans (hb.mono hbs)⟩
end Go.Proofs.YteopgmieindojaaGreat

namespace Go.Proofs.YteopgmieindojaaGreat
open Go.RowKit
theorem sectB_length (t : Ten) : (sectB t).length = 64 := rfl
def tenAt (l : List UInt8) (o : Nat) : Ten := ⟨numI l o 4, numI l (o + 4) 4, numI l (o + 8) 8, numI l (o + 16) 8, numI l (o + 24) 8, numI l (o + 32) 8, numI l (o + 40) 4, numI l (o + 44) 4, numI l (o + 48) 8, numI l (o + 56) 8⟩
end Go.Proofs.YteopgmieindojaaGreat

namespace Go.Proofs.YteopgmieindojaaGreat
open Go.RowKit
structure PartD where
 (h : Ten) (name : ByteArray) (b : List UInt8)
structure PV where
 (h : Ten) (name : ByteArray) (v : Value)
def PV.cells (q : Bool) (p : PV) : List Value := bif q then p.h.l.map (Value.int .i64) ++ [.string p.name, p.v] else .string p.name :: (p.h.l.map (Value.int .i64) ++ [p.v])
def pvs (q : Bool) (l : List PV) : List Value := l.flatMap (PV.cells q)
theorem PV.cells_length (q : Bool) (p : PV) : (p.cells q).length = 12 := by cases q <;> rfl
theorem pvs_length (q : Bool) : ∀ l : List PV, (pvs q l).length = l.length * 12
 | [] => rfl
 | p :: r => by
  have h := pvs_length q r
  unfold pvs at h ⊢
  rw [List.flatMap_cons, List.length_append, PV.cells_length, h, List.length_cons]
  omega
theorem pvs_append (q : Bool) (a b : List PV) : pvs q (a ++ b) = pvs q a ++ pvs q b := by unfold pvs; rw [List.flatMap_append]
theorem pvs_snoc (q : Bool) (a : List PV) (p : PV) : pvs q (a ++ [p]) = pvs q a ++ p.cells q := by rw [pvs_append]; unfold pvs; simp
theorem pvs_get (q : Bool) : ∀ (l : List PV) (i : Nat) (p : PV) (j : Nat), l[i]? = some p → j < 12 → (pvs q l)[i * 12 + j]? = (p.cells q)[j]?
 | [], i, p, j, h, _ => by simp at h
 | x :: r, 0, p, j, h, hj => by
  simp at h
  subst h
  unfold pvs
  rw [List.flatMap_cons, List.getElem?_append_left (by rw [PV.cells_length]; omega), Nat.zero_mul, Nat.zero_add]
 | x :: r, i + 1, p, j, h, hj => by
  have ih := pvs_get q r i p j (by simpa using h) hj
  unfold pvs at ih ⊢
  rw [List.flatMap_cons, List.getElem?_append_right (by rw [PV.cells_length]; omega), PV.cells_length, ← ih]
  congr 1
  omega
def SlB (w : World) (K : Nat → Prop) (v : Value) (l : List UInt8) : Prop :=
 ∃ p c, v = .slice p l.length c ∧ l.length ≤ c ∧ c ≤ maxLen ∧ (p = none → c = 0) ∧ ∀ i x, l[i]? = some x → ∃ a, p = some a ∧ w.cell? (a.add i) = some (u8v x) ∧ K a.block
theorem SlB.weaken {w : World} {K K' : Nat → Prop} {v : Value} {l : List UInt8} (h : SlB w K v l) (hK : ∀ b, b < w.heap.size → K b → K' b) : SlB w K' v l := by
 obtain ⟨p, c, e, h1, h2, h3, h4⟩ := h
 refine ⟨p, c, e, h1, h2, h3, fun i x hx => ?_⟩
 obtain ⟨a, ea, hc, hk⟩ := h4 i x hx
 exact ⟨a, ea, hc, hK _ (by have := World.block_lt_of_cell? w _ hc; rwa [block_of_add] at this) hk⟩
theorem SlB.below {w w' : World} {K : Nat → Prop} {v : Value} {l : List UInt8} (h : SlB w K v l) (hb : Below w.heap.size w w') : SlB w' K v l := by
 obtain ⟨p, c, e, h1, h2, h3, h4⟩ := h
 refine ⟨p, c, e, h1, h2, h3, fun i x hx => ?_⟩
 obtain ⟨a, ea, hc, hk⟩ := h4 i x hx
 exact ⟨a, ea, cell_later hb hc, hk⟩
theorem SlB.grown {w w' : World} {row row' : Option Nat} {K : Nat → Prop} {v : Value} {l : List UInt8} (h : SlB w (fun b => K b ∧ some b ≠ row) v l) (hg : w.grownBy w' row) (hat : row' = row ∨ row' = some w.heap.size) : SlB w' (fun b => K b ∧ some b ≠ row') v l := by
 obtain ⟨p, c, e, h1, h2, h3, h4⟩ := h
 refine ⟨p, c, e, h1, h2, h3, fun i x hx => ?_⟩
 obtain ⟨a, ea, hc, hk, hr⟩ := h4 i x hx
 have hlt := World.block_lt_of_cell? w _ hc
 rw [block_of_add] at hlt
 refine ⟨a, ea, hg.cell hc (by rw [block_of_add]; exact hr), hk, ?_⟩
 rcases hat with rfl | rfl
 ·exact hr
 ·intro h
  have h := Option.some.inj h
  omega
theorem SlB.has {w : World} {K : Nat → Prop} {v : Value} {l : List UInt8} (h : SlB w K v l) : ∃ p c, v = .slice p l.length c ∧ l.length ≤ c ∧ c ≤ maxLen ∧ (p = none → c = 0) ∧ Has w p l := by
 obtain ⟨p, c, e, h1, h2, h3, h4⟩ := h
 refine ⟨p, c, e, h1, h2, h3, fun i x hx => ?_⟩
 obtain ⟨a, ea, hc, _⟩ := h4 i x hx
 exact ⟨a, ea, hc⟩
theorem SlB.of_owns {w : World} {base : Nat} {v : Value} {n : Nat} {l : List UInt8} {T : TypeId} {K : Nat → Prop} (h : w.ownsRow base T 1 v n (l.map u8v)) (hK : ∀ b, v.ownBlock = some b → K b) : SlB w K v l := by
 have hl : l.length = n := by have := h.1; simpa using this
 rcases h.2 with ⟨rfl, hn⟩ | ⟨g, cap, cur, rfl, _, hg, hnc, hcm, _, _⟩
 ·subst hn
  have h0 : l = [] := List.eq_nil_of_length_eq_zero hl
  subst h0
  exact ⟨none, 0, rfl, Nat.le_refl _, Nat.zero_le _, fun _ => rfl, fun i x hx => by simp at hx⟩
 ·refine ⟨some ⟨g, 0, none⟩, cap, by rw [hl], by omega, hcm, (fun h => by cases h), fun i x hx => ⟨_, rfl, ?_, hK g rfl⟩⟩
  have hi : i < n := by have := (List.getElem?_eq_some_iff.1 hx).1; omega
  have hc := h.cellAt i (by omega)
  rw [List.getElem?_map, hx] at hc
  have ha : (⟨g, 0, none⟩ : Addr).add i = ⟨g, i, none⟩ := by unfold Addr.add; split <;> simp_all
  rw [ha]
  simpa using hc
theorem SlB.oneCell {w : World} {K : Nat → Prop} {v : Value} {l : List UInt8} (h : SlB w K v l) : v.oneCell' = true := by
 obtain ⟨p, c, rfl, _⟩ := h
 rfl
def PartsAt (w : World) (K : Nat → Prop) (pv : List PV) (pd : List PartD) : Prop :=
 pv.length = pd.length ∧ ∀ (i : Nat) (x : PV) (y : PartD), pv[i]? = some x → pd[i]? = some y → x.h = y.h ∧ x.name = y.name ∧ SlB w K x.v y.b
theorem PartsAt.nil (w : World) (K : Nat → Prop) : PartsAt w K [] [] := ⟨rfl, fun i x y h => by simp at h⟩
theorem PartsAt.weaken {w : World} {K K' : Nat → Prop} {pv : List PV} {pd : List PartD} (h : PartsAt w K pv pd) (hK : ∀ b, b < w.heap.size → K b → K' b) : PartsAt w K' pv pd :=
 ⟨h.1, fun i x y h1 h2 => let ⟨a, b, c⟩ := h.2 i x y h1 h2; ⟨a, b, c.weaken hK⟩⟩
theorem PartsAt.below {w w' : World} {K : Nat → Prop} {pv : List PV} {pd : List PartD} (h : PartsAt w K pv pd) (hb : Below w.heap.size w w') : PartsAt w' K pv pd :=
 ⟨h.1, fun i x y h1 h2 => let ⟨a, b, c⟩ := h.2 i x y h1 h2; ⟨a, b, c.below hb⟩⟩
theorem PartsAt.grown {w w' : World} {row row' : Option Nat} {K : Nat → Prop} {pv : List PV} {pd : List PartD} (h : PartsAt w (fun b => K b ∧ some b ≠ row) pv pd) (hg : w.grownBy w' row) (hat : row' = row ∨ row' = some w.heap.size) : PartsAt w' (fun b => K b ∧ some b ≠ row') pv pd :=
 ⟨h.1, fun i x y h1 h2 => let ⟨a, b, c⟩ := h.2 i x y h1 h2; ⟨a, b, c.grown hg hat⟩⟩
theorem PartsAt.append {w : World} {K : Nat → Prop} {a b : List PV} {c d : List PartD} (h1 : PartsAt w K a c) (h2 : PartsAt w K b d) : PartsAt w K (a ++ b) (c ++ d) := by
 refine ⟨by simp [h1.1, h2.1], fun i x y hx hy => ?_⟩
 rw [List.getElem?_append] at hx hy
 rw [← h1.1] at hy
 split at hx <;> split at hy
 ·exact h1.2 i x y hx hy
 ·omega
 ·omega
 ·exact h2.2 _ x y hx hy
theorem PartsAt.one {w : World} {K : Nat → Prop} {h : Ten} {n : ByteArray} {v : Value} {l : List UInt8} (hs : SlB w K v l) : PartsAt w K [⟨h, n, v⟩] [⟨h, n, l⟩] :=
 ⟨rfl, fun i x y hx hy => by
  match i, hx, hy with
  | 0, hx, hy =>
   simp at hx hy
   subst hx hy
   exact ⟨rfl, rfl, hs⟩⟩
theorem PartsAt.oneCell {w : World} {K : Nat → Prop} {q : Bool} {pv : List PV} {pd : List PartD} (h : PartsAt w K pv pd) : ∀ u ∈ pvs q pv, u.oneCell' = true := fun u hu => by
 unfold pvs at hu
 obtain ⟨x, hx, hu⟩ := List.mem_flatMap.1 hu
 obtain ⟨i, hi⟩ := List.getElem?_of_mem hx
 have hil : i < pd.length := by rw [← h.1]; exact (List.getElem?_eq_some_iff.1 hi).1
 have hs := (h.2 i x _ hi (List.getElem?_eq_getElem hil)).2.2.oneCell
 unfold PV.cells at hu
 have hint : ∀ y ∈ x.h.l.map (Value.int .i64), y.oneCell' = true := fun y hy => by
  obtain ⟨z, _, rfl⟩ := List.mem_map.1 hy
  rfl
 cases q
 ·simp only [cond_false, List.mem_cons, List.mem_append, List.not_mem_nil, or_false] at hu
  rcases hu with rfl | hu | rfl
  ·rfl
  ·exact hint _ hu
  ·exact hs
 ·simp only [cond_true, List.mem_cons, List.mem_append, List.not_mem_nil, or_false] at hu
  rcases hu with hu | rfl | rfl
  ·exact hint _ hu
  ·rfl
  ·exact hs
def GivesParts (T : TypeId) (q : Bool) (lo : Nat) (pd : List PartD) (w : World) (e : Ending) (w' : World) : Prop :=
 ∃ v pv, e = .returned v ∧ w'.ownsRow w.heap.size T 12 v pd.length (pvs q pv) ∧ PartsAt w' (fun b => lo ≤ b ∧ some b ≠ v.ownBlock) pv pd ∧ Below w.heap.size w w'
theorem push_part {wr w4 : World} {base lo : Nat} {T : TypeId} {q : Bool} {v v1 : Value} {pv : List PV} {pd : List PartD} {p : PV} {y : PartD} {o : Obj}
  (hpa : PartsAt wr (fun b => lo ≤ b ∧ some b ≠ v.ownBlock) pv pd) (hs : PartsAt wr (fun b => lo ≤ b ∧ some b ≠ v.ownBlock) [p] [y])
  (hown4 : w4.ownsRow base T 12 v1 (pd.length + 1) (pvs q pv ++ p.cells q)) (hg : (wr.alloc o).grownBy w4 v.ownBlock) (hat : v1.ownBlock = v.ownBlock ∨ v1.ownBlock = some (wr.heap.size + 1)) :
  w4.ownsRow base T 12 v1 (pd ++ [y]).length (pvs q (pv ++ [p])) ∧ PartsAt w4 (fun b => lo ≤ b ∧ some b ≠ v1.ownBlock) (pv ++ [p]) (pd ++ [y]) := by
 have hb : Below wr.heap.size wr (wr.alloc o) := (Below.refl _ wr).alloc (Nat.le_refl _) _
 exact ⟨by rw [pvs_snoc, List.length_append]; exact hown4, ((hpa.append hs).below hb).grown hg (by simpa using hat)⟩
theorem ten_cell_at (w : World) (cs : Array Value) (t : TypeId) : ∀ j z, cs.toList[j]? = some z → (w.alloc (.cells cs t)).cell? ((⟨w.heap.size, 0, none⟩ : Addr).add j) = some z := fun j z hj => by
 have ha : (⟨w.heap.size, 0, none⟩ : Addr).add j = ⟨w.heap.size, j, none⟩ := by unfold Addr.add; split <;> simp_all
 rw [ha]
 refine (cell_of_row _ w.heap.size j _ t (0, 0) (heap_alloc_new w _)).trans ?_
 simpa using hj
end Go.Proofs.YteopgmieindojaaGreat

namespace Go.Proofs.YteopgmieindojaaGreat
open Go.RowKit
def ulebB : Nat → Nat → List UInt8
 | 0, _ => []
 | f + 1, n => if n < 128 then [UInt8.ofNat n] else UInt8.ofNat (128 + n % 128) :: ulebB f (n / 128)
theorem ulebB_length : ∀ f n, (ulebB f n).length ≤ f
 | 0, _ => Nat.le_refl _
 | f + 1, n => by
  unfold ulebB
  split
  ·simp
  ·have := ulebB_length f (n / 128)
   simp
   omega
end Go.Proofs.YteopgmieindojaaGreat

namespace Go.Proofs.YteopgmieindojaaGreat
open Go.RowKit
def nRela : ByteArray := ⟨#[46, 114, 101, 108, 97]⟩
def nGroup : ByteArray := ⟨#[46, 103, 114, 111, 117, 112]⟩
def nSig : ByteArray := ⟨#[46, 108, 108, 118, 109, 95, 97, 100, 100, 114, 115, 105, 103]⟩
def nSymtab : ByteArray := ⟨#[46, 115, 121, 109, 116, 97, 98]⟩
def nStrtab : ByteArray := ⟨#[46, 115, 116, 114, 116, 97, 98]⟩
def nShstr : ByteArray := ⟨#[46, 115, 104, 115, 116, 114, 116, 97, 98]⟩
def nNone : ByteArray := ⟨#[]⟩
def fouOf (r : RelD) : Fou := ⟨r.off, r.type, r.sym, r.add⟩
def relsBy (l : List RelD) : List UInt8 := l.flatMap fun r => relB (fouOf r)
def relHead (a n : Int) : Ten := ⟨0, 4, 0, 0, 0, 0, a, n, 8, 24⟩
def relPart (a n : Int) (s : SecD) : List PartD := if s.rels.length = 0 then [] else [⟨relHead a n, nRela, relsBy s.rels⟩]
def relPartAt (a : Int) (secs : List SecD) (i : Nat) : List PartD := match secs[i]? with | some s => relPart a ((i : Int) + 1) s | none => []
def relPs (a : Int) (secs : List SecD) (k : Nat) : List PartD := (List.range k).flatMap (relPartAt a secs)
theorem relPs_succ {a : Int} {secs : List SecD} {k : Nat} {s : SecD} (h : secs[k]? = some s) : relPs a secs (k + 1) = relPs a secs k ++ relPart a ((k : Int) + 1) s := by
 unfold relPs
 rw [List.range_succ, List.flatMap_append]
 simp [relPartAt, h]
theorem relPart_len (a n : Int) (s : SecD) : (relPart a n s).length ≤ 1 := by unfold relPart; split <;> simp
theorem relPs_len (a : Int) (secs : List SecD) : ∀ k, (relPs a secs k).length ≤ k
 | 0 => by simp [relPs]
 | k + 1 => by
  have ih := relPs_len a secs k
  unfold relPs at ih ⊢
  rw [List.range_succ, List.flatMap_append, List.length_append]
  have : (relPartAt a secs k).length ≤ 1 := by
   unfold relPartAt
   split
   ·exact relPart_len _ _ _
   ·simp
  simp
  simp at ih
  omega
theorem flatMap_len {α β : Type} (f g : α → List β) (h : ∀ x, (f x).length = (g x).length) : ∀ l : List α, (l.flatMap f).length = (l.flatMap g).length
 | [] => rfl
 | x :: r => by rw [List.flatMap_cons, List.flatMap_cons, List.length_append, List.length_append, h x, flatMap_len f g h r]
theorem relPs_len_any (a b : Int) (secs : List SecD) (k : Nat) : (relPs a secs k).length = (relPs b secs k).length :=
 flatMap_len _ _ (fun i => by unfold relPartAt relPart; split <;> (try split) <;> rfl) _
theorem relsBy_snoc (l : List RelD) (r : RelD) : relsBy (l ++ [r]) = relsBy l ++ relB (fouOf r) := by simp [relsBy]
theorem relsBy_length : ∀ l : List RelD, (relsBy l).length = 24 * l.length
 | [] => rfl
 | r :: l => by
  have ih := relsBy_length l
  unfold relsBy at ih ⊢
  rw [List.flatMap_cons, List.length_append, relB_length, ih, List.length_cons]
  omega
def memB (m : Int) : List UInt8 := leB 4 (u64n m)
def groupBy (ms : List Int) : List UInt8 := [1, 0, 0, 0] ++ ms.flatMap memB
theorem groupBy_snoc (l : List Int) (r : Int) : groupBy (l ++ [r]) = groupBy l ++ memB r := by simp [groupBy]
theorem groupBy_length : ∀ l : List Int, (groupBy l).length = 4 + 4 * l.length
 | [] => rfl
 | r :: l => by
  have ih := groupBy_length l
  unfold groupBy at ih ⊢
  simp only [List.length_append, List.flatMap_cons, List.length_cons, List.length_nil] at ih ⊢
  have : (memB r).length = 4 := leB_length _ _
  omega
def groupHead (a y : Int) : Ten := ⟨0, 17, 0, 0, 0, 0, a, y, 4, 4⟩
def groupPart (a : Int) (g : GroupD) : PartD := ⟨groupHead a g.sym, nGroup, groupBy g.members⟩
def sigBy (l : List Int) : List UInt8 := l.flatMap fun n => ulebB 5 n.toNat
theorem sigBy_snoc (l : List Int) (r : Int) : sigBy (l ++ [r]) = sigBy l ++ ulebB 5 r.toNat := by simp [sigBy]
theorem sigBy_length : ∀ l : List Int, (sigBy l).length ≤ 5 * l.length
 | [] => Nat.le_refl _
 | r :: l => by
  have ih := sigBy_length l
  unfold sigBy at ih ⊢
  have := ulebB_length 5 r.toNat
  rw [List.flatMap_cons, List.length_append, List.length_cons]
  omega
def sigHead (a : Int) : Ten := ⟨0, 1879002115, 0, 0, 0, 0, a, 0, 1, 0⟩
def sigPart (a : Int) (l : List Int) : PartD := ⟨sigHead a, nSig, sigBy l⟩
def groupPs (a : Int) (gs : List GroupD) (has : Bool) (sig : List Int) : List PartD := gs.map (groupPart a) ++ bif has then [sigPart a sig] else []
theorem groupPs_len_any (a b : Int) (gs : List GroupD) (has : Bool) (sig : List Int) : (groupPs a gs has sig).length = (groupPs b gs has sig).length := by cases has <;> simp [groupPs]
theorem groupPs_len (a : Int) (gs : List GroupD) (has : Bool) (sig : List Int) : (groupPs a gs has sig).length ≤ gs.length + 1 := by cases has <;> simp [groupPs]
def symIdx (x : Int) : Int := if x = -1 then 65521 else x
def sixOf (pl : Nat) (s : SymD) : Six := ⟨pl, s.bind, s.type, symIdx s.sec, s.value, s.size⟩
def symNames (l : List SymD) : List Nm := l.map fun s => lst s.name
def symsBy (ns : List Nm) (l : List SymD) : List UInt8 := l.flatMap fun s => entB (sixOf (placeOf ns (lst s.name)) s)
theorem symsBy_snoc (ns : List Nm) (l : List SymD) (s : SymD) : symsBy ns (l ++ [s]) = symsBy ns l ++ entB (sixOf (placeOf ns (lst s.name)) s) := by simp [symsBy]
theorem symsBy_length (ns : List Nm) : ∀ l : List SymD, (symsBy ns l).length = 24 * l.length
 | [] => rfl
 | r :: l => by
  have ih := symsBy_length ns l
  unfold symsBy at ih ⊢
  rw [List.flatMap_cons, List.length_append, entB_length, ih, List.length_cons]
  omega
def localsOf (l : List SymD) : Nat := (l.filter fun s => s.bind == 0).length
theorem localsOf_snoc (l : List SymD) (s : SymD) : localsOf (l ++ [s]) = localsOf l + (bif s.bind == 0 then 1 else 0) := by
 unfold localsOf
 rw [List.filter_append, List.length_append]
 cases h : s.bind == 0 <;> simp [h]
theorem localsOf_le (l : List SymD) : localsOf l ≤ l.length := List.length_filter_le _ _
def symHead (a : Int) (n : Nat) : Ten := ⟨0, 2, 0, 0, 0, 0, a + 1, n, 8, 24⟩
def tabHead : Ten := ⟨0, 3, 0, 0, 0, 0, 0, 0, 1, 0⟩
def symPs (a : Int) (l : List SymD) : List PartD := [⟨symHead a (localsOf l), nSymtab, symsBy (symNames l) l⟩, ⟨tabHead, nStrtab, (tabOf (symNames l)).tb⟩]
def secHead (s : SecD) : Ten := ⟨0, s.type, s.flags, 0, 0, s.size, s.link, 0, s.align, s.ent⟩
def secPart (s : SecD) : PartD := ⟨secHead s, s.name, s.data⟩
def nul10 : Ten := ⟨0, 0, 0, 0, 0, 0, 0, 0, 0, 0⟩
def zeroPart : PartD := ⟨nul10, nNone, []⟩
def symNo (o : ObjD) : Nat := 1 + o.secs.length + (relPs 0 o.secs o.secs.length).length + (groupPs 0 o.groups o.hasSig o.sig).length
def partsOf (o : ObjD) : List PartD := zeroPart :: o.secs.map secPart ++ relPs (symNo o) o.secs o.secs.length ++ groupPs (symNo o) o.groups o.hasSig o.sig ++ symPs (symNo o) o.syms
theorem partsOf_length (o : ObjD) : (partsOf o).length = symNo o + 2 := by
 unfold partsOf
 simp only [List.length_append, List.length_cons, List.length_map]
 rw [relPs_len_any (symNo o) 0, groupPs_len_any (symNo o) 0]
 unfold symNo symPs
 simp only [List.length_cons, List.length_nil]
 omega
def headNames (l : List PartD) : List Nm := l.map (fun p => lst p.name) ++ [lst nShstr]
def lastPart (ns : List Nm) : PartD := ⟨tabHead, nNone, (tabOf ns).tb⟩
def bodyOf (l : List PartD) : List UInt8 := l.flatMap PartD.b
theorem bodyOf_snoc (l : List PartD) (p : PartD) : bodyOf (l ++ [p]) = bodyOf l ++ p.b := by simp [bodyOf]
def headAt (pl : List Nat) (i : Nat) (off : Nat) (p : PartD) : Ten :=
 ⟨((pl.getD i 0 : Nat) : Int), p.h.b, p.h.c, p.h.d, if i = 0 then p.h.e else 64 + (off : Int), if i = 0 ∨ p.h.b = 8 then p.h.f else (p.b.length : Int), p.h.g, p.h.h, p.h.i, p.h.j⟩
def headBy (pl : List Nat) (l : List PartD) (i : Nat) : List UInt8 := match l[i]? with
 | some p => sectB (headAt pl i (bodyOf (l.take i)).length p)
 | none => []
def headsBy (pl : List Nat) (l : List PartD) (k : Nat) : List UInt8 := (List.range k).flatMap (headBy pl l)
theorem headsBy_succ {pl : List Nat} {l : List PartD} {k : Nat} {p : PartD} (h : l[k]? = some p) : headsBy pl l (k + 1) = headsBy pl l k ++ sectB (headAt pl k (bodyOf (l.take k)).length p) := by
 unfold headsBy
 rw [List.range_succ, List.flatMap_append]
 simp [headBy, h]
theorem headsBy_length (pl : List Nat) (l : List PartD) : ∀ k, k ≤ l.length → (headsBy pl l k).length = 64 * k
 | 0, _ => rfl
 | k + 1, h => by
  have ih := headsBy_length pl l k (by omega)
  rw [headsBy_succ (List.getElem?_eq_getElem h), List.length_append, ih, sectB_length]
  omega
def layOf (l : List PartD) : List UInt8 :=
 let ns := headNames l
 let a := l ++ [lastPart ns]
 hdrB (64 + (bodyOf a).length) a.length (a.length - 1) ++ bodyOf a ++ headsBy (placesOf ns) a a.length
def bytesOf (o : ObjD) : List UInt8 := layOf (partsOf o)
structure Lays (o : ObjD) : Prop where
 nsec : o.secs.length ≤ 40
 nsym : o.syms.length ≤ 140
 ngrp : o.groups.length ≤ 40
 nsig : o.sig.length ≤ 16384
 secs : ∀ s ∈ o.secs, fitsB s.type = true ∧ fitsB s.flags = true ∧ fitsB s.size = true ∧ fitsB s.link = true ∧ fitsB s.align = true ∧ fitsB s.ent = true ∧ mayB (lst s.name) = true ∧ s.data.length ≤ 20000 ∧ s.rels.length ≤ 80 ∧
  (s.type ≠ 8 → s.size = s.data.length) ∧ ∀ r ∈ s.rels, (fouOf r).may ∧ -9223372036854775808 ≤ r.add ∧ r.add ≤ 9223372036854775807
 grps : ∀ g ∈ o.groups, fitsB g.sym = true ∧ g.members.length ≤ 50 ∧ ∀ m ∈ g.members, fitsB m = true
 syms : ∀ s ∈ o.syms, mayB (lst s.name) = true ∧ fitsB s.value = true ∧ fitsB s.size = true ∧ 0 ≤ s.bind ∧ s.bind ≤ 2 ∧ 0 ≤ s.type ∧ s.type ≤ 3 ∧ -1 ≤ s.sec ∧ s.sec ≤ 40
 sigs : ∀ n ∈ o.sig, fitsB n = true
theorem placesOf_length' (ns : List Nm) : (placesOf ns).length = ns.length := by simp [placesOf]
theorem placeOf_le (ns : List Nm) (m : Nm) (h : m = [] ∨ m ∈ ns) : placeOf ns m ≤ (tabOf ns).tb.length := by
 obtain ⟨r, hr⟩ := stands ns m h
 have : ((tabOf ns).tb.drop (placeOf ns m)).length = m.length + (r.length + 1) := by rw [hr]; simp
 rw [List.length_drop] at this
 omega
theorem tab_small (ns : List Nm) (hl : ns.length ≤ 10000) (h : ∀ n ∈ ns, mayB n = true) : (tabOf ns).tb.length ≤ 330001 := by
 rcases tab_length ns with h1 | ⟨n, hn, h2⟩
 ·omega
 ·rw [h n hn] at h2
  cases h2
theorem places_small (l : List SymD) (hl : l.length ≤ 10000) (h : ∀ s ∈ l, mayB (lst s.name) = true) : ∀ s ∈ l, placeOf (symNames l) (lst s.name) ≤ 2147483647 := fun s hs => by
 have h1 := placeOf_le (symNames l) (lst s.name) (.inr (List.mem_map.2 ⟨s, hs, rfl⟩))
 have h2 := tab_small (symNames l) (by unfold symNames; simpa using hl) fun n hn => by
  obtain ⟨y, hy, rfl⟩ := List.mem_map.1 hn
  exact h y hy
 omega
def PartOK (p : PartD) : Prop := p.b.length ≤ 400000 ∧ fitsB p.h.b = true ∧ fitsB p.h.c = true ∧ fitsB p.h.d = true ∧ fitsB p.h.e = true ∧ fitsB p.h.f = true ∧ fitsB p.h.g = true ∧ fitsB p.h.h = true ∧ fitsB p.h.i = true ∧ fitsB p.h.j = true
theorem fitsN (n : Nat) (h : n ≤ 2147483647) : fitsB (n : Int) = true := (fitsB_iff _).2 ⟨by omega, by omega⟩
theorem symNo_le {o : ObjD} (hl : Lays o) : symNo o ≤ 122 := by
 have h1 := relPs_len 0 o.secs o.secs.length
 have h2 := groupPs_len 0 o.groups o.hasSig o.sig
 have h3 := hl.nsec
 have h4 := hl.ngrp
 unfold symNo
 omega
theorem partsOf_ok {o : ObjD} (hl : Lays o) : ∀ p ∈ partsOf o, PartOK p := fun p hp => by
 have ha := symNo_le hl
 unfold partsOf at hp
 simp only [List.mem_append, List.mem_cons, List.mem_map] at hp
 rcases hp with (((rfl | ⟨s, hs, rfl⟩) | hp) | hp) | hp
 ·exact ⟨by simp [zeroPart], rfl, rfl, rfl, rfl, rfl, rfl, rfl, rfl, rfl⟩
 ·obtain ⟨h1, h2, h3, h4, h5, h6, _, h8, _⟩ := hl.secs s hs
  exact ⟨by show s.data.length ≤ _; omega, h1, h2, rfl, rfl, h3, h4, rfl, h5, h6⟩
 ·unfold relPs at hp
  obtain ⟨i, hi, hp⟩ := List.mem_flatMap.1 hp
  have hi2 := List.mem_range.1 hi
  have h3 := hl.nsec
  unfold relPartAt at hp
  split at hp
  ·rename_i s hs
   unfold relPart at hp
   split at hp
   ·simp at hp
   ·simp only [List.mem_singleton] at hp
    subst hp
    have hr := (hl.secs s (List.mem_of_getElem? hs)).2.2.2.2.2.2.2.2.1
    refine ⟨by show (relsBy s.rels).length ≤ _; rw [relsBy_length]; omega, rfl, rfl, rfl, rfl, rfl, fitsN _ (by omega), ?_, rfl, rfl⟩
    show fitsB ((i : Int) + 1) = true
    exact (fitsB_iff _).2 ⟨by omega, by omega⟩
  ·simp at hp
 ·unfold groupPs at hp
  rcases List.mem_append.1 hp with hp | hp
  ·obtain ⟨g, hg, rfl⟩ := List.mem_map.1 hp
   obtain ⟨h1, h2, _⟩ := hl.grps g hg
   exact ⟨by show (groupBy g.members).length ≤ _; rw [groupBy_length]; omega, rfl, rfl, rfl, rfl, rfl, fitsN _ (by omega), h1, rfl, rfl⟩
  ·cases hs : o.hasSig with
   | false => rw [hs] at hp; simp at hp
   | true =>
    rw [hs] at hp
    simp only [cond_true, List.mem_singleton] at hp
    subst hp
    have h5 := sigBy_length o.sig
    have h6 := hl.nsig
    exact ⟨by show (sigBy o.sig).length ≤ _; omega, rfl, rfl, rfl, rfl, rfl, fitsN _ (by omega), rfl, rfl, rfl⟩
 ·unfold symPs at hp
  simp only [List.mem_cons, List.not_mem_nil, or_false] at hp
  have h5 := hl.nsym
  rcases hp with rfl | rfl
  ·have h6 := localsOf_le o.syms
   refine ⟨by show (symsBy _ o.syms).length ≤ _; rw [symsBy_length]; omega, rfl, rfl, rfl, rfl, rfl, ?_, fitsN _ (by omega), rfl, rfl⟩
   show fitsB ((symNo o : Int) + 1) = true
   exact (fitsB_iff _).2 ⟨by omega, by omega⟩
  ·have h6 := tab_small (symNames o.syms) (by unfold symNames; simp; omega) fun n hn => by
    obtain ⟨y, hy, rfl⟩ := List.mem_map.1 hn
    exact (hl.syms y hy).1
   exact ⟨by show (tabOf (symNames o.syms)).tb.length ≤ _; omega, rfl, rfl, rfl, rfl, rfl, rfl, rfl, rfl, rfl⟩
theorem partsOf_names {o : ObjD} (hl : Lays o) : ∀ p ∈ partsOf o, mayB (lst p.name) = true := fun p hp => by
 unfold partsOf at hp
 simp only [List.mem_append, List.mem_cons, List.mem_map] at hp
 rcases hp with (((rfl | ⟨s, hs, rfl⟩) | hp) | hp) | hp
 ·rfl
 ·exact (hl.secs s hs).2.2.2.2.2.2.1
 ·unfold relPs at hp
  obtain ⟨i, hi, hp⟩ := List.mem_flatMap.1 hp
  unfold relPartAt at hp
  split at hp
  ·unfold relPart at hp
   split at hp
   ·simp at hp
   ·simp only [List.mem_singleton] at hp
    subst hp
    show mayB (lst nRela) = true
    decide
  ·simp at hp
 ·unfold groupPs at hp
  rcases List.mem_append.1 hp with hp | hp
  ·obtain ⟨g, hg, rfl⟩ := List.mem_map.1 hp
   show mayB (lst nGroup) = true
   decide
  ·cases hs : o.hasSig with
   | false => rw [hs] at hp; simp at hp
   | true =>
    rw [hs] at hp
    simp only [cond_true, List.mem_singleton] at hp
    subst hp
    show mayB (lst nSig) = true
    decide
 ·unfold symPs at hp
  simp only [List.mem_cons, List.not_mem_nil, or_false] at hp
  rcases hp with rfl | rfl
  ·show mayB (lst nSymtab) = true
   decide
  ·show mayB (lst nStrtab) = true
   decide
theorem body_len : ∀ (l : List PartD), (∀ p ∈ l, PartOK p) → (bodyOf l).length ≤ 400000 * l.length
 | [], _ => Nat.le_refl _
 | p :: r, h => by
  have ih := body_len r fun q hq => h q (List.mem_cons_of_mem _ hq)
  have h1 := (h p (List.mem_cons_self ..)).1
  unfold bodyOf at ih ⊢
  rw [List.flatMap_cons, List.length_append, List.length_cons]
  omega
def allOf (o : ObjD) : List PartD := partsOf o ++ [lastPart (headNames (partsOf o))]
theorem headNames_ok {o : ObjD} (hl : Lays o) : ∀ n ∈ headNames (partsOf o), mayB n = true := fun n hn => by
 unfold headNames at hn
 rcases List.mem_append.1 hn with hn | hn
 ·obtain ⟨p, hp, rfl⟩ := List.mem_map.1 hn
  exact partsOf_names hl p hp
 ·simp only [List.mem_singleton] at hn
  subst hn
  decide
theorem headNames_length (l : List PartD) : (headNames l).length = l.length + 1 := by unfold headNames; simp
theorem allOf_length (o : ObjD) : (allOf o).length = symNo o + 3 := by unfold allOf; rw [List.length_append, partsOf_length]; rfl
theorem allOf_ok {o : ObjD} (hl : Lays o) : ∀ p ∈ allOf o, PartOK p := fun p hp => by
 unfold allOf at hp
 rcases List.mem_append.1 hp with hp | hp
 ·exact partsOf_ok hl p hp
 ·simp only [List.mem_singleton] at hp
  subst hp
  have ha := symNo_le hl
  have h6 := tab_small (headNames (partsOf o)) (by rw [headNames_length, partsOf_length]; omega) (headNames_ok hl)
  exact ⟨by show (tabOf _).tb.length ≤ _; omega, rfl, rfl, rfl, rfl, rfl, rfl, rfl, rfl, rfl⟩
theorem body_take {o : ObjD} (hl : Lays o) (i : Nat) : (bodyOf ((allOf o).take i)).length ≤ 50000000 := by
 have ha := symNo_le hl
 have h := body_len ((allOf o).take i) fun p hp => allOf_ok hl p (List.mem_of_mem_take hp)
 have h2 : ((allOf o).take i).length ≤ symNo o + 3 := by rw [← allOf_length]; simp; omega
 omega
theorem bytesOf_eq (o : ObjD) : bytesOf o = hdrB (64 + (bodyOf (allOf o)).length) (allOf o).length ((allOf o).length - 1) ++ bodyOf (allOf o) ++ headsBy (placesOf (headNames (partsOf o))) (allOf o) (allOf o).length := rfl
end Go.Proofs.YteopgmieindojaaGreat

namespace Go.Proofs.YteopgmieindojaaGreat
open Go.RowKit
theorem none_cap {w : World} {base n : Nat} {T : TypeId} {p : Option Addr} {c : Nat} {xs : List Value} (h : w.ownsRow base T 1 (.slice p n c) n xs) : p = none → c = 0 := fun hp => by
 subst hp
 rcases h.2 with ⟨h1, _⟩ | ⟨g, cap, cur, h1, _⟩ <;> simp at h1
 exact h1.2
def strsOf (l : List SymD) : List ByteArray := l.map SymD.name
theorem SlB.of_isL {w : World} {v : Value} {l : List UInt8} (h : IsL 1 EByte w v l) : SlB w (fun b => b < w.heap.size) v l := by
 obtain ⟨p, c, rfl, h1, h2, h3, h4⟩ := h
 refine ⟨p, c, rfl, h1, h2, h3, fun i x hx => ?_⟩
 obtain ⟨a, e, hc⟩ := h4.has i x hx
 have := World.block_lt_of_cell? w _ hc
 rw [block_of_add] at this
 exact ⟨a, e, hc, this⟩
theorem SlB.of_cells {w : World} {dp : Option Addr} {n c : Nat} {l : List UInt8} (h : HasL 1 EByte w dp l) (hn : l.length = n) (h1 : n ≤ c) (h2 : c ≤ maxLen) (h3 : dp = none → c = 0) : SlB w (fun b => b < w.heap.size) (.slice dp n c) l :=
 SlB.of_isL ⟨dp, c, by rw [hn], by omega, h2, h3, h⟩
theorem cells9 (w : World) (g : Nat) (v0 v1 v2 v3 v4 v5 v6 v7 v8 : Value) (T : TypeId) (h : w.heap[g]? = some (.cells #[v0, v1, v2, v3, v4, v5, v6, v7, v8] T (0, 0))) :
  w.cell? ⟨g, 0, none⟩ = some v0 ∧ w.cell? ⟨g, 1, none⟩ = some v1 ∧ w.cell? ⟨g, 2, none⟩ = some v2 ∧ w.cell? ⟨g, 3, none⟩ = some v3 ∧ w.cell? ⟨g, 4, none⟩ = some v4 ∧ w.cell? ⟨g, 5, none⟩ = some v5 ∧ w.cell? ⟨g, 6, none⟩ = some v6 ∧ w.cell? ⟨g, 7, none⟩ = some v7 ∧ w.cell? ⟨g, 8, none⟩ = some v8 := by
 refine ⟨?_, ?_, ?_, ?_, ?_, ?_, ?_, ?_, ?_⟩ <;> exact (cell_of_row w g _ _ _ (0, 0) h).trans rfl
theorem ne_step1 {A B A' : Option Nat} {N : Nat} (h : ∀ b, A = some b → B ≠ some b) (hB : ∀ b, B = some b → b < N) (hat : A' = A ∨ A' = some N) : ∀ b, A' = some b → B ≠ some b := fun b hb he => by
 rcases hat with rfl | rfl
 ·exact h b hb he
 ·have h1 := hB b he
  have h2 := Option.some.inj hb
  omega
theorem ne_step2 {A B B' : Option Nat} {N : Nat} (h : ∀ b, A = some b → B ≠ some b) (hA : ∀ b, A = some b → b < N) (hat : B' = B ∨ B' = some N) : ∀ b, A = some b → B' ≠ some b := fun b hb he => by
 rcases hat with rfl | rfl
 ·exact h b hb he
 ·have h1 := hA b hb
  have h2 := Option.some.inj he
  omega
theorem ne_or {A B : Option Nat} (h : ∀ b, A = some b → B ≠ some b) : B = none ∨ B ≠ A := by
 cases hB : B with
 | none => exact .inl rfl
 | some b => exact .inr fun e => h b e.symm hB
theorem own_ne {w : World} {base s n : Nat} {T : TypeId} {v v2 : Value} {xs : List Value} (h : w.ownsRow base T s v n xs) (hlt : ∀ b, v2.ownBlock = some b → b < base) : v.ownBlock = none ∨ v.ownBlock ≠ v2.ownBlock := by
 cases hv : v.ownBlock with
 | none => exact .inl rfl
 | some b =>
  refine .inr fun e => ?_
  have h1 := (h.lt b hv).1
  have h2 := hlt b e.symm
  omega
theorem cells_ten (w : World) (g : Nat) (v0 v1 v2 v3 v4 v5 v6 v7 v8 v9 : Value) (T : TypeId) (h : w.heap[g]? = some (.cells #[v0, v1, v2, v3, v4, v5, v6, v7, v8, v9] T (0, 0))) :
  w.cell? ⟨g, 0, none⟩ = some v0 ∧ w.cell? ⟨g, 1, none⟩ = some v1 ∧ w.cell? ⟨g, 2, none⟩ = some v2 ∧ w.cell? ⟨g, 3, none⟩ = some v3 ∧ w.cell? ⟨g, 4, none⟩ = some v4 ∧ w.cell? ⟨g, 5, none⟩ = some v5 ∧ w.cell? ⟨g, 6, none⟩ = some v6 ∧ w.cell? ⟨g, 7, none⟩ = some v7 ∧ w.cell? ⟨g, 8, none⟩ = some v8 ∧ w.cell? ⟨g, 9, none⟩ = some v9 := by
 refine ⟨?_, ?_, ?_, ?_, ?_, ?_, ?_, ?_, ?_, ?_⟩ <;> exact (cell_of_row w g _ _ _ (0, 0) h).trans rfl
theorem part_at {w : World} {base n : Nat} {T : TypeId} {p0 : Option Addr} {c0 : Nat} {q : Bool} {pv : List PV} {pd : List PartD} {K : Nat → Prop} (h : w.ownsRow base T 12 (.slice p0 n c0) n (pvs q pv)) (hpa : PartsAt w K pv pd) (hn : pd.length = n) {k : Nat} (hk : k < n) :
  ∃ (g : Nat) (p : PV) (y : PartD), p0 = some ⟨g, 0, none⟩ ∧ pd[k]? = some y ∧ p.h = y.h ∧ p.name = y.name ∧ SlB w K p.v y.b ∧ ∀ j, j < 12 → w.cell? ⟨g, k * 12 + j, none⟩ = (p.cells q)[j]? := by
 rcases h.2 with ⟨_, h0⟩ | ⟨g, cap, cur, he, _, _, _, _, _, _⟩
 ·omega
 ·simp only [Value.slice.injEq] at he
  obtain ⟨rfl, _, rfl⟩ := he
  have hkd : k < pd.length := by omega
  have hkv : k < pv.length := by rw [hpa.1]; exact hkd
  obtain ⟨h1, h2, h3⟩ := hpa.2 k _ _ (List.getElem?_eq_getElem hkv) (List.getElem?_eq_getElem hkd)
  refine ⟨g, pv[k], pd[k], rfl, List.getElem?_eq_getElem hkd, h1, h2, h3, fun j hj => ?_⟩
  rw [h.cellAt (k * 12 + j) (by omega)]
  exact pvs_get q pv k _ j (List.getElem?_eq_getElem hkv) hj
theorem wpList_append_rows {P : Program} (w : World) {ops : Array Oper} {rest : List Oper} {o : Oper} {a : Act} {Q : Exit → Act → World → Prop} (hgd : o.guard = none) (s x : Operand) (t : TypeId)
  (ho : o.op = .call { callee := .builtin .append, args := #[s, x], argTypes := #[t, t] })
  (base : Nat) (e : TypeId) (i : TypeInfo) (z : Value) (size bytes : Nat) (ht : P.underlying t = some (.slice e)) (hi : P.info? e = some i) (hz : i.zero = some z)
  (hsize : i.size = size) (hby : i.bytes = bytes) (hzs : z.cells.size = size) (hsz : 0 < size)
  (v : Value) (n : Nat) (xs : List Value) (hes : a.eval s = v) (hown : w.ownsRow base e size v n xs) (v2 : Value) (m : Nat) (ys : List Value) (hex : a.eval x = v2) (b2 : Nat) (hown2 : w.ownsRow b2 e size v2 m ys) (h1 : ∀ u ∈ ys, u.oneCell' = true)
  (h63 : n + m ≤ maxLen) (hbytes : (n + m) * bytes ≤ 140737488355328) (hbase : base ≤ w.heap.size)
  (h : ∀ v' w', w'.ownsRow base e size v' (n + m) (xs ++ ys) → w.grownBy w' v.ownBlock → (v'.ownBlock = v.ownBlock ∨ v'.ownBlock = some w.heap.size) → wpList P ops Q rest (a.put o.dst v') w') : wpList P ops Q (o :: rest) a w := by
 rcases hown2.2 with ⟨rfl, hm⟩ | ⟨g, cap, cur, rfl, _, _, _, _, _, _⟩
 ·subst hm
  obtain rfl : ys = [] := List.eq_nil_of_length_eq_zero (by simpa using hown2.1)
  exact wpList_append_own_none hgd s x t ho base e i size ht hi v n _ hes hown hex (h v w (by simpa using hown) (World.grownBy.refl w _) (.inl rfl))
 ·exact wpList_append_own_at w hgd s x t ho base e i z size bytes ht hi hz hsize hby hzs hsz v n _ hes hown ⟨g, 0, none⟩ m cap ys hex hown2.1 (hown2.cells (g := g) rfl) h1 h63 hbytes hbase
   fun v' w' k1 k2 _ k4 => h v' w' k1 k2 k4
end Go.Proofs.YteopgmieindojaaGreat
