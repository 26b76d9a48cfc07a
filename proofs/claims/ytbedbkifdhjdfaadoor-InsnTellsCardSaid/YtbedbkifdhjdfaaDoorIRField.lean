/-
  Contracts of the document's answer for layer insn: field.
-/
import Derived.Test.YtbedbkifdhjdfaaDoorIEncode
namespace Go.Proofs.YtbedbkifdhjdfaaDoor
open Go.RowKit

theorem results_rins {fn : Func} {p u : Tmp} (h : fn.results = #[.cell p 28, .tmp u]) (tmps : Array Value) (w : World) (g : Nat) (v0 v1 v2 v3 v4 v5 v6 : Value) (b : Bool) (hp : tmps.getD p undef = .pointer (some ⟨g, 0, none⟩)) (hu : tmps.getD u undef = .bool b)
    (hg : w.heap[g]? = some (.cells #[v0, v1, v2, v3, v4, v5, v6] 28 (0, 0))) : (results fn tmps).run Tryd.prog w = .ok (.tuple #[.agg #[v0, v1, v2, v3, v4, v5, v6], .bool b]) w := by
  obtain ⟨⟨r0, r1, r2, r3, r4, r5, r6⟩, _⟩ := seven_cells hg
  rw [results_cell_tmp h, hp, hu]
  go_simp

set_option maxRecDepth 100000 in
set_option maxHeartbeats 4000000 in
theorem rfield_any (op r m wd : Int) (h : Hd) (p : Option Addr) (len cap : Nat) (l : List UInt8) (w : World) (hh : Has w p l) (hlen : l.length = len) (hcap : len ≤ cap) (e1 : op = (h.op : Int)) (e2 : r = (h.r : Int)) (e3 : m = (h.m : Int)) (e4 : wd = (h.width : Int)) (ha : h.at_ ≤ 4) (hw : h.width = 0 ∨ (h.width = 4 ∨ h.width = 8)) (at0 : Int) (e5 : at0 = (h.at_ : Int)) :
    Calls Tryd.prog 13 #[.agg #[.int .i64 op, .int .i64 r, .int .i64 m, .int .i64 at0, .int .i64 0, .int .i64 0, .int .i64 0], .slice p len cap, .int .i64 wd] w fun e w' => e = .returned (.tuple #[(optI (fld h l)).1.v, .bool (optI (fld h l)).2]) ∧ Below w.heap.size w w' := by
  subst e4 e5
  have HLEN := Lib.hid hlen
  have HX : Hid (fld h l = (if h.at_ + h.width ≤ l.length then some (if h.width = 0 then ⟨op, r, m, h.at_, 0, 0, 0⟩ else ⟨op, r, m, (h.at_ + h.width : Nat), h.at_, h.width, sgn h.width (num (win l h.at_ h.width))⟩) else none)) := Lib.hid (by subst e1 e2 e3; rfl)
  clear e1 e2 e3
  generalize fld h l = res at *
  have hb0 : Below w.heap.size w ((w.alloc (.cells #[.int .i64 op, .int .i64 r, .int .i64 m, .int .i64 (h.at_ : Int), .int .i64 0, .int .i64 0, .int .i64 0] 28)).alloc (.cells #[.int .i64 0, .int .i64 0, .int .i64 0, .int .i64 0, .int .i64 0, .int .i64 0, .int .i64 0] 28)) := ((Below.refl _ w).alloc (Nat.le_refl _) _).alloc (by simp) _
  have hr0 : ((w.alloc (.cells #[.int .i64 op, .int .i64 r, .int .i64 m, .int .i64 (h.at_ : Int), .int .i64 0, .int .i64 0, .int .i64 0] 28)).alloc (.cells #[.int .i64 0, .int .i64 0, .int .i64 0, .int .i64 0, .int .i64 0, .int .i64 0, .int .i64 0] 28)).heap[w.heap.size]? = some (.cells #[.int .i64 op, .int .i64 r, .int .i64 m, .int .i64 (h.at_ : Int), .int .i64 0, .int .i64 0, .int .i64 0] 28 (0, 0)) := by
    rw [Below.heap_alloc _ _ _ (by simp)]; exact heap_alloc_new w _
  have hr1 : ((w.alloc (.cells #[.int .i64 op, .int .i64 r, .int .i64 m, .int .i64 (h.at_ : Int), .int .i64 0, .int .i64 0, .int .i64 0] 28)).alloc (.cells #[.int .i64 0, .int .i64 0, .int .i64 0, .int .i64 0, .int .i64 0, .int .i64 0, .int .i64 0] 28)).heap[w.heap.size + 1]? = some (.cells #[.int .i64 0, .int .i64 0, .int .i64 0, .int .i64 0, .int .i64 0, .int .i64 0, .int .i64 0] 28 (0, 0)) := by
    have := heap_alloc_new (w.alloc (.cells #[.int .i64 op, .int .i64 r, .int .i64 m, .int .i64 (h.at_ : Int), .int .i64 0, .int .i64 0, .int .i64 0] 28)) (.cells #[.int .i64 0, .int .i64 0, .int .i64 0, .int .i64 0, .int .i64 0, .int .i64 0, .int .i64 0] 28)
    simpa using this
  have HB := Lib.hid hb0
  have R0 := Lib.hid hr0
  have R1 := Lib.hid hr1
  have hwr : IntKind.i64.wrap ((h.at_ : Int) + (h.width : Int)) = (h.at_ : Int) + (h.width : Int) := IntWalk.i64_in _ (by omega)
  have HNUM : Hid (∀ W, Below w.heap.size w W → h.at_ + h.width ≤ len → 0 < h.width → ∃ b off, p = some ⟨b, off, none⟩ ∧ ∀ c, Calls Tryd.prog 21 #[.slice (some ⟨b, off + h.at_, none⟩) h.width c] W fun e w' => e = .returned (.int .u64 (num (win l h.at_ h.width) : Int)) ∧ W = w') := Lib.hid fun W hb hf h0 => by
    obtain ⟨b, off, rfl, _⟩ := hh.plain (by omega)
    have w1 := win_length l h.at_ h.width (by omega)
    exact ⟨b, off, rfl, fun c => num_any _ c _ W (has_win (hh.below hb) h.at_ h.width (by omega)) (by omega) h.width w1⟩
  have hvl := num_lt (win l h.at_ h.width)
  have HVL := Lib.hid hvl
  clear hb0 hr0 hr1 hlen hh hvl
  go_enter Tryd.func13, Tryd.ntmps13
  go_upto_region 1 with fail
  generalize ((w.alloc (.cells #[.int .i64 op, .int .i64 r, .int .i64 m, .int .i64 (h.at_ : Int), .int .i64 0, .int .i64 0, .int .i64 0] 28)).alloc (.cells #[.int .i64 0, .int .i64 0, .int .i64 0, .int .i64 0, .int .i64 0, .int .i64 0, .int .i64 0] 28)) = w1 at *
  obtain ⟨⟨c0, c1, c2, c3, c4, c5, c6⟩, d0, d1, d2, d3, d4, d5, d6⟩ := seven_cells R0.out
  obtain ⟨⟨z0, z1, z2, z3, z4, z5, z6⟩, f0, f1, f2, f3, f4, f5, f6⟩ := seven_cells R1.out
  by_cases hfit : h.at_ + h.width ≤ len
  · have hg1 : ¬ (len : Int) < (h.at_ : Int) + (h.width : Int) := by omega
    rcases hw with hw | hw
    · have HX2 : Hid (res = some ⟨op, r, m, h.at_, 0, 0, 0⟩) := Lib.hid (by rw [HX.out, if_pos (by rw [HLEN.out]; exact hfit), if_pos hw])
      have hg2 : (h.width : Int) = 0 := by omega
      have hg3 : ((h.width : Int) == 0) = true := by rw [hg2]; rfl
      clear hw hg2
      go_wp2_with fail
      obtain ⟨y1, y2⟩ := seven_set (.int .i64 op) (.int .i64 r) (.int .i64 m) (.int .i64 (h.at_ : Int)) (.int .i64 0) (.int .i64 0) (.int .i64 0) (show w.heap.size ≤ w.heap.size + 1 by omega) HB.out R1.out
      rw [HX2.out]
      exact bodyPost_ret (results_rins rfl _ _ _ _ _ _ _ _ _ _ _ (by rfl) (by rfl) y1) rfl ⟨rfl, y2⟩
    · have HX2 : Hid (res = some ⟨op, r, m, (h.at_ : Int) + (h.width : Int), (h.at_ : Int), (h.width : Int), sgn h.width (num (win l h.at_ h.width))⟩) := Lib.hid (by
        rw [HX.out, if_pos (by rw [HLEN.out]; exact hfit), if_neg (by omega)]
        simp)
      obtain ⟨b, off, rfl, hnum⟩ := HNUM.out w1 HB.out hfit (by omega)
      have HNU := Lib.hid hnum
      have hg2 : ¬ (h.width : Int) = 0 := by omega
      have hg3 : ¬ h.width = 0 := by omega
      have hg4 : ((h.width : Int) == 0) = false := by simp; omega
      have k1 : (0 : Int) ≤ (h.at_ : Int) := by omega
      have k2 : (h.at_ : Int) ≤ (h.at_ : Int) + (h.width : Int) := by omega
      have k3 : (h.at_ : Int) + (h.width : Int) ≤ (cap : Int) := by omega
      have k4 : ((h.at_ : Int) + (h.width : Int)).toNat = h.at_ + h.width := by omega
      have k5 : h.at_ + h.width - h.at_ = h.width := by omega
      have k6 : ¬ cap = h.at_ := by omega
      have hwl : (win l h.at_ h.width).length = h.width := win_length l h.at_ h.width (by rw [HLEN.out]; exact hfit)
      have hvl := HVL.out
      rw [hwl] at hvl
      clear hnum hwl HX HVL HNUM
      generalize num (win l h.at_ h.width) = v at *
      obtain ⟨V, hV⟩ : ∃ V : Int, V = (v : Int) := ⟨_, rfl⟩
      rw [← hV] at HNU
      rcases hw with hw | hw
      · have hv : v < 4294967296 := by rw [hw] at hvl; exact hvl
        have hq : ((h.width : Int) == 4) = true := by rw [hw]; rfl
        have hs : sgn h.width v = sgn 4 v := by rw [hw]
        have hwv : IntKind.i64.wrap V = V := IntWalk.i64_in _ (by omega)
        by_cases hbig : v < 2147483648
        · have hs2 : sgn h.width v = V := by rw [hV, hs]; unfold sgn; rw [if_pos rfl, if_pos hbig]
          rw [hs2] at HX2
          have hJ : ¬ (2147483648 : Int) ≤ V := by omega
          clear hvl hw hs hs2 hbig hv hV
          go_wp2_with fail
          refine (HNU.out _).mono ?_
          rintro e w' ⟨rfl, hww⟩
          rw [← hww]
          clear hww
          go_upto_region 9 with fail
          obtain ⟨q1, q2⟩ := set7 #[.int .i64 op, .int .i64 r, .int .i64 m, .int .i64 (h.at_ : Int), .int .i64 (h.at_ : Int), .int .i64 (h.width : Int), .int .i64 V] 6 (.int .i64 V) (Nat.le_refl w.heap.size) (set7 #[.int .i64 op, .int .i64 r, .int .i64 m, .int .i64 (h.at_ : Int), .int .i64 (h.at_ : Int), .int .i64 (h.width : Int), .int .i64 0] 5 (.int .i64 (h.width : Int)) (Nat.le_refl w.heap.size) (set7 #[.int .i64 op, .int .i64 r, .int .i64 m, .int .i64 (h.at_ : Int), .int .i64 (h.at_ : Int), .int .i64 0, .int .i64 0] 4 (.int .i64 (h.at_ : Int)) (Nat.le_refl w.heap.size) ⟨R0.out, HB.out⟩ rfl) rfl) rfl
          have q3 : (((w1.setCell ⟨w.heap.size, 4, none⟩ (.int .i64 (h.at_ : Int))).setCell ⟨w.heap.size, 5, none⟩ (.int .i64 (h.width : Int))).setCell ⟨w.heap.size, 6, none⟩ (.int .i64 V)).heap[w.heap.size + 1]? = some (.cells #[.int .i64 0, .int .i64 0, .int .i64 0, .int .i64 0, .int .i64 0, .int .i64 0, .int .i64 0] 28 (0, 0)) :=
            (heap_setCell_other _ _ _ _ (by simp)).trans ((heap_setCell_other _ _ _ _ (by simp)).trans ((heap_setCell_other _ _ _ _ (by simp)).trans R1.out))
          clear c0 c1 c2 c3 c4 c5 c6 d0 d1 d2 d3 d4 d5 d6 z0 z1 z2 z3 z4 z5 z6 f0 f1 f2 f3 f4 f5 f6 k1 k2 k3 k4 k5 k6 R0 R1 HB HNU
          generalize ((w1.setCell ⟨w.heap.size, 4, none⟩ (.int .i64 (h.at_ : Int))).setCell ⟨w.heap.size, 5, none⟩ (.int .i64 (h.width : Int))).setCell ⟨w.heap.size, 6, none⟩ (.int .i64 V) = w2 at *
          clear w1
          obtain ⟨⟨c0, c1, c2, c3, c4, c5, c6⟩, d0, d1, d2, d3, d4, d5, d6⟩ := seven_cells q1
          obtain ⟨⟨z0, z1, z2, z3, z4, z5, z6⟩, f0, f1, f2, f3, f4, f5, f6⟩ := seven_cells q3
          have Q1 := Lib.hid q1
          have Q2 := Lib.hid q2
          have Q3 := Lib.hid q3
          clear q1 q2 q3
          go_upto_region 11 with fail
          go_upto_region 12 with fail
          go_wp2_with fail
          have hbx : Below w.heap.size w (w2.setCell ⟨w.heap.size, 3, none⟩ (.int .i64 ((h.at_ : Int) + (h.width : Int)))) := Q2.out.setCell (by simp) _
          have hbr : (w2.setCell ⟨w.heap.size, 3, none⟩ (.int .i64 ((h.at_ : Int) + (h.width : Int)))).heap[w.heap.size + 1]? = some (.cells #[.int .i64 0, .int .i64 0, .int .i64 0, .int .i64 0, .int .i64 0, .int .i64 0, .int .i64 0] 28 (0, 0)) := ((heap_setCell_other _ _ _ _ (by simp)).trans Q3.out)
          obtain ⟨y1, y2⟩ := seven_set (.int .i64 op) (.int .i64 r) (.int .i64 m) (.int .i64 ((h.at_ : Int) + (h.width : Int))) (.int .i64 (h.at_ : Int)) (.int .i64 (h.width : Int)) (.int .i64 V) (show w.heap.size ≤ w.heap.size + 1 by omega) hbx hbr
          rw [HX2.out]
          exact bodyPost_ret (results_rins rfl _ _ _ _ _ _ _ _ _ _ _ (by rfl) (by rfl) y1) rfl ⟨rfl, y2⟩
        · have hs2 : sgn h.width v = V - 4294967296 := by rw [hV, hs]; unfold sgn; rw [if_pos rfl, if_neg hbig]
          rw [hs2] at HX2
          have hJ : (2147483648 : Int) ≤ V := by omega
          have hwv2 : IntKind.i64.wrap (V - 4294967296) = V - 4294967296 := IntWalk.i64_in _ (by omega)
          clear hvl hw hs hs2 hbig hv hV
          go_wp2_with fail
          refine (HNU.out _).mono ?_
          rintro e w' ⟨rfl, hww⟩
          rw [← hww]
          clear hww
          go_upto_region 9 with fail
          obtain ⟨q1, q2⟩ := set7 #[.int .i64 op, .int .i64 r, .int .i64 m, .int .i64 (h.at_ : Int), .int .i64 (h.at_ : Int), .int .i64 (h.width : Int), .int .i64 V] 6 (.int .i64 V) (Nat.le_refl w.heap.size) (set7 #[.int .i64 op, .int .i64 r, .int .i64 m, .int .i64 (h.at_ : Int), .int .i64 (h.at_ : Int), .int .i64 (h.width : Int), .int .i64 0] 5 (.int .i64 (h.width : Int)) (Nat.le_refl w.heap.size) (set7 #[.int .i64 op, .int .i64 r, .int .i64 m, .int .i64 (h.at_ : Int), .int .i64 (h.at_ : Int), .int .i64 0, .int .i64 0] 4 (.int .i64 (h.at_ : Int)) (Nat.le_refl w.heap.size) ⟨R0.out, HB.out⟩ rfl) rfl) rfl
          have q3 : (((w1.setCell ⟨w.heap.size, 4, none⟩ (.int .i64 (h.at_ : Int))).setCell ⟨w.heap.size, 5, none⟩ (.int .i64 (h.width : Int))).setCell ⟨w.heap.size, 6, none⟩ (.int .i64 V)).heap[w.heap.size + 1]? = some (.cells #[.int .i64 0, .int .i64 0, .int .i64 0, .int .i64 0, .int .i64 0, .int .i64 0, .int .i64 0] 28 (0, 0)) :=
            (heap_setCell_other _ _ _ _ (by simp)).trans ((heap_setCell_other _ _ _ _ (by simp)).trans ((heap_setCell_other _ _ _ _ (by simp)).trans R1.out))
          clear c0 c1 c2 c3 c4 c5 c6 d0 d1 d2 d3 d4 d5 d6 z0 z1 z2 z3 z4 z5 z6 f0 f1 f2 f3 f4 f5 f6 k1 k2 k3 k4 k5 k6 R0 R1 HB HNU
          generalize ((w1.setCell ⟨w.heap.size, 4, none⟩ (.int .i64 (h.at_ : Int))).setCell ⟨w.heap.size, 5, none⟩ (.int .i64 (h.width : Int))).setCell ⟨w.heap.size, 6, none⟩ (.int .i64 V) = w2 at *
          clear w1
          obtain ⟨⟨c0, c1, c2, c3, c4, c5, c6⟩, d0, d1, d2, d3, d4, d5, d6⟩ := seven_cells q1
          obtain ⟨⟨z0, z1, z2, z3, z4, z5, z6⟩, f0, f1, f2, f3, f4, f5, f6⟩ := seven_cells q3
          have Q1 := Lib.hid q1
          have Q2 := Lib.hid q2
          have Q3 := Lib.hid q3
          clear q1 q2 q3
          have hbx : Below w.heap.size w ((w2.setCell ⟨w.heap.size, 6, none⟩ (.int .i64 (V - 4294967296))).setCell ⟨w.heap.size, 3, none⟩ (.int .i64 ((h.at_ : Int) + (h.width : Int)))) := (Q2.out.setCell (by simp) _).setCell (by simp) _
          have hbr : ((w2.setCell ⟨w.heap.size, 6, none⟩ (.int .i64 (V - 4294967296))).setCell ⟨w.heap.size, 3, none⟩ (.int .i64 ((h.at_ : Int) + (h.width : Int)))).heap[w.heap.size + 1]? = some (.cells #[.int .i64 0, .int .i64 0, .int .i64 0, .int .i64 0, .int .i64 0, .int .i64 0, .int .i64 0] 28 (0, 0)) := ((heap_setCell_other _ _ _ _ (by simp)).trans ((heap_setCell_other _ _ _ _ (by simp)).trans Q3.out))
          go_wp2_with fail
          obtain ⟨y1, y2⟩ := seven_set (.int .i64 op) (.int .i64 r) (.int .i64 m) (.int .i64 ((h.at_ : Int) + (h.width : Int))) (.int .i64 (h.at_ : Int)) (.int .i64 (h.width : Int)) (.int .i64 (V - 4294967296)) (show w.heap.size ≤ w.heap.size + 1 by omega) hbx hbr
          rw [HX2.out]
          exact bodyPost_ret (results_rins rfl _ _ _ _ _ _ _ _ _ _ _ (by rfl) (by rfl) y1) rfl ⟨rfl, y2⟩
      · have hv : v < 18446744073709551616 := by rw [hw] at hvl; exact hvl
        have hq : ((h.width : Int) == 4) = false := by rw [hw]; rfl
        have hs : sgn h.width v = wrap64 V := by rw [hV, hw]; exact (sgn8 v hv).symm
        rw [hs] at HX2
        have hq2 : ¬ (h.width : Int) = 4 := by omega
        clear hvl hw hs hv hV
        go_wp2_with fail
        refine (HNU.out _).mono ?_
        rintro e w' ⟨rfl, hww⟩
        rw [← hww]
        clear hww
        go_upto_region 9 with fail
        obtain ⟨q1, q2⟩ := set7 #[.int .i64 op, .int .i64 r, .int .i64 m, .int .i64 (h.at_ : Int), .int .i64 (h.at_ : Int), .int .i64 (h.width : Int), .int .i64 (wrap64 V)] 6 (.int .i64 (wrap64 V)) (Nat.le_refl w.heap.size) (set7 #[.int .i64 op, .int .i64 r, .int .i64 m, .int .i64 (h.at_ : Int), .int .i64 (h.at_ : Int), .int .i64 (h.width : Int), .int .i64 0] 5 (.int .i64 (h.width : Int)) (Nat.le_refl w.heap.size) (set7 #[.int .i64 op, .int .i64 r, .int .i64 m, .int .i64 (h.at_ : Int), .int .i64 (h.at_ : Int), .int .i64 0, .int .i64 0] 4 (.int .i64 (h.at_ : Int)) (Nat.le_refl w.heap.size) ⟨R0.out, HB.out⟩ rfl) rfl) rfl
        have q3 : (((w1.setCell ⟨w.heap.size, 4, none⟩ (.int .i64 (h.at_ : Int))).setCell ⟨w.heap.size, 5, none⟩ (.int .i64 (h.width : Int))).setCell ⟨w.heap.size, 6, none⟩ (.int .i64 (wrap64 V))).heap[w.heap.size + 1]? = some (.cells #[.int .i64 0, .int .i64 0, .int .i64 0, .int .i64 0, .int .i64 0, .int .i64 0, .int .i64 0] 28 (0, 0)) :=
          (heap_setCell_other _ _ _ _ (by simp)).trans ((heap_setCell_other _ _ _ _ (by simp)).trans ((heap_setCell_other _ _ _ _ (by simp)).trans R1.out))
        clear c0 c1 c2 c3 c4 c5 c6 d0 d1 d2 d3 d4 d5 d6 z0 z1 z2 z3 z4 z5 z6 f0 f1 f2 f3 f4 f5 f6 k1 k2 k3 k4 k5 k6 R0 R1 HB HNU
        generalize ((w1.setCell ⟨w.heap.size, 4, none⟩ (.int .i64 (h.at_ : Int))).setCell ⟨w.heap.size, 5, none⟩ (.int .i64 (h.width : Int))).setCell ⟨w.heap.size, 6, none⟩ (.int .i64 (wrap64 V)) = w2 at *
        clear w1
        obtain ⟨⟨c0, c1, c2, c3, c4, c5, c6⟩, d0, d1, d2, d3, d4, d5, d6⟩ := seven_cells q1
        obtain ⟨⟨z0, z1, z2, z3, z4, z5, z6⟩, f0, f1, f2, f3, f4, f5, f6⟩ := seven_cells q3
        have Q1 := Lib.hid q1
        have Q2 := Lib.hid q2
        have Q3 := Lib.hid q3
        clear q1 q2 q3
        have hbx : Below w.heap.size w (w2.setCell ⟨w.heap.size, 3, none⟩ (.int .i64 ((h.at_ : Int) + (h.width : Int)))) := Q2.out.setCell (by simp) _
        have hbr : (w2.setCell ⟨w.heap.size, 3, none⟩ (.int .i64 ((h.at_ : Int) + (h.width : Int)))).heap[w.heap.size + 1]? = some (.cells #[.int .i64 0, .int .i64 0, .int .i64 0, .int .i64 0, .int .i64 0, .int .i64 0, .int .i64 0] 28 (0, 0)) := ((heap_setCell_other _ _ _ _ (by simp)).trans Q3.out)
        go_wp2_with fail
        obtain ⟨y1, y2⟩ := seven_set (.int .i64 op) (.int .i64 r) (.int .i64 m) (.int .i64 ((h.at_ : Int) + (h.width : Int))) (.int .i64 (h.at_ : Int)) (.int .i64 (h.width : Int)) (.int .i64 (wrap64 V)) (show w.heap.size ≤ w.heap.size + 1 by omega) hbx hbr
        rw [HX2.out]
        exact bodyPost_ret (results_rins rfl _ _ _ _ _ _ _ _ _ _ _ (by rfl) (by rfl) y1) rfl ⟨rfl, y2⟩
  · have hg1 : (len : Int) < (h.at_ : Int) + (h.width : Int) := by omega
    have HX2 : Hid (res = none) := Lib.hid (by rw [HX.out, if_neg (by rw [HLEN.out]; exact hfit)])
    go_wp2_with fail
    obtain ⟨y1, y2⟩ := seven_set (.int .i64 0) (.int .i64 0) (.int .i64 0) (.int .i64 0) (.int .i64 0) (.int .i64 0) (.int .i64 0) (show w.heap.size ≤ w.heap.size + 1 by omega) HB.out R1.out
    rw [HX2.out]
    exact bodyPost_ret (results_rins rfl _ _ _ _ _ _ _ _ _ _ _ (by rfl) (by rfl) y1) rfl ⟨rfl, y2⟩
end Go.Proofs.YtbedbkifdhjdfaaDoor
