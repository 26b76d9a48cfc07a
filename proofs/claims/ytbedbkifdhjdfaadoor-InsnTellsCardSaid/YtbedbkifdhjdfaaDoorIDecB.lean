/-
  Contract of the project's insn: shape.decode, where bytes begin so: no registers are named.
-/
import Derived.Test.YtbedbkifdhjdfaaDoorIDecA
import Derived.Deep.RegionLaw
namespace Go.Proofs.YtbedbkifdhjdfaaDoor
open Go.RowKit

/-- What was told: an instruction, and whether. -/
def optI (o : Option Ins) : Ins × Bool := match o with | some x => (x, true) | none => (ins0, false)

set_option maxRecDepth 100000 in
set_option maxHeartbeats 4000000 in
theorem idec_bare (s : Shp) (p : Option Addr) (len cap : Nat) (l : List UInt8) (w : World) (h : Has w p l) (hlen : l.length = len) (hcap : len ≤ cap) (hm1 : cap ≤ maxLen) (hs3 : s.first.length ≤ 3) (hwd : s.width = 0 ∨ (s.width = 4 ∨ s.width = 8)) (hno : s.first <+: l) (hnm : s.names = false) :
    Calls Tryd.prog 11 #[shpV s, .slice p len cap] w fun e w' => e = .returned (.tuple #[(optI (sdec s l)).1.v, .bool (optI (sdec s l)).2]) ∧ Below w.heap.size w w' := by
  unfold maxLen at hm1
  have hfl : s.first.length ≤ len := by rw [← hlen]; exact hno.length_le
  have hdd : ∀ k : Nat, s.first.length ≤ k → decide (s.first <+: l.take k) = true := fun k hk => decide_eq_true (List.prefix_take_iff.2 ⟨hno, hk⟩)
  have HX : Hid (sdec s l = fld ⟨0, 0, 0, s.first.length, s.width⟩ l) := Lib.hid (by
    unfold sdec
    rw [show hm s l = some (0, 0, s.first.length) from (hm_iff s l 0 0 _).2 ⟨hno, .inr ⟨hnm, rfl, rfl, rfl⟩⟩]
    rfl)
  generalize sdec s l = res at *
  have HLEN := Lib.hid hlen
  have hszs := str_size s.first
  have HNM : Hid (∀ W : World, Calls Tryd.prog 14 #[shpV s] W fun e w' => e = .returned (.bool false) ∧ Below W.heap.size W w') := Lib.hid fun W => by
    have := inames_any (str s.first) s.base s.width s.r s.m s.mem W
    rw [show (s.r || s.m) = false from hnm] at this
    exact this
  have HNU : Hid (∀ W : World, Below w.heap.size w W → s.first.length + s.width ≤ len → s.width = 4 ∨ s.width = 8 → Calls Tryd.prog 20 #[.slice p len cap, .int .i64 (s.first.length : Int), .int .i64 (s.width : Int)] W fun e w' => e = .returned (.int .i64 (sgn s.width (num (win l s.first.length s.width)))) ∧ w' = W) := Lib.hid fun W hb hf hw => inumber_any p len cap l _ _ W (h.below hb) hlen hcap (by unfold maxLen; omega) hw hf
  obtain ⟨r0, r1, r2⟩ := wtwo_rows w s
  have hb := wtwo_below w s
  have hc := conv_at (has_take (h.below hb) s.first.length) (n := s.first.length) (c := cap) (by rw [List.length_take]; omega) rfl
  have hI3 : (s.first.length : Int) ≤ (cap : Int) := by omega
  have hI4 : ¬ len < s.first.length := by omega
  have hI5 : ¬ (len : Int) < (s.first.length : Int) := by omega
  have hI6 : (s.first.length : Int) ≤ (len : Int) := by omega
  have HP : Hid (∀ W : World, Calls Tryd.prog 18 #[.string (str (l.take s.first.length)), .string (str s.first)] W fun e w' => e = .returned (.bool true) ∧ w' = W) := Lib.hid fun W => by
    have := hasPre_any (str (l.take s.first.length)) (str s.first) W
    rw [lst_str, lst_str, hdd _ (Nat.le_refl _)] at this
    exact this
  clear hno h hlen hdd hnm
  have hr := (Below.refl (wtwo w s).heap.size (wtwo w s)).drew
  have HB := Lib.hid hb
  have hz0 : w.heap.size + 1 < (wtwo w s).heap.size := by omega
  obtain ⟨N, hN⟩ : ∃ N, N = (wtwo w s).heap.size := ⟨_, rfl⟩
  rw [← hN] at hc hr hz0
  obtain ⟨c0, c1, c2, c3, c4, c5⟩ := cells6r r0
  obtain ⟨⟨z0, z1, z2, z3, z4, z5, z6⟩, f0, f1, f2, f3, f4, f5, f6⟩ := seven_cells r1
  clear hb r2
  go_enter Tryd.func11, Tryd.ntmps11
  go_upto_region 2 with fail
  obtain ⟨w1, hw1⟩ : ∃ w1 : World, w1 = ((w.alloc (.cells #[.string (str s.first), .int .i64 (s.base : Int), .bool s.r, .bool s.m, .bool s.mem, .int .i64 (s.width : Int)] 37)).alloc (.cells #[.int .i64 0, .int .i64 0, .int .i64 0, .int .i64 0, .int .i64 0, .int .i64 0, .int .i64 0] 24)) := ⟨_, rfl⟩
  rw [← hw1]
  have hw2 : wtwo w s = w1 := hw1.symm
  rw [hw2] at HB hc hr hN r0 r1 c0 c1 c2 c3 c4 c5 z0 z1 z2 z3 z4 z5 z6 f0 f1 f2 f3 f4 f5 f6
  have HN := Lib.hid hN
  have R0 := Lib.hid r0
  have R1 := Lib.hid r1
  clear hw1 hw2 hN r0 r1
  go_cut [22] (fun s22 wx => s22 = .bool false ∧ wx = w1.drew)
  case first =>
    go_region_held (fun W => W.cell? ⟨w.heap.size, 0, none⟩ = some (.string (str s.first))) (first | exact c0 | go_keep) (first
      | (go_at_call 18
         refine (HP.out _).mono ?_
         rintro e w4 ⟨rfl, rfl⟩)
      | fail)
    all_goals
      go_wp2_with fail
      go_meet
      exact ⟨rfl, rfl⟩
  case rest =>
    obtain ⟨rfl, rfl⟩ := hcut
    clear hc hr HP c0 c1 c2 c3 c4 c5 z0 z1 z2 z3 z4 z5 z6 f0 f1 f2 f3 f4 f5 f6
    obtain ⟨c0, c1, c2, c3, c4, c5⟩ := cells6r R0.out
    have hb2 := ((Below.refl w1.heap.size w1).alloc (Nat.le_refl _) (.cells #[.int .i64 0, .int .i64 0, .int .i64 0, .int .i64 0, .int .i64 0, .int .i64 0, .int .i64 0] 24)).drew
    have q0 := row_later hb2 R0.out
    have q1 := row_later hb2 R1.out
    have q2 : (w1.alloc (.cells #[.int .i64 0, .int .i64 0, .int .i64 0, .int .i64 0, .int .i64 0, .int .i64 0, .int .i64 0] 24)).drew.heap[w1.heap.size]? = some (.cells #[.int .i64 0, .int .i64 0, .int .i64 0, .int .i64 0, .int .i64 0, .int .i64 0, .int .i64 0] 24 (0, 0)) := heap_alloc_new w1 _
    have hb3 : Below w.heap.size w (w1.alloc (.cells #[.int .i64 0, .int .i64 0, .int .i64 0, .int .i64 0, .int .i64 0, .int .i64 0, .int .i64 0] 24)).drew := (HB.out.alloc HB.out.size _).drew
    have hgx : w.heap.size + 1 < w1.heap.size := by have := HN.out; omega
    obtain ⟨e0, e1, e2, e3, e4, e5⟩ := cells6r q0
    go_upto_region 5 with fail
    obtain ⟨gx, hx0⟩ : ∃ gx, gx = w1.heap.size := ⟨_, rfl⟩
    rw [← hx0] at q2 hgx ⊢
    generalize (w1.alloc (.cells #[.int .i64 0, .int .i64 0, .int .i64 0, .int .i64 0, .int .i64 0, .int .i64 0, .int .i64 0] 24)).drew = w2 at *
    have Q0 := Lib.hid q0
    have Q1 := Lib.hid q1
    have Q2 := Lib.hid q2
    have HB2 := Lib.hid hb3
    clear hb2 hb3 q0 q1 q2 c0 c1 c2 c3 c4 c5 hx0
    clear R0 R1 HB HN
    go_wp2_with fail
    refine (HNM.out _).mono ?_
    rintro e w5 ⟨rfl, hb5⟩
    have T0 := Lib.hid (row_later hb5 Q0.out)
    have T1 := Lib.hid (row_later hb5 Q1.out)
    have T2 := Lib.hid (row_later hb5 Q2.out)
    have HB5 := Lib.hid (HB2.out.trans (hb5.mono HB2.out.size))
    clear e0 e1 e2 e3 e4 e5 hb5 Q0 Q1 Q2 HB2
    clear w1 w2
    obtain ⟨c0, c1, c2, c3, c4, c5⟩ := cells6r T0.out
    obtain ⟨⟨z0, z1, z2, z3, z4, z5, z6⟩, f0, f1, f2, f3, f4, f5, f6⟩ := seven_cells T1.out
    obtain ⟨⟨x0, x1, x2, x3, x4, x5, x6⟩, p0, p1, p2, p3, p4, p5, p6⟩ := seven_cells T2.out
    have hwr : IntKind.i64.wrap ((s.first.length : Nat) : Int) = ((s.first.length : Nat) : Int) := IntWalk.i64_in _ (by omega)
    have hwr2 : IntKind.i64.wrap (((s.first.length : Nat) : Int) + (s.width : Int)) = ((s.first.length : Nat) : Int) + (s.width : Int) := IntWalk.i64_in _ (by omega)
    by_cases hfit : s.first.length + s.width ≤ len
    · have hg1 : ¬ (len : Int) < ((s.first.length : Nat) : Int) + (s.width : Int) := by omega
      rcases hwd with hw0 | hw0
      · have hg2 : ¬ (0 : Int) < (s.width : Int) := by omega
        have hx : res = some ⟨0, 0, 0, ((s.first.length : Nat) : Int) + (s.width : Int), 0, 0, 0⟩ := by
          rw [HX.out]
          unfold fld
          rw [if_pos (by rw [HLEN.out]; exact hfit), if_pos (by exact hw0)]
          simp [hw0]
        have HX2 := Lib.hid hx
        clear hx hw0
        have hbs : Below w.heap.size w (w5.setCell ⟨gx, 3, none⟩ (.int .i64 (((s.first.length : Nat) : Int) + (s.width : Int)))) := HB5.out.setCell (by simp; omega) _
        go_wp2_with fail
        obtain ⟨y1, y2⟩ := seven_set (.int .i64 0) (.int .i64 0) (.int .i64 0) (.int .i64 (((s.first.length : Nat) : Int) + (s.width : Int))) (.int .i64 0) (.int .i64 0) (.int .i64 0) (show w.heap.size ≤ w.heap.size + 1 by omega) hbs (by rw [heap_setCell_other _ _ _ _ (by simp; omega)]; exact T1.out)
        rw [HX2.out]
        exact bodyPost_ret (results_ins rfl _ _ _ _ _ _ _ _ _ _ _ (by rfl) (by rfl) y1) rfl ⟨rfl, y2⟩
      · have hg2 : (0 : Int) < (s.width : Int) := by omega
        have hg3 : ¬ s.width = 0 := by omega
        obtain ⟨im, him⟩ : ∃ im : Int, im = sgn s.width (num (win l s.first.length s.width)) := ⟨_, rfl⟩
        have hx : res = some ⟨0, 0, 0, ((s.first.length : Nat) : Int) + (s.width : Int), ((s.first.length : Nat) : Int), (s.width : Int), im⟩ := by
          rw [HX.out]
          unfold fld
          rw [if_pos (by rw [HLEN.out]; exact hfit), if_neg (by exact hg3), him]
          simp
        have HX2 := Lib.hid hx
        have HNU2 := Lib.hid fun W (hb : Below w.heap.size w W) => HNU.out W hb hfit hw0
        rw [← him] at HNU2
        clear hx hw0 HNU HX him
        go_upto_region 14 with fail
        go_cut [7] (fun s7 wx => s7 = .pointer (some ⟨gx, 0, none⟩) ∧ wx.heap[gx]? = some (.cells #[.int .i64 0, .int .i64 0, .int .i64 0, .int .i64 0, .int .i64 ((s.first.length : Nat) : Int), .int .i64 (s.width : Int), .int .i64 im] 24 (0, 0)) ∧ wx.heap[w.heap.size]? = w5.heap[w.heap.size]? ∧ wx.heap[w.heap.size + 1]? = w5.heap[w.heap.size + 1]? ∧ Below w.heap.size w wx)
        case first =>
          go_region_law (first
            | (go_simp
               go_at_call 20
               refine (HNU2.out _ (by first | exact HB5.out.drew | exact HB5.out)).mono ?_
               rintro e w6 ⟨rfl, rfl⟩)
            | fail)
          all_goals
            go_wp2_with fail
            go_meet
            have hgB : w.heap.size ≤ gx := by omega
            obtain ⟨k1, k2⟩ := set7 #[.int .i64 0, .int .i64 0, .int .i64 0, .int .i64 0, .int .i64 ((s.first.length : Nat) : Int), .int .i64 (s.width : Int), .int .i64 im] 6 (.int .i64 im) hgB (set7 #[.int .i64 0, .int .i64 0, .int .i64 0, .int .i64 0, .int .i64 ((s.first.length : Nat) : Int), .int .i64 (s.width : Int), .int .i64 0] 5 (.int .i64 (s.width : Int)) hgB (set7 #[.int .i64 0, .int .i64 0, .int .i64 0, .int .i64 0, .int .i64 ((s.first.length : Nat) : Int), .int .i64 0, .int .i64 0] 4 (.int .i64 ((s.first.length : Nat) : Int)) hgB ⟨T2.out, HB5.out⟩ rfl) rfl) rfl
            refine ⟨rfl, k1, ?_, ?_, k2.drew⟩
            · exact (heap_setCell_other _ _ _ _ (by simp; omega)).trans ((heap_setCell_other _ _ _ _ (by simp; omega)).trans (heap_setCell_other _ _ _ _ (by simp; omega)))
            · exact (heap_setCell_other _ _ _ _ (by simp; omega)).trans ((heap_setCell_other _ _ _ _ (by simp; omega)).trans (heap_setCell_other _ _ _ _ (by simp; omega)))
        case rest =>
          obtain ⟨rfl, hr2, hr0, hr1, hbx⟩ := hcut
          rw [T0.out] at hr0
          rw [T1.out] at hr1
          clear c0 c1 c2 c3 c4 c5 z0 z1 z2 z3 z4 z5 z6 f0 f1 f2 f3 f4 f5 f6 x0 x1 x2 x3 x4 x5 x6 p0 p1 p2 p3 p4 p5 p6 HNU2
          obtain ⟨c0, c1, c2, c3, c4, c5⟩ := cells6r hr0
          obtain ⟨⟨z0, z1, z2, z3, z4, z5, z6⟩, f0, f1, f2, f3, f4, f5, f6⟩ := seven_cells hr1
          obtain ⟨⟨x0, x1, x2, x3, x4, x5, x6⟩, p0, p1, p2, p3, p4, p5, p6⟩ := seven_cells hr2
          have HR1 := Lib.hid hr1
          have HBX := Lib.hid hbx
          clear hr0 hr1 hr2 hbx
          go_wp2_with fail
          obtain ⟨y1, y2⟩ := seven_set (.int .i64 0) (.int .i64 0) (.int .i64 0) (.int .i64 (((s.first.length : Nat) : Int) + (s.width : Int))) (.int .i64 ((s.first.length : Nat) : Int)) (.int .i64 (s.width : Int)) (.int .i64 im) (show w.heap.size ≤ w.heap.size + 1 by omega) (HBX.out.setCell (p := ⟨gx, 3, none⟩) (by simp; omega) (.int .i64 (((s.first.length : Nat) : Int) + (s.width : Int)))) (by rw [heap_setCell_other _ _ _ _ (by simp; omega)]; exact HR1.out)
          rw [HX2.out]
          exact bodyPost_ret (results_ins rfl _ _ _ _ _ _ _ _ _ _ _ (by rfl) (by rfl) y1) rfl ⟨rfl, y2⟩
    · have hg1 : (len : Int) < ((s.first.length : Nat) : Int) + (s.width : Int) := by omega
      have hx : res = none := by
        rw [HX.out]
        unfold fld
        rw [if_neg (by rw [HLEN.out]; exact hfit)]
      have HX2 := Lib.hid hx
      clear hx
      go_wp2_with fail
      obtain ⟨y1, y2⟩ := seven_set (.int .i64 0) (.int .i64 0) (.int .i64 0) (.int .i64 0) (.int .i64 0) (.int .i64 0) (.int .i64 0) (show w.heap.size ≤ w.heap.size + 1 by omega) HB5.out T1.out
      rw [HX2.out]
      exact bodyPost_ret (results_ins rfl _ _ _ _ _ _ _ _ _ _ _ (by rfl) (by rfl) y1) rfl ⟨rfl, y2⟩
end Go.Proofs.YtbedbkifdhjdfaaDoor
