/-
  Contract of the project's insn: shape.decode, of any bytes.
-/
import Derived.Test.YtbedbkifdhjdfaaDoorIDecC
namespace Go.Proofs.YtbedbkifdhjdfaaDoor
open Go.RowKit

theorem sdec_named {s : Shp} {l : List UInt8} (hp : s.first <+: l) (hn : s.names = true) : sdec s l = (regs s (kk l s.first.length)).bind fun q => fld ⟨0, q.1, q.2, s.first.length + 1, s.width⟩ l := by
  unfold sdec hm
  rw [if_pos hp, if_pos hn]
  cases regs s (kk l s.first.length) <;> rfl

set_option maxRecDepth 100000 in
set_option maxHeartbeats 4000000 in
theorem idec_full (s : Shp) (b off len : Nat) (l : List UInt8) (w : World) (h : Has w (some ⟨b, off, none⟩) l) (hlen : l.length = len) (hfl0 : s.first.length = len) (hno : s.first <+: l) (hnm : s.names = true) :
    Calls Tryd.prog 11 #[shpV s, .slice (some ⟨b, off, none⟩) len len] w fun e w' => e = .returned (.tuple #[ins0.v, .bool false]) ∧ Below w.heap.size w w' := by
  have hdd : decide (s.first <+: l.take s.first.length) = true := decide_eq_true (List.prefix_take_iff.2 ⟨hno, Nat.le_refl _⟩)
  have hdd2 : decide (s.first <+: l.take len) = true := hfl0 ▸ hdd
  have hszs : (str s.first).size = len := (str_size s.first).trans hfl0
  have HNM : Hid (∀ W : World, Calls Tryd.prog 14 #[shpV s] W fun e w' => e = .returned (.bool true) ∧ Below W.heap.size W w') := Lib.hid fun W => by
    have := inames_any (str s.first) s.base s.width s.r s.m s.mem W
    rw [show (s.r || s.m) = true from hnm] at this
    exact this
  have HRG : Hid (∀ (q : Option Addr) (c : Nat) (W : World), Calls Tryd.prog 19 #[shpV s, .slice q 0 c] W fun e w' => e = .returned (.tuple #[.int .i64 0, .int .i64 0, .bool false]) ∧ Below W.heap.size W w') := Lib.hid fun q c W => iregs_none _ _ _ _ _ _ q c W
  have cap := len
  obtain ⟨r0, r1, r2⟩ := wtwo_rows w s
  have hb := wtwo_below w s
  have hc := conv_at (has_take (h.below hb) len) (n := len) (c := len) (by rw [List.length_take]; omega) rfl
  have hI3 : (len : Int) ≤ (len : Int) := by omega
  have hI4 : ¬ len < len := by omega
  have hI5 : ¬ (len : Int) < (len : Int) := by omega
  have hI6 : (len : Int) ≤ (len : Int) := by omega
  have HP : Hid (∀ W : World, Calls Tryd.prog 18 #[.string (str (l.take len)), .string (str s.first)] W fun e w' => e = .returned (.bool true) ∧ w' = W) := Lib.hid fun W => by
    have := hasPre_any (str (l.take len)) (str s.first) W
    rw [lst_str, lst_str, hdd2] at this
    exact this
  clear hno h hlen hdd hdd2 hnm hfl0 cap
  have hr := (Below.refl (wtwo w s).heap.size (wtwo w s)).drew
  have HB := Lib.hid hb
  have hz0 : w.heap.size + 1 < (wtwo w s).heap.size := by omega
  obtain ⟨N, hN⟩ : ∃ N, N = (wtwo w s).heap.size := ⟨_, rfl⟩
  rw [← hN] at hc hr hz0
  obtain ⟨c0, c1, c2, c3, c4, c5⟩ := cells6r r0
  obtain ⟨⟨z0, z1, z2, z3, z4, z5, z6⟩, f0, f1, f2, f3, f4, f5, f6⟩ := seven_cells r1
  clear hb r2
  go_enter Tryd.func11, Tryd.ntmps11
  go_upto_region 2 with fail
  obtain ⟨w1, hw1⟩ : ∃ w1 : World, w1 = ((w.alloc (.cells #[.string (str s.first), .int .i64 (s.base : Int), .bool s.r, .bool s.m, .bool s.mem, .int .i64 (s.width : Int)] 37)).alloc (.cells #[.int .i64 0, .int .i64 0, .int .i64 0, .int .i64 0, .int .i64 0, .int .i64 0, .int .i64 0] 24)) := ⟨_, rfl⟩
  rw [← hw1]
  have hw2 : wtwo w s = w1 := hw1.symm
  rw [hw2] at HB hc hr hN r0 r1 c0 c1 c2 c3 c4 c5 z0 z1 z2 z3 z4 z5 z6 f0 f1 f2 f3 f4 f5 f6
  have HN := Lib.hid hN
  have R0 := Lib.hid r0
  have R1 := Lib.hid r1
  clear hw1 hw2 hN r0 r1
  go_cut [22] (fun s22 wx => s22 = .bool false ∧ wx = w1.drew)
  case first =>
    go_region_held (fun W => W.cell? ⟨w.heap.size, 0, none⟩ = some (.string (str s.first))) (first | exact c0 | go_keep) (first
      | (go_at_call 18
         refine (HP.out _).mono ?_
         rintro e w4 ⟨rfl, rfl⟩)
      | fail)
    all_goals
      go_wp2_with fail
      go_meet
      exact ⟨rfl, rfl⟩
  case rest =>
    obtain ⟨rfl, rfl⟩ := hcut
    clear hc hr HP c0 c1 c2 c3 c4 c5 z0 z1 z2 z3 z4 z5 z6 f0 f1 f2 f3 f4 f5 f6
    obtain ⟨c0, c1, c2, c3, c4, c5⟩ := cells6r R0.out
    have hb2 := ((Below.refl w1.heap.size w1).alloc (Nat.le_refl _) (.cells #[.int .i64 0, .int .i64 0, .int .i64 0, .int .i64 0, .int .i64 0, .int .i64 0, .int .i64 0] 24)).drew
    have q0 := row_later hb2 R0.out
    have q1 := row_later hb2 R1.out
    have q2 : (w1.alloc (.cells #[.int .i64 0, .int .i64 0, .int .i64 0, .int .i64 0, .int .i64 0, .int .i64 0, .int .i64 0] 24)).drew.heap[w1.heap.size]? = some (.cells #[.int .i64 0, .int .i64 0, .int .i64 0, .int .i64 0, .int .i64 0, .int .i64 0, .int .i64 0] 24 (0, 0)) := heap_alloc_new w1 _
    have hb3 : Below w.heap.size w (w1.alloc (.cells #[.int .i64 0, .int .i64 0, .int .i64 0, .int .i64 0, .int .i64 0, .int .i64 0, .int .i64 0] 24)).drew := (HB.out.alloc HB.out.size _).drew
    have hgx : w.heap.size + 1 < w1.heap.size := by have := HN.out; omega
    obtain ⟨e0, e1, e2, e3, e4, e5⟩ := cells6r q0
    go_upto_region 5 with fail
    obtain ⟨gx, hx0⟩ : ∃ gx, gx = w1.heap.size := ⟨_, rfl⟩
    rw [← hx0] at q2 hgx ⊢
    generalize (w1.alloc (.cells #[.int .i64 0, .int .i64 0, .int .i64 0, .int .i64 0, .int .i64 0, .int .i64 0, .int .i64 0] 24)).drew = w2 at *
    have Q0 := Lib.hid q0
    have Q1 := Lib.hid q1
    have Q2 := Lib.hid q2
    have HB2 := Lib.hid hb3
    clear hb2 hb3 q0 q1 q2 c0 c1 c2 c3 c4 c5 hx0
    clear R0 R1 HB HN
    go_wp2_with fail
    refine (HNM.out _).mono ?_
    rintro e w5 ⟨rfl, hb5⟩
    have T0 := Lib.hid (row_later hb5 Q0.out)
    have T1 := Lib.hid (row_later hb5 Q1.out)
    have T2 := Lib.hid (row_later hb5 Q2.out)
    have HB5 := Lib.hid (HB2.out.trans (hb5.mono HB2.out.size))
    clear e0 e1 e2 e3 e4 e5 hb5 Q0 Q1 Q2 HB2
    clear w1 w2
    go_upto_region 7 with fail
    obtain ⟨c0, c1, c2, c3, c4, c5⟩ := cells6r T0.out
    obtain ⟨⟨x0, x1, x2, x3, x4, x5, x6⟩, p0, p1, p2, p3, p4, p5, p6⟩ := seven_cells T2.out
    go_cut [8] (fun s8 wx => s8 = .bool false ∧ wx.heap[w.heap.size + 1]? = w5.heap[w.heap.size + 1]? ∧ Below w.heap.size w wx)
    case first =>
      have hgl : gx < w5.heap.size := (Array.getElem?_eq_some_iff.1 T2.out).1
      go_region_law (first
        | (go_simp
           go_at_call 19
           refine (HRG.out _ _ _).mono ?_
           rintro e w6 ⟨rfl, hb6⟩
           have hb56 : Below w5.heap.size w5 w6 := by first | exact (Below.refl w5.heap.size w5).drew.trans hb6 | exact hb6
           have U1 := Lib.hid (row_later hb56 T1.out)
           have U2 := Lib.hid (row_later hb56 T2.out)
           have HB6 := Lib.hid (HB5.out.trans (hb56.mono HB5.out.size))
           obtain ⟨⟨y0, y1, y2, y3, y4, y5, y6⟩, s0, s1, s2, s3, s4, s5, s6⟩ := seven_cells U2.out
           clear hb6 hb56)
        | fail)
      all_goals
        go_wp2_with fail
        go_meet
        have hgB : w.heap.size ≤ gx := by omega
        refine ⟨rfl, ?_, by first | exact (HB6.out.setCell (by simpa using hgB) _).setCell (by simpa using hgB) _ | exact ((HB6.out.setCell (by simpa using hgB) _).setCell (by simpa using hgB) _).drew⟩
        exact ((heap_setCell_other _ _ _ _ (by simp; omega)).trans (heap_setCell_other _ _ _ _ (by simp; omega))).trans (U1.out.trans T1.out.symm)
    case rest =>
      obtain ⟨rfl, hr1, hbx⟩ := hcut
      rw [T1.out] at hr1
      have V1 := Lib.hid hr1
      have HBV := Lib.hid hbx
      obtain ⟨⟨z0, z1, z2, z3, z4, z5, z6⟩, f0, f1, f2, f3, f4, f5, f6⟩ := seven_cells hr1
      clear c0 c1 c2 c3 c4 c5 x0 x1 x2 x3 x4 x5 x6 p0 p1 p2 p3 p4 p5 p6 HRG HNM hr1 hbx T0 T1 T2 HB5
      go_wp2_with fail
      obtain ⟨y1, y2⟩ := seven_set (.int .i64 0) (.int .i64 0) (.int .i64 0) (.int .i64 0) (.int .i64 0) (.int .i64 0) (.int .i64 0) (show w.heap.size ≤ w.heap.size + 1 by omega) HBV.out V1.out
      exact bodyPost_ret (results_ins rfl _ _ _ _ _ _ _ _ _ _ _ (by rfl) (by rfl) y1) rfl ⟨rfl, y2⟩

theorem regs_none_of {s : Shp} {c : Nat} (h : ¬ (c < 256 ∧ s.base ≤ c ∧ c - s.base < 64)) : regs s c = none := by
  unfold regs
  rw [if_neg fun hh => h ⟨hh.1, hh.2.1, hh.2.2.1⟩]
theorem idec_any (s : Shp) (p : Option Addr) (len cap : Nat) (l : List UInt8) (w : World) (h : Has w p l) (hlen : l.length = len) (hcap : len ≤ cap) (hm1 : cap ≤ maxLen) (hs1 : 1 ≤ s.first.length) (hs3 : s.first.length ≤ 3) (hbase : s.base ≤ 255) (hwd : s.width = 0 ∨ (s.width = 4 ∨ s.width = 8)) :
    Calls Tryd.prog 11 #[shpV s, .slice p len cap] w fun e w' => e = .returned (.tuple #[(optI (sdec s l)).1.v, .bool (optI (sdec s l)).2]) ∧ Below w.heap.size w w' := by
  by_cases hno0 : ¬ s.first <+: l
  · rw [sdec_no hno0]
    exact idec_no s p len cap l w h hlen hcap hno0
  have hno := Decidable.not_not.1 hno0
  cases hnm : s.names with
  | false => exact idec_bare s p len cap l w h hlen hcap hm1 hs3 hwd hno hnm
  | true =>
    have hfl := hno.length_le
    obtain ⟨b, off, rfl, hcell⟩ := h.plain (by omega)
    rw [sdec_named hno hnm]
    by_cases hca : cap = s.first.length
    · have e1 : s.first.length = len := by omega
      have e2 : cap = len := by omega
      rw [kk_none (by omega), regs_none_of (by omega), e2]
      exact idec_full s b off len l w h hlen e1 hno hnm
    · by_cases hin : s.first.length < l.length
      · obtain ⟨c, hc⟩ : ∃ c, l[s.first.length]? = some c := ⟨_, List.getElem?_eq_getElem hin⟩
        have hcl := c.toNat_lt
        have hH : ∀ W, Below w.heap.size w W → Has W (some ⟨b, off + s.first.length, none⟩) (l.drop s.first.length) := fun W hb => Has.of_plain fun i x hx => by
          rw [List.getElem?_drop] at hx
          have := (h.below hb).plain (by omega)
          obtain ⟨b', off', he, hh⟩ := this
          cases he
          rw [Nat.add_assoc]
          exact hh _ _ hx
        have hl1 : (l.drop s.first.length).length = len - s.first.length := by rw [List.length_drop, hlen]
        have hl0 : (l.drop s.first.length)[0]? = some c := by rw [List.getElem?_drop, Nat.add_zero, hc]
        rw [kk_some hc]
        by_cases hn : s.base ≤ c.toNat ∧ c.toNat - s.base < 64
        · obtain ⟨n, hnn⟩ : ∃ n : Nat, c.toNat - s.base = n := ⟨_, rfl⟩
          refine idec_named s b off len cap l w (((n : Nat) : Int) / 8) (((n : Nat) : Int) % 8) ((s.r || ((n : Nat) : Int) / 8 == 0) && (s.m || ((n : Nat) : Int) % 8 == 0) && !(s.mem && ((n : Nat) : Int) % 8 == 4)) h hlen hcap hm1 hs3 hwd hno hnm hca
            (fun W hb => iregs_in _ _ _ _ _ _ _ _ _ (l.drop s.first.length) W c _ (hH W hb) hl1 hl0 (by omega) (by omega) (by omega)) (s.first.length + 1) rfl _ (fun h0 => ?_) (fun h1 => ?_)
          · have : regs s c.toNat = none := by
              cases hr : regs s c.toNat with
              | none => rfl
              | some q =>
                obtain ⟨r, m⟩ := q
                obtain ⟨g1, g2, g3, g4, g5, g6, g7⟩ := (regs_iff _ _ _ _).1 hr
                exfalso
                have er : ((n : Nat) : Int) / 8 = r := by omega
                have em : ((n : Nat) : Int) % 8 = m := by omega
                rw [er, em] at h0
                have t1 : (s.r || (r : Int) == 0) = true := by rcases g5 with g | g <;> simp [g]
                have t2 : (s.m || (m : Int) == 0) = true := by rcases g6 with g | g <;> simp [g]
                have t3 : (s.mem && (m : Int) == 4) = false := by
                  cases hs : s.mem with
                  | false => rfl
                  | true =>
                    have : ¬ m = 4 := fun e => g7 ⟨hs, e⟩
                    have h4 : ¬ (m : Int) = 4 := by omega
                    simpa using h4
                rw [t1, t2, t3] at h0
                cases h0
            rw [this]; rfl
          · refine ⟨by omega, n / 8, n % 8, by omega, by omega, ?_⟩
            simp only [Bool.and_eq_true, Bool.or_eq_true, beq_iff_eq, Bool.not_eq_true', Bool.and_eq_false_iff] at h1
            have : regs s c.toNat = some (n / 8, n % 8) := (regs_iff _ _ _ _).2 ⟨by omega, by omega, by omega, by omega, h1.1.1.imp id (by omega), h1.1.2.imp id (by omega), fun g => by
              rcases h1.2 with g2 | g2
              · rw [g.1] at g2; cases g2
              · have e4 : ((n : Nat) : Int) % 8 = 4 := by omega
                rw [e4] at g2
                cases g2⟩
            rw [this]; rfl
        · rw [regs_none_of (by omega)]
          exact idec_named s b off len cap l w 0 0 false h hlen hcap hm1 hs3 hwd hno hnm hca
            (fun W hb => iregs_out _ _ _ _ _ _ _ _ _ (l.drop s.first.length) W c ((c.toNat : Int) - (s.base : Int)) (hH W hb) hl1 hl0 (by omega) (by omega) rfl (by omega)) (s.first.length + 1) rfl _ (fun _ => rfl) (fun h => by cases h)
      · rw [kk_none (by omega), regs_none_of (by omega)]
        have e0 : len - s.first.length = 0 := by omega
        exact idec_named s b off len cap l w 0 0 false h hlen hcap hm1 hs3 hwd hno hnm hca
          (fun W _ => by rw [e0]; exact iregs_none _ _ _ _ _ _ _ _ W) (s.first.length + 1) rfl _ (fun _ => rfl) (fun h => by cases h)
end Go.Proofs.YtbedbkifdhjdfaaDoor
