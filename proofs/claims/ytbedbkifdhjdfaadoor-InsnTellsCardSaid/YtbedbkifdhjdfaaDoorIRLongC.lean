/-
  The same: all others.
-/
import Derived.Test.YtbedbkifdhjdfaaDoorIRLongA
namespace Go.Proofs.YtbedbkifdhjdfaaDoor
open Go.RowKit

set_option maxRecDepth 100000 in
set_option maxHeartbeats 80000000 in
theorem rlong_c (p : Option Addr) (len cap : Nat) (l : List UInt8) (w : World) (hh : Has w p l) (hlen : l.length = len) (hcap : len ≤ cap) (_hm1 : cap ≤ maxLen) (h0 : kk l 0 = 72) (hA : (2 ≤ l.length ∧ ¬ (184 ≤ kk l 1 ∧ kk l 1 ≤ 191) ∧ kk l 1 ≠ 15) ∧ ¬ (l.length ≤ 2 ∨ (kk l 1 = 141 ∧ kk l 2 / 64 = 0 ∧ kk l 2 % 8 = 5) ∨ (kk l 2 / 64 = 2 ∧ ¬ kk l 2 % 8 = 4 ∧ (kk l 1 = 139 ∨ kk l 1 = 137 ∨ kk l 1 = 136)))) :
    Calls Tryd.prog 12 #[.slice p len cap] w fun e w' => e = .returned (.tuple #[(optI (dec l)).1.v, .bool (optI (dec l)).2]) ∧ Below w.heap.size w w' := by
  have HA := Lib.hid hA
  clear hA
  have HX : Hid (dec l = (cls 72 (kk l 1) (kk l 2) (kk l 3)).bind fun h => fld h l) := Lib.hid (by unfold dec hd; rw [h0])
  have hl1 : 0 < l.length := kk_lt.1 (by omega)
  have HF := Lib.hid fun W (hb : Below w.heap.size w W) (op r m wd : Int) (h : Hd) e1 e2 e3 e4 ha hw at0 e5 => rfield_any op r m wd h p len cap l W (hh.below hb) hlen hcap e1 e2 e3 e4 ha hw at0 e5
  obtain ⟨b, off, rfl, hcell⟩ := hh.plain hl1
  have hb1 : Below w.heap.size w (w.alloc (.cells #[.int .i64 0, .int .i64 0, .int .i64 0, .int .i64 0, .int .i64 0, .int .i64 0, .int .i64 0] 28)) := (Below.refl _ w).alloc (Nat.le_refl _) _
  have hr1 : (w.alloc (.cells #[.int .i64 0, .int .i64 0, .int .i64 0, .int .i64 0, .int .i64 0, .int .i64 0, .int .i64 0] 28)).heap[w.heap.size]? = some (.cells #[.int .i64 0, .int .i64 0, .int .i64 0, .int .i64 0, .int .i64 0, .int .i64 0, .int .i64 0] 28 (0, 0)) := heap_alloc_new w _
  have hce : ∀ i x, l[i]? = some x → (w.alloc (.cells #[.int .i64 0, .int .i64 0, .int .i64 0, .int .i64 0, .int .i64 0, .int .i64 0, .int .i64 0] 28)).cell? ⟨b, off + i, none⟩ = some (.int .u8 (x.toNat : Int)) := fun i x hx => cell_later hb1 (hcell i x hx)
  have HCE := Lib.hid hce
  have HB1 := Lib.hid hb1
  have R1 := Lib.hid hr1
  unfold maxLen at _hm1
  have HLEN := Lib.hid hlen
  clear hcell hce hb1 hr1
  have hty : (Tryd.prog.info? 28).map (·.size) = some 7 := by kernel_rfl
  go_enter Tryd.func12, Tryd.ntmps12
  go_upto_region 1 with fail
  generalize (w.alloc (.cells #[.int .i64 0, .int .i64 0, .int .i64 0, .int .i64 0, .int .i64 0, .int .i64 0, .int .i64 0] 28)) = w1 at *
  by_cases hl2 : 2 ≤ len
  case neg => exfalso; have e0 := HA.out; have e9 := HLEN.out; omega
  obtain ⟨c1, hc1⟩ : ∃ c, l[1]? = some c := ⟨_, List.getElem?_eq_getElem (by omega)⟩
  have x1 := HCE.out 1 c1 hc1
  obtain ⟨B1, hB1⟩ : ∃ B : Int, B = (c1.toNat : Int) := ⟨_, rfl⟩
  rw [← hB1] at x1
  have HK1 : Hid ((kk l 1 : Int) = B1) := Lib.hid (by rw [kk_some hc1, hB1])
  have r1 : 0 ≤ B1 := by omega
  have r2 : B1 < 256 := by have := c1.toNat_lt; omega
  have i2 : (2 : Int) ≤ (len : Int) := by omega
  have i3 : 1 < len := by omega
  have i4 : (1 : Int) < (len : Int) := by omega
  have v1 : IntKind.i64.wrap B1 = B1 := IntWalk.i64_in _ (by omega)
  clear hB1 hc1
  by_cases hP1 : 184 ≤ B1 ∧ B1 ≤ 191
  · exfalso; have e0 := HA.out; have e1 := HK1.out; have e9 := HLEN.out; omega
  have j12 : ¬ ((184 : Int) ≤ B1 ∧ B1 ≤ 191) := hP1
  have j13 : 191 < B1 ∨ B1 < 184 := by omega
  go_cut [24] (fun s24 wx => s24 = .bool false ∧ wx = w1)
  case first =>
    rcases j13 with j13 | j13
    · have j14 : (184 : Int) ≤ B1 := by omega
      have j15 : ¬ B1 ≤ 191 := by omega
      go_wp2_with fail
      go_meet
      exact ⟨rfl, rfl⟩
    · have j14 : ¬ (184 : Int) ≤ B1 := by omega
      go_wp2_with fail
      go_meet
      exact ⟨rfl, rfl⟩
  case rest =>
  obtain ⟨rfl, hwc⟩ := hcut
  have hwc2 := hwc.symm
  clear hwc
  subst hwc2
  have HP1 := Lib.hid hP1
  (try clear j12); (try clear j13); (try clear hP1)
  by_cases h15 : B1 = 15
  · exfalso; have e0 := HA.out; have e1 := HK1.out; have e9 := HLEN.out; omega
  by_cases hl3 : len ≤ 2
  · exfalso; have e0 := HA.out; have e1 := HK1.out; have e9 := HLEN.out; omega
  obtain ⟨c2, hc2⟩ : ∃ c, l[2]? = some c := ⟨_, List.getElem?_eq_getElem (by omega)⟩
  have x2 := HCE.out 2 c2 hc2
  obtain ⟨B2, hB2⟩ : ∃ B : Int, B = (c2.toNat : Int) := ⟨_, rfl⟩
  rw [← hB2] at x2
  have HK2 : Hid ((kk l 2 : Int) = B2) := Lib.hid (by rw [kk_some hc2, hB2])
  have HK3 : Hid True := Lib.hid trivial
  have r3 : 0 ≤ B2 := by omega
  have r4 : B2 < 256 := by have := c2.toNat_lt; omega
  have i7 : ¬ (len : Int) ≤ 2 := by omega
  have i8 : 2 < len := by omega
  have i9 : (2 : Int) < (len : Int) := by omega
  have v3 : IntKind.i64.wrap B2 = B2 := IntWalk.i64_in _ (by omega)
  have r5 : 0 ≤ B2 / 8 := by omega
  clear hB2 hc2
  go_upto_region 8 with fail
  have hbX := HB1.out.alloc HB1.out.size (.cells #[.int .i64 0, .int .i64 (B2 / 8 % 8), .int .i64 (B2 % 8), .int .i64 3, .int .i64 0, .int .i64 0, .int .i64 0] 28)
  have hX : (w1.alloc (.cells #[.int .i64 0, .int .i64 (B2 / 8 % 8), .int .i64 (B2 % 8), .int .i64 3, .int .i64 0, .int .i64 0, .int .i64 0] 28)).heap[w1.heap.size]? = some (.cells #[.int .i64 0, .int .i64 (B2 / 8 % 8), .int .i64 (B2 % 8), .int .i64 3, .int .i64 0, .int .i64 0, .int .i64 0] 28 (0, 0)) := heap_alloc_new w1 _
  have hbl : b < w1.heap.size := World.block_lt_of_cell? w1 _ x2
  have hbn : ¬ b = w1.heap.size := by omega
  have hba := (Below.refl w1.heap.size w1).alloc (Nat.le_refl _) (.cells #[.int .i64 0, .int .i64 (B2 / 8 % 8), .int .i64 (B2 % 8), .int .i64 3, .int .i64 0, .int .i64 0, .int .i64 0] 28)
  have hX1 := row_later hba R1.out
  have hgx : w.heap.size < w1.heap.size := (Array.getElem?_eq_some_iff.1 R1.out).1
  obtain ⟨gx, hgx2⟩ : ∃ g, g = w1.heap.size := ⟨_, rfl⟩
  go_cut [5] (fun s5 wx => s5 = .pointer (some ⟨gx, 0, none⟩) ∧ wx.heap[gx]? = some (.cells #[.int .i64 0, .int .i64 (B2 / 8 % 8), .int .i64 (B2 % 8), .int .i64 3, .int .i64 0, .int .i64 0, .int .i64 0] 28 (0, 0)) ∧ wx.heap[w.heap.size]? = some (.cells #[.int .i64 0, .int .i64 0, .int .i64 0, .int .i64 0, .int .i64 0, .int .i64 0, .int .i64 0] 28 (0, 0)) ∧ Below w.heap.size w wx ∧ Below w1.heap.size w1 wx)
  case first =>
    have e1 : (IntKind.i64.wrap (Int.tdiv B2 8)).tmod 8 = B2 / 8 % 8 := by
      rw [Int.tdiv_eq_ediv_of_nonneg r3, IntWalk.i64_in _ (by omega), Int.tmod_eq_emod_of_nonneg r5]
    have e2 : Int.tmod B2 8 = B2 % 8 := Int.tmod_eq_emod_of_nonneg r3
    have e3 : IntKind.i64.wrap 3 = 3 := by decide
    have HE1 := Lib.hid e1
    have HE2 := Lib.hid e2
    have HE3 := Lib.hid e3
    clear e1 e2 e3
    go_region_held (fun W => W.cell? ⟨b, off + 2, none⟩ = some (.int .u8 B2)) (first | exact x2 | go_keep | fail) (fail)
    all_goals
      rw [HE1.out, HE2.out, HE3.out]
      go_wp2_with fail
      go_meet
      rw [hgx2]
      exact ⟨rfl, hX, hX1, hbX.drew, hba.drew⟩
  case rest =>
    obtain ⟨rfl, hx, hr, hb, hbw⟩ := hcut
    rw [← hgx2] at hgx
    have HBX := Lib.hid hb
    have RR := Lib.hid hr
    have RX := Lib.hid hx
    replace x1 := cell_later hbw x1
    replace x2 := cell_later hbw x2
    skip
    clear hx hr hb hbw hbX hX hba hX1 hbl hbn hgx2
    have H15 := Lib.hid h15
    (try clear i5); (try clear i6); (try clear h15)
    as_aux_lemma =>
    have hmo : Int.tdiv B2 64 = B2 / 64 := Int.tdiv_eq_ediv_of_nonneg r3
    have hmw : IntKind.i64.wrap (B2 / 64) = B2 / 64 := IntWalk.i64_in _ (by omega)
    obtain ⟨⟨g0, g1, g2, g3, g4, g5, g6⟩, p0, p1, p2, p3, p4, p5, p6⟩ := seven_cells RX.out
    obtain ⟨⟨z0, z1, z2, z3, z4, z5, z6⟩, f0, f1, f2, f3, f4, f5, f6⟩ := seven_cells RR.out
    by_cases h141 : B1 = 141 ∧ B2 / 64 = 0 ∧ B2 % 8 = 5
    · exfalso; have e0 := HA.out; have e1 := HK1.out; have e2 := HK2.out; have e9 := HLEN.out; omega
    go_upto_region 15 with fail
    go_cut [105] (fun s105 wx => s105 = .bool false ∧ wx = wc)
    case first =>
      by_cases a1 : B1 = 141
      · subst a1
        by_cases a2 : B2 / 64 = 0
        · have a3 : (B2 % 8 == 5) = false := by simp; exact fun h => h141 ⟨rfl, a2, h⟩
          have a5 : (B2 / 64 == 0) = true := by simpa using a2
          clear a2 h141
          go_wp2_with fail
          go_meet
          exact ⟨rfl, rfl⟩
        · have a5 : (B2 / 64 == 0) = false := by simpa using a2
          clear h141
          go_wp2_with fail
          go_meet
          exact ⟨rfl, rfl⟩
      · have a5 : (B1 == 141) = false := by simpa using a1
        clear h141
        go_wp2_with fail
        go_meet
        exact ⟨rfl, rfl⟩
    case rest =>
    obtain ⟨rfl, hwc⟩ := hcut
    have hwc2 := hwc.symm
    clear hwc
    subst hwc2
    have H141 := Lib.hid h141
    (clear h141)
    as_aux_lemma =>
    by_cases h2 : B2 / 64 = 2 ∧ ¬ B2 % 8 = 4 ∧ (B1 = 139 ∨ B1 = 137 ∨ B1 = 136)
    · exfalso; have e0 := HA.out; have e1 := HK1.out; have e2 := HK2.out; have e9 := HLEN.out; omega
    go_upto_region 19 with fail
    go_cut [137] (fun s137 wx => s137 = .bool false ∧ wx = wc)
    case first =>
      by_cases a2 : B2 / 64 = 2
      · have a7 : (B2 / 64 == 2) = true := by simpa using a2
        by_cases a3 : B2 % 8 = 4
        · have a4 : (B2 % 8 == 4) = true := by simpa using a3
          have a5 : (B2 % 8 != 4) = false := by simpa using a3
          clear h2 a2 a3
          go_wp2_with fail
          go_meet
          exact ⟨rfl, rfl⟩
        · have a4 : (B2 % 8 == 4) = false := by simpa using a3
          have a5 : (B2 % 8 != 4) = true := by simpa using a3
          have b1 : ¬ B1 = 139 := fun h => h2 ⟨a2, a3, .inl h⟩
          have b2 : ¬ B1 = 137 := fun h => h2 ⟨a2, a3, .inr (.inl h)⟩
          have b3 : ¬ B1 = 136 := fun h => h2 ⟨a2, a3, .inr (.inr h)⟩
          have b4 : (B1 == 139) = false := by simpa using b1
          have b5 : (B1 == 137) = false := by simpa using b2
          have b6 : (B1 == 136) = false := by simpa using b3
          clear h2 a2
          go_wp2_with fail
          go_meet
          exact ⟨rfl, rfl⟩
      · have a4 : (B2 / 64 == 2) = false := by simpa using a2
        clear h2
        go_wp2_with fail
        go_meet
        exact ⟨rfl, rfl⟩
    case rest =>
    obtain ⟨rfl, hwc⟩ := hcut
    have hwc2 := hwc.symm
    clear hwc
    subst hwc2
    have H2 := Lib.hid h2
    (clear h2)
    as_aux_lemma =>
    by_cases hm3 : B2 / 64 = 3
    case neg =>
      have a4 : (B2 / 64 != 3) = true := by simpa using hm3
      have HX2 : Hid (dec l = none) := Lib.hid (by
        rw [HX.out, show cls 72 (kk l 1) (kk l 2) (kk l 3) = none from by
            have e1 := HK1.out
            have e2 := HK2.out
            have e3 := HK3.out
            skip
            try have q0 := HP1.out
            try have q1 := H15.out
            try have q2 := H141.out
            try have q3 := H2.out
            show cls 72 (kk l 1) (kk l 2) (kk l 3) = none
            unfold cls
            (repeat (first | refine (if_pos (by omega)).trans ?_ | refine (if_neg (by omega)).trans ?_))
            first | rfl | (simp only [Option.some.injEq, Hd.mk.injEq, true_and, and_true]; omega)]
        rfl)
      go_wp2_with (first | (refine wpList_store_row rfl 28 _ _ rfl w.heap.size #[.int .i64 0, .int .i64 0, .int .i64 0, .int .i64 0, .int .i64 0, .int .i64 0, .int .i64 0] rfl rfl 28 #[.int .i64 0, .int .i64 0, .int .i64 0, .int .i64 0, .int .i64 0, .int .i64 0, .int .i64 0] RR.out hty rfl (seven_one _ _ _ _ _ _ _) ?_) | fail)
      all_goals
        obtain ⟨y1, y2⟩ := seven_row #[.int .i64 0, .int .i64 0, .int .i64 0, .int .i64 0, .int .i64 0, .int .i64 0, .int .i64 0] (Nat.le_refl w.heap.size) HBX.out RR.out
        rw [HX2.out]
        exact bodyPost_ret (results_rins rfl _ _ _ _ _ _ _ _ _ _ _ (by rfl) (by rfl) y1) rfl ⟨rfl, y2⟩
    have a6 : (B2 / 64 != 3) = false := by simp [hm3]
    have HM3 := Lib.hid hm3
    clear hm3
    by_cases h1 : B2 / 8 % 8 = 0 ∧ (B1 = 199 ∨ B1 = 129)
    · obtain ⟨hR, a1⟩ := h1
      have HRR := Lib.hid hR
      have a4 : (B2 / 8 % 8 == 0) = true := by simpa using hR
      clear hR
      rcases a1 with rfl | rfl
      · skip
        have st0 := set7 #[.int .i64 1, .int .i64 (B2 / 8 % 8), .int .i64 (B2 % 8), .int .i64 3, .int .i64 0, .int .i64 0, .int .i64 0] 0 (.int .i64 1) (show w.heap.size ≤ gx by omega) ⟨RX.out, HBX.out⟩ rfl
        have str : (wc.setCell ⟨gx, 0, none⟩ (.int .i64 1)).heap[w.heap.size]? = some (.cells #[.int .i64 0, .int .i64 0, .int .i64 0, .int .i64 0, .int .i64 0, .int .i64 0, .int .i64 0] 28 (0, 0)) := ((heap_setCell_other _ _ _ _ (by simp; omega)).trans RR.out)
        have HST := Lib.hid st0.2
        have HSX := Lib.hid st0.1
        have HSR := Lib.hid str
        clear st0 str
        have HX2 : Hid (dec l = fld ⟨1, 0, kk l 2 % 8, 3, 4⟩ l) := Lib.hid (by
          rw [HX.out, show cls 72 (kk l 1) (kk l 2) (kk l 3) = some ⟨1, 0, kk l 2 % 8, 3, 4⟩ from by
              have e1 := HK1.out
              have e2 := HK2.out
              have e3 := HK3.out
              have e4 := HRR.out; have e5 := HM3.out
              try clear j13
              try clear j12
              try clear hP1
              try clear h141
              try clear h2
              try clear h1
              try clear h15
              show cls 72 (kk l 1) (kk l 2) (kk l 3) = some ⟨1, 0, kk l 2 % 8, 3, 4⟩
              unfold cls
              (repeat (first | refine (if_pos (by omega)).trans ?_ | refine (if_neg (by omega)).trans ?_))
              first | rfl | (simp only [Option.some.injEq, Hd.mk.injEq, true_and, and_true]; omega)]
          rfl)
        have HFF := Lib.hid fun W (hb : Below w.heap.size w W) => HF.out W hb 1 (B2 / 8 % 8) (B2 % 8) 4 ⟨1, 0, kk l 2 % 8, 3, 4⟩ (by (try clear j13); (try clear j12); (try clear hP1); (try clear h141); (try clear h2); (try clear h1); (try clear h15); have e1 := HK1.out; have e2 := HK2.out; have e3 := HK3.out; have e4 := HRR.out; have e5 := HM3.out; simp only; omega) (by (try clear j13); (try clear j12); (try clear hP1); (try clear h141); (try clear h2); (try clear h1); (try clear h15); have e1 := HK1.out; have e2 := HK2.out; have e3 := HK3.out; have e4 := HRR.out; have e5 := HM3.out; simp only; omega) (by (try clear j13); (try clear j12); (try clear hP1); (try clear h141); (try clear h2); (try clear h1); (try clear h15); have e1 := HK1.out; have e2 := HK2.out; have e3 := HK3.out; have e4 := HRR.out; have e5 := HM3.out; simp only; omega) rfl (by simp only; omega) (by simp) 3 rfl
        rw [← HX2.out] at HFF
        go_upto_region 32 with fail
        generalize (wc.setCell ⟨gx, 0, none⟩ (.int .i64 1)) = wq at *
        clear z0 z1 z2 z3 z4 z5 z6 f0 f1 f2 f3 f4 f5 f6 g0 g1 g2 g3 g4 g5 g6 p0 p1 p2 p3 p4 p5 p6
        obtain ⟨⟨g0, g1, g2, g3, g4, g5, g6⟩, p0, p1, p2, p3, p4, p5, p6⟩ := seven_cells HSX.out
        obtain ⟨⟨z0, z1, z2, z3, z4, z5, z6⟩, f0, f1, f2, f3, f4, f5, f6⟩ := seven_cells HSR.out
        go_wp2_with fail
        refine (HFF.out _ HST.out).mono ?_
        rintro e w9 ⟨rfl, hb9⟩
        have R9 := row_later hb9 HSR.out
        have HB9 := Lib.hid ((HST.out).trans (hb9.mono (HST.out).size))
        have HR9 := Lib.hid R9
        clear R9 hb9
        go_wp2_with (first | (refine wpList_store_row rfl 28 _ _ rfl w.heap.size #[.int .i64 (optI (dec l)).1.op, .int .i64 (optI (dec l)).1.r, .int .i64 (optI (dec l)).1.m, .int .i64 (optI (dec l)).1.len, .int .i64 (optI (dec l)).1.field, .int .i64 (optI (dec l)).1.width, .int .i64 (optI (dec l)).1.imm] rfl rfl 28 #[.int .i64 0, .int .i64 0, .int .i64 0, .int .i64 0, .int .i64 0, .int .i64 0, .int .i64 0] HR9.out hty rfl (seven_one _ _ _ _ _ _ _) ?_) | fail)
        obtain ⟨y1, y2⟩ := seven_row #[.int .i64 (optI (dec l)).1.op, .int .i64 (optI (dec l)).1.r, .int .i64 (optI (dec l)).1.m, .int .i64 (optI (dec l)).1.len, .int .i64 (optI (dec l)).1.field, .int .i64 (optI (dec l)).1.width, .int .i64 (optI (dec l)).1.imm] (Nat.le_refl w.heap.size) HB9.out HR9.out
        exact bodyPost_ret (results_rins rfl _ _ _ _ _ _ _ _ _ _ _ (by rfl) (by rfl) y1) rfl ⟨rfl, y2⟩
      · skip
        have st0 := set7 #[.int .i64 1, .int .i64 (B2 / 8 % 8), .int .i64 (B2 % 8), .int .i64 3, .int .i64 0, .int .i64 0, .int .i64 0] 0 (.int .i64 1) (show w.heap.size ≤ gx by omega) ⟨RX.out, HBX.out⟩ rfl
        have st1 := set7 #[.int .i64 11, .int .i64 (B2 / 8 % 8), .int .i64 (B2 % 8), .int .i64 3, .int .i64 0, .int .i64 0, .int .i64 0] 0 (.int .i64 11) (show w.heap.size ≤ gx by omega) st0 rfl
        have str : ((wc.setCell ⟨gx, 0, none⟩ (.int .i64 1)).setCell ⟨gx, 0, none⟩ (.int .i64 11)).heap[w.heap.size]? = some (.cells #[.int .i64 0, .int .i64 0, .int .i64 0, .int .i64 0, .int .i64 0, .int .i64 0, .int .i64 0] 28 (0, 0)) := ((heap_setCell_other _ _ _ _ (by simp; omega)).trans ((heap_setCell_other _ _ _ _ (by simp; omega)).trans RR.out))
        have HST := Lib.hid st1.2
        have HSX := Lib.hid st1.1
        have HSR := Lib.hid str
        clear st0 st1 str
        have HX2 : Hid (dec l = fld ⟨11, 0, kk l 2 % 8, 3, 4⟩ l) := Lib.hid (by
          rw [HX.out, show cls 72 (kk l 1) (kk l 2) (kk l 3) = some ⟨11, 0, kk l 2 % 8, 3, 4⟩ from by
              have e1 := HK1.out
              have e2 := HK2.out
              have e3 := HK3.out
              have e4 := HRR.out; have e5 := HM3.out
              try clear j13
              try clear j12
              try clear hP1
              try clear h141
              try clear h2
              try clear h1
              try clear h15
              show cls 72 (kk l 1) (kk l 2) (kk l 3) = some ⟨11, 0, kk l 2 % 8, 3, 4⟩
              unfold cls
              (repeat (first | refine (if_pos (by omega)).trans ?_ | refine (if_neg (by omega)).trans ?_))
              first | rfl | (simp only [Option.some.injEq, Hd.mk.injEq, true_and, and_true]; omega)]
          rfl)
        have HFF := Lib.hid fun W (hb : Below w.heap.size w W) => HF.out W hb 11 (B2 / 8 % 8) (B2 % 8) 4 ⟨11, 0, kk l 2 % 8, 3, 4⟩ (by (try clear j13); (try clear j12); (try clear hP1); (try clear h141); (try clear h2); (try clear h1); (try clear h15); have e1 := HK1.out; have e2 := HK2.out; have e3 := HK3.out; have e4 := HRR.out; have e5 := HM3.out; simp only; omega) (by (try clear j13); (try clear j12); (try clear hP1); (try clear h141); (try clear h2); (try clear h1); (try clear h15); have e1 := HK1.out; have e2 := HK2.out; have e3 := HK3.out; have e4 := HRR.out; have e5 := HM3.out; simp only; omega) (by (try clear j13); (try clear j12); (try clear hP1); (try clear h141); (try clear h2); (try clear h1); (try clear h15); have e1 := HK1.out; have e2 := HK2.out; have e3 := HK3.out; have e4 := HRR.out; have e5 := HM3.out; simp only; omega) rfl (by simp only; omega) (by simp) 3 rfl
        rw [← HX2.out] at HFF
        go_upto_region 32 with fail
        generalize ((wc.setCell ⟨gx, 0, none⟩ (.int .i64 1)).setCell ⟨gx, 0, none⟩ (.int .i64 11)) = wq at *
        clear z0 z1 z2 z3 z4 z5 z6 f0 f1 f2 f3 f4 f5 f6 g0 g1 g2 g3 g4 g5 g6 p0 p1 p2 p3 p4 p5 p6
        obtain ⟨⟨g0, g1, g2, g3, g4, g5, g6⟩, p0, p1, p2, p3, p4, p5, p6⟩ := seven_cells HSX.out
        obtain ⟨⟨z0, z1, z2, z3, z4, z5, z6⟩, f0, f1, f2, f3, f4, f5, f6⟩ := seven_cells HSR.out
        go_wp2_with fail
        refine (HFF.out _ HST.out).mono ?_
        rintro e w9 ⟨rfl, hb9⟩
        have R9 := row_later hb9 HSR.out
        have HB9 := Lib.hid ((HST.out).trans (hb9.mono (HST.out).size))
        have HR9 := Lib.hid R9
        clear R9 hb9
        go_wp2_with (first | (refine wpList_store_row rfl 28 _ _ rfl w.heap.size #[.int .i64 (optI (dec l)).1.op, .int .i64 (optI (dec l)).1.r, .int .i64 (optI (dec l)).1.m, .int .i64 (optI (dec l)).1.len, .int .i64 (optI (dec l)).1.field, .int .i64 (optI (dec l)).1.width, .int .i64 (optI (dec l)).1.imm] rfl rfl 28 #[.int .i64 0, .int .i64 0, .int .i64 0, .int .i64 0, .int .i64 0, .int .i64 0, .int .i64 0] HR9.out hty rfl (seven_one _ _ _ _ _ _ _) ?_) | fail)
        obtain ⟨y1, y2⟩ := seven_row #[.int .i64 (optI (dec l)).1.op, .int .i64 (optI (dec l)).1.r, .int .i64 (optI (dec l)).1.m, .int .i64 (optI (dec l)).1.len, .int .i64 (optI (dec l)).1.field, .int .i64 (optI (dec l)).1.width, .int .i64 (optI (dec l)).1.imm] (Nat.le_refl w.heap.size) HB9.out HR9.out
        exact bodyPost_ret (results_rins rfl _ _ _ _ _ _ _ _ _ _ _ (by rfl) (by rfl) y1) rfl ⟨rfl, y2⟩
    go_upto_region 28 with fail
    go_cut [171] (fun s171 wx => s171 = .bool false ∧ wx = wc)
    case first =>
      by_cases a1 : B1 = 199 ∨ B1 = 129
      · have a2 : (B2 / 8 % 8 == 0) = false := by simp; exact fun h => h1 ⟨h, a1⟩
        rcases a1 with rfl | rfl
        · clear h1
          go_wp2_with fail
          go_meet
          exact ⟨rfl, rfl⟩
        · clear h1
          go_wp2_with fail
          go_meet
          exact ⟨rfl, rfl⟩
      · have b1 : (B1 == 199) = false := by simp; exact fun h => a1 (.inl h)
        have b2 : (B1 == 129) = false := by simp; exact fun h => a1 (.inr h)
        clear h1
        go_wp2_with fail
        go_meet
        exact ⟨rfl, rfl⟩
    case rest =>
    obtain ⟨rfl, hwc⟩ := hcut
    have hwc2 := hwc.symm
    clear hwc
    subst hwc2
    have H1 := Lib.hid h1
    (clear h1)
    as_aux_lemma =>
    clear hmo hmw z0 z1 z2 z3 z4 z5 z6 f0 f1 f2 f3 f4 f5 f6 g0 g1 g2 g3 g4 g5 g6 p0 p1 p2 p3 p4 p5 p6
    go_upto_region 36 with fail
    have hbA := HBX.out.alloc HBX.out.size (.cells #[.int .i64 137, .int .i64 1, .int .i64 41, .int .i64 57] 3)
    have hbB := hbA.alloc hbA.size (.cells #[.int .i64 8, .int .i64 9, .int .i64 10, .int .i64 12] 3)
    have hwA := (Below.refl wc.heap.size wc).alloc (Nat.le_refl _) (.cells #[.int .i64 137, .int .i64 1, .int .i64 41, .int .i64 57] 3)
    have hwB := hwA.alloc hwA.size (.cells #[.int .i64 8, .int .i64 9, .int .i64 10, .int .i64 12] 3)
    have hrx := row_later hwB RX.out
    have hrr := row_later hwB RR.out
    have hrc : ((wc.alloc (.cells #[.int .i64 137, .int .i64 1, .int .i64 41, .int .i64 57] 3)).alloc (.cells #[.int .i64 8, .int .i64 9, .int .i64 10, .int .i64 12] 3)).heap[wc.heap.size]? = some (.cells #[.int .i64 137, .int .i64 1, .int .i64 41, .int .i64 57] 3 (0, 0)) := by
      rw [Below.heap_alloc _ _ _ (by simp)]; exact heap_alloc_new wc _
    have hro : ((wc.alloc (.cells #[.int .i64 137, .int .i64 1, .int .i64 41, .int .i64 57] 3)).alloc (.cells #[.int .i64 8, .int .i64 9, .int .i64 10, .int .i64 12] 3)).heap[wc.heap.size + 1]? = some (.cells #[.int .i64 8, .int .i64 9, .int .i64 10, .int .i64 12] 3 (0, 0)) := by
      have := heap_alloc_new (wc.alloc (.cells #[.int .i64 137, .int .i64 1, .int .i64 41, .int .i64 57] 3)) (.cells #[.int .i64 8, .int .i64 9, .int .i64 10, .int .i64 12] 3)
      simpa using this
    have hx1 := cell_later hwB x1
    obtain ⟨gc, hgc⟩ : ∃ g, g = wc.heap.size := ⟨_, rfl⟩
    generalize ((wc.alloc (.cells #[.int .i64 137, .int .i64 1, .int .i64 41, .int .i64 57] 3)).alloc (.cells #[.int .i64 8, .int .i64 9, .int .i64 10, .int .i64 12] 3)) = wl at *
    rw [← hgc] at hrc hro ⊢
    have HBL := Lib.hid hbB
    clear hbA hbB hwA hwB x1 x2 hgc
    go_loopw [9] (fun ii wr => ∃ k : Nat, k ≤ 4 ∧ ii = .int .i64 (k : Int) ∧ (∀ j, j < k → ¬ B1 = codeAt j) ∧ wr.heap[gx]? = some (.cells #[.int .i64 0, .int .i64 (B2 / 8 % 8), .int .i64 (B2 % 8), .int .i64 3, .int .i64 0, .int .i64 0, .int .i64 0] 28 (0, 0)) ∧ wr.heap[w.heap.size]? = some (.cells #[.int .i64 0, .int .i64 0, .int .i64 0, .int .i64 0, .int .i64 0, .int .i64 0, .int .i64 0] 28 (0, 0)) ∧ wr.heap[gc]? = some (.cells #[.int .i64 137, .int .i64 1, .int .i64 41, .int .i64 57] 3 (0, 0)) ∧ wr.heap[gc + 1]? = some (.cells #[.int .i64 8, .int .i64 9, .int .i64 10, .int .i64 12] 3 (0, 0)) ∧ wr.cell? ⟨b, off + 1, none⟩ = some (.int .u8 B1) ∧ Below w.heap.size w wr) (fun ii _ => 4 - (intOf ii).toNat)
    case atStart => exact ⟨0, Nat.zero_le _, rfl, fun j hj => absurd hj (by omega), hrx, hrr, hrc, hro, hx1, HBL.out⟩
    case round =>
    obtain ⟨k, hk, rfl, hne, hrx, hrr, hrc, hro, hx1, hb⟩ := hrel
    have HBR := Lib.hid hb
    have RRR := Lib.hid hrr
    obtain ⟨⟨g0, g1, g2, g3, g4, g5, g6⟩, p0, p1, p2, p3, p4, p5, p6⟩ := seven_cells hrx
    obtain ⟨⟨z0, z1, z2, z3, z4, z5, z6⟩, f0, f1, f2, f3, f4, f5, f6⟩ := seven_cells hrr
    have hc0 : wr.cell? ⟨gc, 0, none⟩ = some (.int .i64 137) := (cell_of_row wr gc 0 _ _ (0, 0) hrc).trans rfl
    have hc1 : wr.cell? ⟨gc, 1, none⟩ = some (.int .i64 1) := (cell_of_row wr gc 1 _ _ (0, 0) hrc).trans rfl
    have hc2 : wr.cell? ⟨gc, 2, none⟩ = some (.int .i64 41) := (cell_of_row wr gc 2 _ _ (0, 0) hrc).trans rfl
    have hc3 : wr.cell? ⟨gc, 3, none⟩ = some (.int .i64 57) := (cell_of_row wr gc 3 _ _ (0, 0) hrc).trans rfl
    have ho0 : wr.cell? ⟨gc + 1, 0, none⟩ = some (.int .i64 8) := (cell_of_row wr (gc + 1) 0 _ _ (0, 0) hro).trans rfl
    have ho1 : wr.cell? ⟨gc + 1, 1, none⟩ = some (.int .i64 9) := (cell_of_row wr (gc + 1) 1 _ _ (0, 0) hro).trans rfl
    have ho2 : wr.cell? ⟨gc + 1, 2, none⟩ = some (.int .i64 10) := (cell_of_row wr (gc + 1) 2 _ _ (0, 0) hro).trans rfl
    have ho3 : wr.cell? ⟨gc + 1, 3, none⟩ = some (.int .i64 12) := (cell_of_row wr (gc + 1) 3 _ _ (0, 0) hro).trans rfl
    match k, hk with
    | 0, _ =>
      as_aux_lemma =>
      by_cases hb1 : B1 = 137
      · have hq : (B1 == 137) = true := by simpa using hb1
        have HB1V := Lib.hid hb1
        clear hb1
        go_wp2_with fail
        go_quiet (fail)
        have HX2 : Hid (dec l = some ⟨8, B2 / 8 % 8, B2 % 8, 3, 0, 0, 0⟩) := Lib.hid (by
          have hm3 := HM3.out
          rw [HX.out, show cls 72 (kk l 1) (kk l 2) (kk l 3) = some ⟨8, kk l 2 / 8 % 8, kk l 2 % 8, 3, 0⟩ from by
              have e1 := HK1.out
              have e2 := HK2.out
              have e3 := HK3.out
              have e4 := HM3.out; have e5 := HB1V.out
              try clear j13
              try clear j12
              try clear hP1
              try clear h141
              try clear h2
              try clear h1
              try clear h15
              show cls 72 (kk l 1) (kk l 2) (kk l 3) = some ⟨8, kk l 2 / 8 % 8, kk l 2 % 8, 3, 0⟩
              unfold cls
              (repeat (first | refine (if_pos (by omega)).trans ?_ | refine (if_neg (by omega)).trans ?_))
              first | rfl | (simp only [Option.some.injEq, Hd.mk.injEq, true_and, and_true]; omega)]
          show fld ⟨8, kk l 2 / 8 % 8, kk l 2 % 8, 3, 0⟩ l = _
          have e2 := HK2.out
          unfold fld
          rw [if_pos (by show 3 + 0 ≤ l.length; omega), if_pos rfl]
          simp
          omega)
        have hbs : Below w.heap.size w ((wr.drewN nq).setCell ⟨gx, 0, none⟩ (.int .i64 8)) := (below_drewN HBR.out nq).setCell (by simp; omega) _
        have hrs : ((wr.drewN nq).setCell ⟨gx, 0, none⟩ (.int .i64 8)).heap[w.heap.size]? = some (.cells #[.int .i64 0, .int .i64 0, .int .i64 0, .int .i64 0, .int .i64 0, .int .i64 0, .int .i64 0] 28 (0, 0)) := (heap_setCell_other _ _ _ _ (by simp; omega)).trans RRR.out
        have hsx := (set7 #[.int .i64 8, .int .i64 (B2 / 8 % 8), .int .i64 (B2 % 8), .int .i64 3, .int .i64 0, .int .i64 0, .int .i64 0] 0 (.int .i64 8) (show w.heap.size ≤ gx by omega) ⟨(show (wr.drewN nq).heap[gx]? = _ from hrx), below_drewN HBR.out nq⟩ rfl).1
        have HSX := Lib.hid hsx
        have HBS := Lib.hid hbs
        have HRS := Lib.hid hrs
        clear hbs hrs hsx
        go_upto_region 40 with fail
        generalize ((wr.drewN nq).setCell ⟨gx, 0, none⟩ (.int .i64 8)) = wz at *
        clear z0 z1 z2 z3 z4 z5 z6 f0 f1 f2 f3 f4 f5 f6 g0 g1 g2 g3 g4 g5 g6 p0 p1 p2 p3 p4 p5 p6 hc0 hc1 hc2 hc3 ho0 ho1 ho2 ho3
        obtain ⟨⟨g0, g1, g2, g3, g4, g5, g6⟩, p0, p1, p2, p3, p4, p5, p6⟩ := seven_cells HSX.out
        go_wp2_with (first | (refine wpList_store_row rfl 28 _ _ rfl w.heap.size #[.int .i64 8, .int .i64 (B2 / 8 % 8), .int .i64 (B2 % 8), .int .i64 3, .int .i64 0, .int .i64 0, .int .i64 0] rfl rfl 28 #[.int .i64 0, .int .i64 0, .int .i64 0, .int .i64 0, .int .i64 0, .int .i64 0, .int .i64 0] HRS.out hty rfl (seven_one _ _ _ _ _ _ _) ?_) | fail)
        obtain ⟨y1, y2⟩ := seven_row #[.int .i64 8, .int .i64 (B2 / 8 % 8), .int .i64 (B2 % 8), .int .i64 3, .int .i64 0, .int .i64 0, .int .i64 0] (Nat.le_refl w.heap.size) HBS.out HRS.out
        rw [HX2.out]
        exact bodyPost_ret (results_rins rfl _ _ _ _ _ _ _ _ _ _ _ (by rfl) (by rfl) y1) rfl ⟨rfl, y2⟩
      · have hq : (B1 == 137) = false := by simpa using hb1
        have HB1V := Lib.hid hb1
        clear hb1
        go_wp2_with fail
        go_quiet (fail)
        go_wp2_with fail
        go_roundw
        case rel =>
          refine ⟨0 + 1, by omega, rfl, fun j hj => ?_, hrx, hrr, hrc, hro, hx1, below_drewN HBR.out _⟩
          by_cases hjk : j < 0
          · exact hne j hjk
          · obtain rfl : j = 0 := by omega
            exact HB1V.out
        case measure => simp [intOf]
    | 1, _ =>
      as_aux_lemma =>
      by_cases hb1 : B1 = 1
      · have hq : (B1 == 1) = true := by simpa using hb1
        have HB1V := Lib.hid hb1
        clear hb1
        go_wp2_with fail
        go_quiet (fail)
        have HX2 : Hid (dec l = some ⟨9, B2 / 8 % 8, B2 % 8, 3, 0, 0, 0⟩) := Lib.hid (by
          have hm3 := HM3.out
          rw [HX.out, show cls 72 (kk l 1) (kk l 2) (kk l 3) = some ⟨9, kk l 2 / 8 % 8, kk l 2 % 8, 3, 0⟩ from by
              have e1 := HK1.out
              have e2 := HK2.out
              have e3 := HK3.out
              have e4 := HM3.out; have e5 := HB1V.out
              try clear j13
              try clear j12
              try clear hP1
              try clear h141
              try clear h2
              try clear h1
              try clear h15
              show cls 72 (kk l 1) (kk l 2) (kk l 3) = some ⟨9, kk l 2 / 8 % 8, kk l 2 % 8, 3, 0⟩
              unfold cls
              (repeat (first | refine (if_pos (by omega)).trans ?_ | refine (if_neg (by omega)).trans ?_))
              first | rfl | (simp only [Option.some.injEq, Hd.mk.injEq, true_and, and_true]; omega)]
          show fld ⟨9, kk l 2 / 8 % 8, kk l 2 % 8, 3, 0⟩ l = _
          have e2 := HK2.out
          unfold fld
          rw [if_pos (by show 3 + 0 ≤ l.length; omega), if_pos rfl]
          simp
          omega)
        have hbs : Below w.heap.size w ((wr.drewN nq).setCell ⟨gx, 0, none⟩ (.int .i64 9)) := (below_drewN HBR.out nq).setCell (by simp; omega) _
        have hrs : ((wr.drewN nq).setCell ⟨gx, 0, none⟩ (.int .i64 9)).heap[w.heap.size]? = some (.cells #[.int .i64 0, .int .i64 0, .int .i64 0, .int .i64 0, .int .i64 0, .int .i64 0, .int .i64 0] 28 (0, 0)) := (heap_setCell_other _ _ _ _ (by simp; omega)).trans RRR.out
        have hsx := (set7 #[.int .i64 9, .int .i64 (B2 / 8 % 8), .int .i64 (B2 % 8), .int .i64 3, .int .i64 0, .int .i64 0, .int .i64 0] 0 (.int .i64 9) (show w.heap.size ≤ gx by omega) ⟨(show (wr.drewN nq).heap[gx]? = _ from hrx), below_drewN HBR.out nq⟩ rfl).1
        have HSX := Lib.hid hsx
        have HBS := Lib.hid hbs
        have HRS := Lib.hid hrs
        clear hbs hrs hsx
        go_upto_region 40 with fail
        generalize ((wr.drewN nq).setCell ⟨gx, 0, none⟩ (.int .i64 9)) = wz at *
        clear z0 z1 z2 z3 z4 z5 z6 f0 f1 f2 f3 f4 f5 f6 g0 g1 g2 g3 g4 g5 g6 p0 p1 p2 p3 p4 p5 p6 hc0 hc1 hc2 hc3 ho0 ho1 ho2 ho3
        obtain ⟨⟨g0, g1, g2, g3, g4, g5, g6⟩, p0, p1, p2, p3, p4, p5, p6⟩ := seven_cells HSX.out
        go_wp2_with (first | (refine wpList_store_row rfl 28 _ _ rfl w.heap.size #[.int .i64 9, .int .i64 (B2 / 8 % 8), .int .i64 (B2 % 8), .int .i64 3, .int .i64 0, .int .i64 0, .int .i64 0] rfl rfl 28 #[.int .i64 0, .int .i64 0, .int .i64 0, .int .i64 0, .int .i64 0, .int .i64 0, .int .i64 0] HRS.out hty rfl (seven_one _ _ _ _ _ _ _) ?_) | fail)
        obtain ⟨y1, y2⟩ := seven_row #[.int .i64 9, .int .i64 (B2 / 8 % 8), .int .i64 (B2 % 8), .int .i64 3, .int .i64 0, .int .i64 0, .int .i64 0] (Nat.le_refl w.heap.size) HBS.out HRS.out
        rw [HX2.out]
        exact bodyPost_ret (results_rins rfl _ _ _ _ _ _ _ _ _ _ _ (by rfl) (by rfl) y1) rfl ⟨rfl, y2⟩
      · have hq : (B1 == 1) = false := by simpa using hb1
        have HB1V := Lib.hid hb1
        clear hb1
        go_wp2_with fail
        go_quiet (fail)
        go_wp2_with fail
        go_roundw
        case rel =>
          refine ⟨1 + 1, by omega, rfl, fun j hj => ?_, hrx, hrr, hrc, hro, hx1, below_drewN HBR.out _⟩
          by_cases hjk : j < 1
          · exact hne j hjk
          · obtain rfl : j = 1 := by omega
            exact HB1V.out
        case measure => simp [intOf]
    | 2, _ =>
      as_aux_lemma =>
      by_cases hb1 : B1 = 41
      · have hq : (B1 == 41) = true := by simpa using hb1
        have HB1V := Lib.hid hb1
        clear hb1
        go_wp2_with fail
        go_quiet (fail)
        have HX2 : Hid (dec l = some ⟨10, B2 / 8 % 8, B2 % 8, 3, 0, 0, 0⟩) := Lib.hid (by
          have hm3 := HM3.out
          rw [HX.out, show cls 72 (kk l 1) (kk l 2) (kk l 3) = some ⟨10, kk l 2 / 8 % 8, kk l 2 % 8, 3, 0⟩ from by
              have e1 := HK1.out
              have e2 := HK2.out
              have e3 := HK3.out
              have e4 := HM3.out; have e5 := HB1V.out
              try clear j13
              try clear j12
              try clear hP1
              try clear h141
              try clear h2
              try clear h1
              try clear h15
              show cls 72 (kk l 1) (kk l 2) (kk l 3) = some ⟨10, kk l 2 / 8 % 8, kk l 2 % 8, 3, 0⟩
              unfold cls
              (repeat (first | refine (if_pos (by omega)).trans ?_ | refine (if_neg (by omega)).trans ?_))
              first | rfl | (simp only [Option.some.injEq, Hd.mk.injEq, true_and, and_true]; omega)]
          show fld ⟨10, kk l 2 / 8 % 8, kk l 2 % 8, 3, 0⟩ l = _
          have e2 := HK2.out
          unfold fld
          rw [if_pos (by show 3 + 0 ≤ l.length; omega), if_pos rfl]
          simp
          omega)
        have hbs : Below w.heap.size w ((wr.drewN nq).setCell ⟨gx, 0, none⟩ (.int .i64 10)) := (below_drewN HBR.out nq).setCell (by simp; omega) _
        have hrs : ((wr.drewN nq).setCell ⟨gx, 0, none⟩ (.int .i64 10)).heap[w.heap.size]? = some (.cells #[.int .i64 0, .int .i64 0, .int .i64 0, .int .i64 0, .int .i64 0, .int .i64 0, .int .i64 0] 28 (0, 0)) := (heap_setCell_other _ _ _ _ (by simp; omega)).trans RRR.out
        have hsx := (set7 #[.int .i64 10, .int .i64 (B2 / 8 % 8), .int .i64 (B2 % 8), .int .i64 3, .int .i64 0, .int .i64 0, .int .i64 0] 0 (.int .i64 10) (show w.heap.size ≤ gx by omega) ⟨(show (wr.drewN nq).heap[gx]? = _ from hrx), below_drewN HBR.out nq⟩ rfl).1
        have HSX := Lib.hid hsx
        have HBS := Lib.hid hbs
        have HRS := Lib.hid hrs
        clear hbs hrs hsx
        go_upto_region 40 with fail
        generalize ((wr.drewN nq).setCell ⟨gx, 0, none⟩ (.int .i64 10)) = wz at *
        clear z0 z1 z2 z3 z4 z5 z6 f0 f1 f2 f3 f4 f5 f6 g0 g1 g2 g3 g4 g5 g6 p0 p1 p2 p3 p4 p5 p6 hc0 hc1 hc2 hc3 ho0 ho1 ho2 ho3
        obtain ⟨⟨g0, g1, g2, g3, g4, g5, g6⟩, p0, p1, p2, p3, p4, p5, p6⟩ := seven_cells HSX.out
        go_wp2_with (first | (refine wpList_store_row rfl 28 _ _ rfl w.heap.size #[.int .i64 10, .int .i64 (B2 / 8 % 8), .int .i64 (B2 % 8), .int .i64 3, .int .i64 0, .int .i64 0, .int .i64 0] rfl rfl 28 #[.int .i64 0, .int .i64 0, .int .i64 0, .int .i64 0, .int .i64 0, .int .i64 0, .int .i64 0] HRS.out hty rfl (seven_one _ _ _ _ _ _ _) ?_) | fail)
        obtain ⟨y1, y2⟩ := seven_row #[.int .i64 10, .int .i64 (B2 / 8 % 8), .int .i64 (B2 % 8), .int .i64 3, .int .i64 0, .int .i64 0, .int .i64 0] (Nat.le_refl w.heap.size) HBS.out HRS.out
        rw [HX2.out]
        exact bodyPost_ret (results_rins rfl _ _ _ _ _ _ _ _ _ _ _ (by rfl) (by rfl) y1) rfl ⟨rfl, y2⟩
      · have hq : (B1 == 41) = false := by simpa using hb1
        have HB1V := Lib.hid hb1
        clear hb1
        go_wp2_with fail
        go_quiet (fail)
        go_wp2_with fail
        go_roundw
        case rel =>
          refine ⟨2 + 1, by omega, rfl, fun j hj => ?_, hrx, hrr, hrc, hro, hx1, below_drewN HBR.out _⟩
          by_cases hjk : j < 2
          · exact hne j hjk
          · obtain rfl : j = 2 := by omega
            exact HB1V.out
        case measure => simp [intOf]
    | 3, _ =>
      as_aux_lemma =>
      by_cases hb1 : B1 = 57
      · have hq : (B1 == 57) = true := by simpa using hb1
        have HB1V := Lib.hid hb1
        clear hb1
        go_wp2_with fail
        go_quiet (fail)
        have HX2 : Hid (dec l = some ⟨12, B2 / 8 % 8, B2 % 8, 3, 0, 0, 0⟩) := Lib.hid (by
          have hm3 := HM3.out
          rw [HX.out, show cls 72 (kk l 1) (kk l 2) (kk l 3) = some ⟨12, kk l 2 / 8 % 8, kk l 2 % 8, 3, 0⟩ from by
              have e1 := HK1.out
              have e2 := HK2.out
              have e3 := HK3.out
              have e4 := HM3.out; have e5 := HB1V.out
              try clear j13
              try clear j12
              try clear hP1
              try clear h141
              try clear h2
              try clear h1
              try clear h15
              show cls 72 (kk l 1) (kk l 2) (kk l 3) = some ⟨12, kk l 2 / 8 % 8, kk l 2 % 8, 3, 0⟩
              unfold cls
              (repeat (first | refine (if_pos (by omega)).trans ?_ | refine (if_neg (by omega)).trans ?_))
              first | rfl | (simp only [Option.some.injEq, Hd.mk.injEq, true_and, and_true]; omega)]
          show fld ⟨12, kk l 2 / 8 % 8, kk l 2 % 8, 3, 0⟩ l = _
          have e2 := HK2.out
          unfold fld
          rw [if_pos (by show 3 + 0 ≤ l.length; omega), if_pos rfl]
          simp
          omega)
        have hbs : Below w.heap.size w ((wr.drewN nq).setCell ⟨gx, 0, none⟩ (.int .i64 12)) := (below_drewN HBR.out nq).setCell (by simp; omega) _
        have hrs : ((wr.drewN nq).setCell ⟨gx, 0, none⟩ (.int .i64 12)).heap[w.heap.size]? = some (.cells #[.int .i64 0, .int .i64 0, .int .i64 0, .int .i64 0, .int .i64 0, .int .i64 0, .int .i64 0] 28 (0, 0)) := (heap_setCell_other _ _ _ _ (by simp; omega)).trans RRR.out
        have hsx := (set7 #[.int .i64 12, .int .i64 (B2 / 8 % 8), .int .i64 (B2 % 8), .int .i64 3, .int .i64 0, .int .i64 0, .int .i64 0] 0 (.int .i64 12) (show w.heap.size ≤ gx by omega) ⟨(show (wr.drewN nq).heap[gx]? = _ from hrx), below_drewN HBR.out nq⟩ rfl).1
        have HSX := Lib.hid hsx
        have HBS := Lib.hid hbs
        have HRS := Lib.hid hrs
        clear hbs hrs hsx
        go_upto_region 40 with fail
        generalize ((wr.drewN nq).setCell ⟨gx, 0, none⟩ (.int .i64 12)) = wz at *
        clear z0 z1 z2 z3 z4 z5 z6 f0 f1 f2 f3 f4 f5 f6 g0 g1 g2 g3 g4 g5 g6 p0 p1 p2 p3 p4 p5 p6 hc0 hc1 hc2 hc3 ho0 ho1 ho2 ho3
        obtain ⟨⟨g0, g1, g2, g3, g4, g5, g6⟩, p0, p1, p2, p3, p4, p5, p6⟩ := seven_cells HSX.out
        go_wp2_with (first | (refine wpList_store_row rfl 28 _ _ rfl w.heap.size #[.int .i64 12, .int .i64 (B2 / 8 % 8), .int .i64 (B2 % 8), .int .i64 3, .int .i64 0, .int .i64 0, .int .i64 0] rfl rfl 28 #[.int .i64 0, .int .i64 0, .int .i64 0, .int .i64 0, .int .i64 0, .int .i64 0, .int .i64 0] HRS.out hty rfl (seven_one _ _ _ _ _ _ _) ?_) | fail)
        obtain ⟨y1, y2⟩ := seven_row #[.int .i64 12, .int .i64 (B2 / 8 % 8), .int .i64 (B2 % 8), .int .i64 3, .int .i64 0, .int .i64 0, .int .i64 0] (Nat.le_refl w.heap.size) HBS.out HRS.out
        rw [HX2.out]
        exact bodyPost_ret (results_rins rfl _ _ _ _ _ _ _ _ _ _ _ (by rfl) (by rfl) y1) rfl ⟨rfl, y2⟩
      · have hq : (B1 == 57) = false := by simpa using hb1
        have HB1V := Lib.hid hb1
        clear hb1
        go_wp2_with fail
        go_quiet (fail)
        go_wp2_with fail
        go_roundw
        case rel =>
          refine ⟨3 + 1, by omega, rfl, fun j hj => ?_, hrx, hrr, hrc, hro, hx1, below_drewN HBR.out _⟩
          by_cases hjk : j < 3
          · exact hne j hjk
          · obtain rfl : j = 3 := by omega
            exact HB1V.out
        case measure => simp [intOf]
    | 4, _ =>
      have HX2 : Hid (dec l = none) := Lib.hid (by
        have n0 := hne 0 (by omega)
        have n1 := hne 1 (by omega)
        have n2 := hne 2 (by omega)
        have n3 := hne 3 (by omega)
        simp only [codeAt] at n0 n1 n2 n3
        rw [HX.out, show cls 72 (kk l 1) (kk l 2) (kk l 3) = none from by
            have e1 := HK1.out
            have e2 := HK2.out
            have e3 := HK3.out
            have e4 := HM3.out; skip
            try have q0 := HP1.out
            try have q1 := H15.out
            try have q2 := H1.out
            show cls 72 (kk l 1) (kk l 2) (kk l 3) = none
            unfold cls
            (repeat (first | refine (if_pos (by omega)).trans ?_ | refine (if_neg (by omega)).trans ?_))
            first | rfl | (simp only [Option.some.injEq, Hd.mk.injEq, true_and, and_true]; omega)]
        rfl)
      go_wp2_with (first | (refine wpList_store_row rfl 28 _ _ rfl w.heap.size #[.int .i64 0, .int .i64 0, .int .i64 0, .int .i64 0, .int .i64 0, .int .i64 0, .int .i64 0] rfl rfl 28 #[.int .i64 0, .int .i64 0, .int .i64 0, .int .i64 0, .int .i64 0, .int .i64 0, .int .i64 0] RRR.out hty rfl (seven_one _ _ _ _ _ _ _) ?_) | fail)
      obtain ⟨y1, y2⟩ := seven_row #[.int .i64 0, .int .i64 0, .int .i64 0, .int .i64 0, .int .i64 0, .int .i64 0, .int .i64 0] (Nat.le_refl w.heap.size) HBR.out RRR.out
      rw [HX2.out]
      exact bodyPost_ret (results_rins rfl _ _ _ _ _ _ _ _ _ _ _ (by rfl) (by rfl) y1) rfl ⟨rfl, y2⟩
    | k + 5, hk => exact absurd hk (by omega)
end Go.Proofs.YtbedbkifdhjdfaaDoor
