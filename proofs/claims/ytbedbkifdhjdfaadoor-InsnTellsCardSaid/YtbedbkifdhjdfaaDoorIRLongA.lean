/-
  Contract of the document's answer for layer insn: long, for bytes that begin with 72: short ones, those of 184 to 191, those of 15.
-/
import Derived.Test.YtbedbkifdhjdfaaDoorIRField
import Derived.Deep.RegionHeld
import Derived.Laws.Tables
namespace Go.Proofs.YtbedbkifdhjdfaaDoor
open Go.RowKit

/-- The codes that are looked through. -/
def codeAt : Nat → Int | 0 => 137 | 1 => 1 | 2 => 41 | _ => 57

theorem seven_one (a b c d e f g : Int) : (#[.int .i64 a, .int .i64 b, .int .i64 c, .int .i64 d, .int .i64 e, .int .i64 f, .int .i64 g] : Array Value).all (·.oneCell') = true := by simp [Value.oneCell']
theorem seven_row {w w9 : World} {g : Nat} {cs0 : Array Value} {T : TypeId} (cs : Array Value) (hle : w.heap.size ≤ g) (hb : Below w.heap.size w w9) (hg : w9.heap[g]? = some (.cells cs0 T (0, 0))) : (w9.setRow g cs).heap[g]? = some (.cells cs T (0, 0)) ∧ Below w.heap.size w (w9.setRow g cs) :=
  have hg' : w9.grownBy (w9.setRow g cs) (some g) := ⟨rfl, rfl, rfl, by simp, fun k _ hk => setRow_other w9 g k _ (fun e => hk (by simp [e]))⟩
  ⟨setRow_heap w9 g cs0 cs T (0, 0) hg, hb.grown hg' hb.size fun k hk => by cases hk; exact hle⟩

set_option maxRecDepth 100000 in
set_option maxHeartbeats 80000000 in
theorem rlong_a (p : Option Addr) (len cap : Nat) (l : List UInt8) (w : World) (hh : Has w p l) (hlen : l.length = len) (hcap : len ≤ cap) (_hm1 : cap ≤ maxLen) (h0 : kk l 0 = 72) (hA : l.length < 2 ∨ (184 ≤ kk l 1 ∧ kk l 1 ≤ 191) ∨ kk l 1 = 15) :
    Calls Tryd.prog 12 #[.slice p len cap] w fun e w' => e = .returned (.tuple #[(optI (dec l)).1.v, .bool (optI (dec l)).2]) ∧ Below w.heap.size w w' := by
  have HA := Lib.hid hA
  clear hA
  have HX : Hid (dec l = (cls 72 (kk l 1) (kk l 2) (kk l 3)).bind fun h => fld h l) := Lib.hid (by unfold dec hd; rw [h0])
  have hl1 : 0 < l.length := kk_lt.1 (by omega)
  have HF := Lib.hid fun W (hb : Below w.heap.size w W) (op r m wd : Int) (h : Hd) e1 e2 e3 e4 ha hw at0 e5 => rfield_any op r m wd h p len cap l W (hh.below hb) hlen hcap e1 e2 e3 e4 ha hw at0 e5
  obtain ⟨b, off, rfl, hcell⟩ := hh.plain hl1
  have hb1 : Below w.heap.size w (w.alloc (.cells #[.int .i64 0, .int .i64 0, .int .i64 0, .int .i64 0, .int .i64 0, .int .i64 0, .int .i64 0] 28)) := (Below.refl _ w).alloc (Nat.le_refl _) _
  have hr1 : (w.alloc (.cells #[.int .i64 0, .int .i64 0, .int .i64 0, .int .i64 0, .int .i64 0, .int .i64 0, .int .i64 0] 28)).heap[w.heap.size]? = some (.cells #[.int .i64 0, .int .i64 0, .int .i64 0, .int .i64 0, .int .i64 0, .int .i64 0, .int .i64 0] 28 (0, 0)) := heap_alloc_new w _
  have hce : ∀ i x, l[i]? = some x → (w.alloc (.cells #[.int .i64 0, .int .i64 0, .int .i64 0, .int .i64 0, .int .i64 0, .int .i64 0, .int .i64 0] 28)).cell? ⟨b, off + i, none⟩ = some (.int .u8 (x.toNat : Int)) := fun i x hx => cell_later hb1 (hcell i x hx)
  have HCE := Lib.hid hce
  have HB1 := Lib.hid hb1
  have R1 := Lib.hid hr1
  unfold maxLen at _hm1
  have HLEN := Lib.hid hlen
  clear hcell hce hb1 hr1
  have hty : (Tryd.prog.info? 28).map (·.size) = some 7 := by kernel_rfl
  go_enter Tryd.func12, Tryd.ntmps12
  go_upto_region 1 with fail
  generalize (w.alloc (.cells #[.int .i64 0, .int .i64 0, .int .i64 0, .int .i64 0, .int .i64 0, .int .i64 0, .int .i64 0] 28)) = w1 at *
  by_cases hl2 : 2 ≤ len
  case neg =>
    have hl1' : len = 1 := by omega
    have HK1 : Hid (kk l 1 = 256) := Lib.hid (kk_none (by omega))
    have HK2 : Hid (kk l 2 = 256) := Lib.hid (kk_none (by omega))
    have HK3 : Hid (kk l 3 = 256) := Lib.hid (kk_none (by omega))
    have i1 : ¬ (2 : Int) ≤ (len : Int) := by omega
    have i2 : (len : Int) ≤ 2 := by omega
    obtain ⟨⟨z0, z1, z2, z3, z4, z5, z6⟩, f0, f1, f2, f3, f4, f5, f6⟩ := seven_cells R1.out
    clear hl1' hl2
    have HX2 : Hid (dec l = none) := Lib.hid (by
      rw [HX.out, show cls 72 (kk l 1) (kk l 2) (kk l 3) = none from by
          have e1 := HK1.out
          have e2 := HK2.out
          have e3 := HK3.out
          skip
          show cls 72 (kk l 1) (kk l 2) (kk l 3) = none
          unfold cls
          (repeat (first | refine (if_pos (by omega)).trans ?_ | refine (if_neg (by omega)).trans ?_))
          first | rfl | (simp only [Option.some.injEq, Hd.mk.injEq, true_and, and_true]; omega)]
      rfl)
    go_wp2_with (first | (refine wpList_store_row rfl 28 _ _ rfl w.heap.size #[.int .i64 0, .int .i64 0, .int .i64 0, .int .i64 0, .int .i64 0, .int .i64 0, .int .i64 0] rfl rfl 28 #[.int .i64 0, .int .i64 0, .int .i64 0, .int .i64 0, .int .i64 0, .int .i64 0, .int .i64 0] R1.out hty rfl (seven_one _ _ _ _ _ _ _) ?_) | fail)
    all_goals
      obtain ⟨y1, y2⟩ := seven_row #[.int .i64 0, .int .i64 0, .int .i64 0, .int .i64 0, .int .i64 0, .int .i64 0, .int .i64 0] (Nat.le_refl w.heap.size) HB1.out R1.out
      rw [HX2.out]
      exact bodyPost_ret (results_rins rfl _ _ _ _ _ _ _ _ _ _ _ (by rfl) (by rfl) y1) rfl ⟨rfl, y2⟩
  obtain ⟨c1, hc1⟩ : ∃ c, l[1]? = some c := ⟨_, List.getElem?_eq_getElem (by omega)⟩
  have x1 := HCE.out 1 c1 hc1
  obtain ⟨B1, hB1⟩ : ∃ B : Int, B = (c1.toNat : Int) := ⟨_, rfl⟩
  rw [← hB1] at x1
  have HK1 : Hid ((kk l 1 : Int) = B1) := Lib.hid (by rw [kk_some hc1, hB1])
  have r1 : 0 ≤ B1 := by omega
  have r2 : B1 < 256 := by have := c1.toNat_lt; omega
  have i2 : (2 : Int) ≤ (len : Int) := by omega
  have i3 : 1 < len := by omega
  have i4 : (1 : Int) < (len : Int) := by omega
  have v1 : IntKind.i64.wrap B1 = B1 := IntWalk.i64_in _ (by omega)
  clear hB1 hc1
  by_cases hP1 : 184 ≤ B1 ∧ B1 ≤ 191
  · have HK2 : Hid (True) := Lib.hid trivial
    have HK3 : Hid (True) := Lib.hid trivial
    obtain ⟨j1, j2⟩ := hP1
    have v2 : IntKind.i64.wrap (B1 - 184) = B1 - 184 := IntWalk.i64_in _ (by omega)
    have HX2 : Hid (dec l = fld ⟨2, 0, kk l 1 - 184, 2, 8⟩ l) := Lib.hid (by
      rw [HX.out, show cls 72 (kk l 1) (kk l 2) (kk l 3) = some ⟨2, 0, kk l 1 - 184, 2, 8⟩ from by
          have e1 := HK1.out
          have e2 := HK2.out
          have e3 := HK3.out
          skip
          try clear j13
          try clear j12
          try clear hP1
          try clear h141
          try clear h2
          try clear h1
          try clear h15
          show cls 72 (kk l 1) (kk l 2) (kk l 3) = some ⟨2, 0, kk l 1 - 184, 2, 8⟩
          unfold cls
          (repeat (first | refine (if_pos (by omega)).trans ?_ | refine (if_neg (by omega)).trans ?_))
          first | rfl | (simp only [Option.some.injEq, Hd.mk.injEq, true_and, and_true]; omega)]
      rfl)
    have HFF := Lib.hid fun W (hb : Below w.heap.size w W) => HF.out W hb 2 0 (B1 - 184) 8 ⟨2, 0, kk l 1 - 184, 2, 8⟩ (by (try clear j13); (try clear j12); (try clear hP1); (try clear h141); (try clear h2); (try clear h1); (try clear h15); have e1 := HK1.out; have e2 := HK2.out; have e3 := HK3.out; skip; simp only; omega) (by (try clear j13); (try clear j12); (try clear hP1); (try clear h141); (try clear h2); (try clear h1); (try clear h15); have e1 := HK1.out; have e2 := HK2.out; have e3 := HK3.out; skip; simp only; omega) (by (try clear j13); (try clear j12); (try clear hP1); (try clear h141); (try clear h2); (try clear h1); (try clear h15); have e1 := HK1.out; have e2 := HK2.out; have e3 := HK3.out; skip; simp only; omega) rfl (by simp only; omega) (by simp) 2 rfl
    rw [← HX2.out] at HFF
    go_wp2_with fail
    refine (HFF.out _ HB1.out).mono ?_
    rintro e w9 ⟨rfl, hb9⟩
    have R9 := row_later hb9 R1.out
    have HB9 := Lib.hid ((HB1.out).trans (hb9.mono (HB1.out).size))
    have HR9 := Lib.hid R9
    clear R9 hb9
    go_wp2_with (first | (refine wpList_store_row rfl 28 _ _ rfl w.heap.size #[.int .i64 (optI (dec l)).1.op, .int .i64 (optI (dec l)).1.r, .int .i64 (optI (dec l)).1.m, .int .i64 (optI (dec l)).1.len, .int .i64 (optI (dec l)).1.field, .int .i64 (optI (dec l)).1.width, .int .i64 (optI (dec l)).1.imm] rfl rfl 28 #[.int .i64 0, .int .i64 0, .int .i64 0, .int .i64 0, .int .i64 0, .int .i64 0, .int .i64 0] HR9.out hty rfl (seven_one _ _ _ _ _ _ _) ?_) | fail)
    obtain ⟨y1, y2⟩ := seven_row #[.int .i64 (optI (dec l)).1.op, .int .i64 (optI (dec l)).1.r, .int .i64 (optI (dec l)).1.m, .int .i64 (optI (dec l)).1.len, .int .i64 (optI (dec l)).1.field, .int .i64 (optI (dec l)).1.width, .int .i64 (optI (dec l)).1.imm] (Nat.le_refl w.heap.size) HB9.out HR9.out
    exact bodyPost_ret (results_rins rfl _ _ _ _ _ _ _ _ _ _ _ (by rfl) (by rfl) y1) rfl ⟨rfl, y2⟩
  have j12 : ¬ ((184 : Int) ≤ B1 ∧ B1 ≤ 191) := hP1
  have j13 : 191 < B1 ∨ B1 < 184 := by omega
  go_cut [24] (fun s24 wx => s24 = .bool false ∧ wx = w1)
  case first =>
    rcases j13 with j13 | j13
    · have j14 : (184 : Int) ≤ B1 := by omega
      have j15 : ¬ B1 ≤ 191 := by omega
      go_wp2_with fail
      go_meet
      exact ⟨rfl, rfl⟩
    · have j14 : ¬ (184 : Int) ≤ B1 := by omega
      go_wp2_with fail
      go_meet
      exact ⟨rfl, rfl⟩
  case rest =>
  obtain ⟨rfl, hwc⟩ := hcut
  have hwc2 := hwc.symm
  clear hwc
  subst hwc2
  have HP1 := Lib.hid hP1
  (try clear j12); (try clear j13); (try clear hP1)
  by_cases h15 : B1 = 15
  · subst h15
    by_cases hl3 : len ≤ 3
    · have HK2 : Hid True := Lib.hid trivial
      have HK3 : Hid (kk l 3 = 256) := Lib.hid (kk_none (by omega))
      have i7 : (len : Int) ≤ 3 := by omega
      obtain ⟨⟨z0, z1, z2, z3, z4, z5, z6⟩, f0, f1, f2, f3, f4, f5, f6⟩ := seven_cells R1.out
      have HX2 : Hid (dec l = none) := Lib.hid (by
        rw [HX.out, show cls 72 (kk l 1) (kk l 2) (kk l 3) = none from by
            have e1 := HK1.out
            have e2 := HK2.out
            have e3 := HK3.out
            skip
            try have q0 := HP1.out
            try have q1 := H15.out
            try have q2 := H141.out
            try have q3 := H2.out
            show cls 72 (kk l 1) (kk l 2) (kk l 3) = none
            unfold cls
            (repeat (first | refine (if_pos (by omega)).trans ?_ | refine (if_neg (by omega)).trans ?_))
            first | rfl | (simp only [Option.some.injEq, Hd.mk.injEq, true_and, and_true]; omega)]
        rfl)
      go_wp2_with (first | (refine wpList_store_row rfl 28 _ _ rfl w.heap.size #[.int .i64 0, .int .i64 0, .int .i64 0, .int .i64 0, .int .i64 0, .int .i64 0, .int .i64 0] rfl rfl 28 #[.int .i64 0, .int .i64 0, .int .i64 0, .int .i64 0, .int .i64 0, .int .i64 0, .int .i64 0] R1.out hty rfl (seven_one _ _ _ _ _ _ _) ?_) | fail)
      all_goals
        obtain ⟨y1, y2⟩ := seven_row #[.int .i64 0, .int .i64 0, .int .i64 0, .int .i64 0, .int .i64 0, .int .i64 0, .int .i64 0] (Nat.le_refl w.heap.size) HB1.out R1.out
        rw [HX2.out]
        exact bodyPost_ret (results_rins rfl _ _ _ _ _ _ _ _ _ _ _ (by rfl) (by rfl) y1) rfl ⟨rfl, y2⟩
    obtain ⟨c2, hc2⟩ : ∃ c, l[2]? = some c := ⟨_, List.getElem?_eq_getElem (by omega)⟩
    obtain ⟨c3, hc3⟩ : ∃ c, l[3]? = some c := ⟨_, List.getElem?_eq_getElem (by omega)⟩
    have x2 := HCE.out 2 c2 hc2
    have x3 := HCE.out 3 c3 hc3
    obtain ⟨B2, hB2⟩ : ∃ B : Int, B = (c2.toNat : Int) := ⟨_, rfl⟩
    rw [← hB2] at x2
    obtain ⟨B3, hB3⟩ : ∃ B : Int, B = (c3.toNat : Int) := ⟨_, rfl⟩
    rw [← hB3] at x3
    have HK2 : Hid ((kk l 2 : Int) = B2) := Lib.hid (by rw [kk_some hc2, hB2])
    have HK3 : Hid ((kk l 3 : Int) = B3) := Lib.hid (by rw [kk_some hc3, hB3])
    have r3 : 0 ≤ B3 := by omega
    have r4 : B3 < 256 := by have := c3.toNat_lt; omega
    have i7 : ¬ (len : Int) ≤ 3 := by omega
    have i8 : 3 < len := by omega
    have i9 : (3 : Int) < (len : Int) := by omega
    have i10 : 2 < len := by omega
    have i11 : (2 : Int) < (len : Int) := by omega
    have v3 : IntKind.i64.wrap B3 = B3 := IntWalk.i64_in _ (by omega)
    have r5 : 0 ≤ B3 / 8 := by omega
    clear hB2 hc2 hB3 hc3
    go_upto_region 8 with fail
    have hbX := HB1.out.alloc HB1.out.size (.cells #[.int .i64 0, .int .i64 (B3 / 8 % 8), .int .i64 (B3 % 8), .int .i64 4, .int .i64 0, .int .i64 0, .int .i64 0] 28)
    have hX : (w1.alloc (.cells #[.int .i64 0, .int .i64 (B3 / 8 % 8), .int .i64 (B3 % 8), .int .i64 4, .int .i64 0, .int .i64 0, .int .i64 0] 28)).heap[w1.heap.size]? = some (.cells #[.int .i64 0, .int .i64 (B3 / 8 % 8), .int .i64 (B3 % 8), .int .i64 4, .int .i64 0, .int .i64 0, .int .i64 0] 28 (0, 0)) := heap_alloc_new w1 _
    have hbl : b < w1.heap.size := World.block_lt_of_cell? w1 _ x2
    have hbn : ¬ b = w1.heap.size := by omega
    have hba := (Below.refl w1.heap.size w1).alloc (Nat.le_refl _) (.cells #[.int .i64 0, .int .i64 (B3 / 8 % 8), .int .i64 (B3 % 8), .int .i64 4, .int .i64 0, .int .i64 0, .int .i64 0] 28)
    have hX1 := row_later hba R1.out
    have hgx : w.heap.size < w1.heap.size := (Array.getElem?_eq_some_iff.1 R1.out).1
    obtain ⟨gx, hgx2⟩ : ∃ g, g = w1.heap.size := ⟨_, rfl⟩
    go_cut [5] (fun s5 wx => s5 = .pointer (some ⟨gx, 0, none⟩) ∧ wx.heap[gx]? = some (.cells #[.int .i64 0, .int .i64 (B3 / 8 % 8), .int .i64 (B3 % 8), .int .i64 4, .int .i64 0, .int .i64 0, .int .i64 0] 28 (0, 0)) ∧ wx.heap[w.heap.size]? = some (.cells #[.int .i64 0, .int .i64 0, .int .i64 0, .int .i64 0, .int .i64 0, .int .i64 0, .int .i64 0] 28 (0, 0)) ∧ Below w.heap.size w wx ∧ Below w1.heap.size w1 wx)
    case first =>
      have e1 : (IntKind.i64.wrap (Int.tdiv B3 8)).tmod 8 = B3 / 8 % 8 := by
        rw [Int.tdiv_eq_ediv_of_nonneg r3, IntWalk.i64_in _ (by omega), Int.tmod_eq_emod_of_nonneg r5]
      have e2 : Int.tmod B3 8 = B3 % 8 := Int.tmod_eq_emod_of_nonneg r3
      have e3 : IntKind.i64.wrap 4 = 4 := by decide
      have HE1 := Lib.hid e1
      have HE2 := Lib.hid e2
      have HE3 := Lib.hid e3
      clear e1 e2 e3
      go_region_held (fun W => W.cell? ⟨b, off + 3, none⟩ = some (.int .u8 B3)) (first | exact x3 | go_keep | fail) (fail)
      all_goals
        rw [HE1.out, HE2.out, HE3.out]
        go_wp2_with fail
        go_meet
        rw [hgx2]
        exact ⟨rfl, hX, hX1, hbX.drew, hba.drew⟩
    case rest =>
      obtain ⟨rfl, hx, hr, hb, hbw⟩ := hcut
      rw [← hgx2] at hgx
      have HBX := Lib.hid hb
      have RR := Lib.hid hr
      have RX := Lib.hid hx
      replace x1 := cell_later hbw x1
      replace x2 := cell_later hbw x2
      replace x3 := cell_later hbw x3
      clear hx hr hb hbw hbX hX hba hX1 hbl hbn hgx2
      have hmo : Int.tdiv B3 64 = B3 / 64 := Int.tdiv_eq_ediv_of_nonneg r3
      have hmw : IntKind.i64.wrap (B3 / 64) = B3 / 64 := IntWalk.i64_in _ (by omega)
      obtain ⟨⟨g0, g1, g2, g3, g4, g5, g6⟩, p0, p1, p2, p3, p4, p5, p6⟩ := seven_cells RX.out
      obtain ⟨⟨z0, z1, z2, z3, z4, z5, z6⟩, f0, f1, f2, f3, f4, f5, f6⟩ := seven_cells RR.out
      by_cases hc6 : B2 = 182
      · subst hc6
        by_cases hm2 : B3 / 64 = 2
        · by_cases hm4 : B3 % 8 = 4
          · have hm5 : (B3 % 8 == 4) = true := by rw [hm4]; rfl
            have hm6 : (B3 % 8 != 4) = false := by rw [hm4]; rfl
            have HX2 : Hid (dec l = none) := Lib.hid (by
              rw [HX.out, show cls 72 (kk l 1) (kk l 2) (kk l 3) = none from by
                  have e1 := HK1.out
                  have e2 := HK2.out
                  have e3 := HK3.out
                  skip
                  try have q0 := HP1.out
                  try have q1 := H15.out
                  try have q2 := H141.out
                  try have q3 := H2.out
                  show cls 72 (kk l 1) (kk l 2) (kk l 3) = none
                  unfold cls
                  (repeat (first | refine (if_pos (by omega)).trans ?_ | refine (if_neg (by omega)).trans ?_))
                  first | rfl | (simp only [Option.some.injEq, Hd.mk.injEq, true_and, and_true]; omega)]
              rfl)
            go_wp2_with (first | (refine wpList_store_row rfl 28 _ _ rfl w.heap.size #[.int .i64 0, .int .i64 0, .int .i64 0, .int .i64 0, .int .i64 0, .int .i64 0, .int .i64 0] rfl rfl 28 #[.int .i64 0, .int .i64 0, .int .i64 0, .int .i64 0, .int .i64 0, .int .i64 0, .int .i64 0] RR.out hty rfl (seven_one _ _ _ _ _ _ _) ?_) | fail)
            all_goals
              obtain ⟨y1, y2⟩ := seven_row #[.int .i64 0, .int .i64 0, .int .i64 0, .int .i64 0, .int .i64 0, .int .i64 0, .int .i64 0] (Nat.le_refl w.heap.size) HBX.out RR.out
              rw [HX2.out]
              exact bodyPost_ret (results_rins rfl _ _ _ _ _ _ _ _ _ _ _ (by rfl) (by rfl) y1) rfl ⟨rfl, y2⟩
          · have hm5 : (B3 % 8 == 4) = false := by simpa using hm4
            have hm6 : (B3 % 8 != 4) = true := by simpa using hm4
            have st0 := set7 #[.int .i64 6, .int .i64 (B3 / 8 % 8), .int .i64 (B3 % 8), .int .i64 4, .int .i64 0, .int .i64 0, .int .i64 0] 0 (.int .i64 6) (show w.heap.size ≤ gx by omega) ⟨RX.out, HBX.out⟩ rfl
            have str : (wc.setCell ⟨gx, 0, none⟩ (.int .i64 6)).heap[w.heap.size]? = some (.cells #[.int .i64 0, .int .i64 0, .int .i64 0, .int .i64 0, .int .i64 0, .int .i64 0, .int .i64 0] 28 (0, 0)) := ((heap_setCell_other _ _ _ _ (by simp; omega)).trans RR.out)
            have HST := Lib.hid st0.2
            have HSX := Lib.hid st0.1
            have HSR := Lib.hid str
            clear st0 str
            have HX2 : Hid (dec l = fld ⟨6, kk l 3 / 8 % 8, kk l 3 % 8, 4, 4⟩ l) := Lib.hid (by
              rw [HX.out, show cls 72 (kk l 1) (kk l 2) (kk l 3) = some ⟨6, kk l 3 / 8 % 8, kk l 3 % 8, 4, 4⟩ from by
                  have e1 := HK1.out
                  have e2 := HK2.out
                  have e3 := HK3.out
                  skip
                  try clear j13
                  try clear j12
                  try clear hP1
                  try clear h141
                  try clear h2
                  try clear h1
                  try clear h15
                  show cls 72 (kk l 1) (kk l 2) (kk l 3) = some ⟨6, kk l 3 / 8 % 8, kk l 3 % 8, 4, 4⟩
                  unfold cls
                  (repeat (first | refine (if_pos (by omega)).trans ?_ | refine (if_neg (by omega)).trans ?_))
                  first | rfl | (simp only [Option.some.injEq, Hd.mk.injEq, true_and, and_true]; omega)]
              rfl)
            have HFF := Lib.hid fun W (hb : Below w.heap.size w W) => HF.out W hb 6 (B3 / 8 % 8) (B3 % 8) 4 ⟨6, kk l 3 / 8 % 8, kk l 3 % 8, 4, 4⟩ (by (try clear j13); (try clear j12); (try clear hP1); (try clear h141); (try clear h2); (try clear h1); (try clear h15); have e1 := HK1.out; have e2 := HK2.out; have e3 := HK3.out; skip; simp only; omega) (by (try clear j13); (try clear j12); (try clear hP1); (try clear h141); (try clear h2); (try clear h1); (try clear h15); have e1 := HK1.out; have e2 := HK2.out; have e3 := HK3.out; skip; simp only; omega) (by (try clear j13); (try clear j12); (try clear hP1); (try clear h141); (try clear h2); (try clear h1); (try clear h15); have e1 := HK1.out; have e2 := HK2.out; have e3 := HK3.out; skip; simp only; omega) rfl (by simp only; omega) (by simp) 4 rfl
            rw [← HX2.out] at HFF
            go_upto_region 13 with fail
            generalize (wc.setCell ⟨gx, 0, none⟩ (.int .i64 6)) = wq at *
            clear z0 z1 z2 z3 z4 z5 z6 f0 f1 f2 f3 f4 f5 f6 g0 g1 g2 g3 g4 g5 g6 p0 p1 p2 p3 p4 p5 p6
            obtain ⟨⟨g0, g1, g2, g3, g4, g5, g6⟩, p0, p1, p2, p3, p4, p5, p6⟩ := seven_cells HSX.out
            obtain ⟨⟨z0, z1, z2, z3, z4, z5, z6⟩, f0, f1, f2, f3, f4, f5, f6⟩ := seven_cells HSR.out
            go_wp2_with fail
            refine (HFF.out _ HST.out).mono ?_
            rintro e w9 ⟨rfl, hb9⟩
            have R9 := row_later hb9 HSR.out
            have HB9 := Lib.hid ((HST.out).trans (hb9.mono (HST.out).size))
            have HR9 := Lib.hid R9
            clear R9 hb9
            go_wp2_with (first | (refine wpList_store_row rfl 28 _ _ rfl w.heap.size #[.int .i64 (optI (dec l)).1.op, .int .i64 (optI (dec l)).1.r, .int .i64 (optI (dec l)).1.m, .int .i64 (optI (dec l)).1.len, .int .i64 (optI (dec l)).1.field, .int .i64 (optI (dec l)).1.width, .int .i64 (optI (dec l)).1.imm] rfl rfl 28 #[.int .i64 0, .int .i64 0, .int .i64 0, .int .i64 0, .int .i64 0, .int .i64 0, .int .i64 0] HR9.out hty rfl (seven_one _ _ _ _ _ _ _) ?_) | fail)
            obtain ⟨y1, y2⟩ := seven_row #[.int .i64 (optI (dec l)).1.op, .int .i64 (optI (dec l)).1.r, .int .i64 (optI (dec l)).1.m, .int .i64 (optI (dec l)).1.len, .int .i64 (optI (dec l)).1.field, .int .i64 (optI (dec l)).1.width, .int .i64 (optI (dec l)).1.imm] (Nat.le_refl w.heap.size) HB9.out HR9.out
            exact bodyPost_ret (results_rins rfl _ _ _ _ _ _ _ _ _ _ _ (by rfl) (by rfl) y1) rfl ⟨rfl, y2⟩
        · have hm5 : (B3 / 64 == 2) = false := by simpa using hm2
          have HX2 : Hid (dec l = none) := Lib.hid (by
            rw [HX.out, show cls 72 (kk l 1) (kk l 2) (kk l 3) = none from by
                have e1 := HK1.out
                have e2 := HK2.out
                have e3 := HK3.out
                skip
                try have q0 := HP1.out
                try have q1 := H15.out
                try have q2 := H141.out
                try have q3 := H2.out
                show cls 72 (kk l 1) (kk l 2) (kk l 3) = none
                unfold cls
                (repeat (first | refine (if_pos (by omega)).trans ?_ | refine (if_neg (by omega)).trans ?_))
                first | rfl | (simp only [Option.some.injEq, Hd.mk.injEq, true_and, and_true]; omega)]
            rfl)
          go_wp2_with (first | (refine wpList_store_row rfl 28 _ _ rfl w.heap.size #[.int .i64 0, .int .i64 0, .int .i64 0, .int .i64 0, .int .i64 0, .int .i64 0, .int .i64 0] rfl rfl 28 #[.int .i64 0, .int .i64 0, .int .i64 0, .int .i64 0, .int .i64 0, .int .i64 0, .int .i64 0] RR.out hty rfl (seven_one _ _ _ _ _ _ _) ?_) | fail)
          all_goals
            obtain ⟨y1, y2⟩ := seven_row #[.int .i64 0, .int .i64 0, .int .i64 0, .int .i64 0, .int .i64 0, .int .i64 0, .int .i64 0] (Nat.le_refl w.heap.size) HBX.out RR.out
            rw [HX2.out]
            exact bodyPost_ret (results_rins rfl _ _ _ _ _ _ _ _ _ _ _ (by rfl) (by rfl) y1) rfl ⟨rfl, y2⟩
      · have hc7 : (B2 == 182) = false := by simpa using hc6
        have HX2 : Hid (dec l = none) := Lib.hid (by
          rw [HX.out, show cls 72 (kk l 1) (kk l 2) (kk l 3) = none from by
              have e1 := HK1.out
              have e2 := HK2.out
              have e3 := HK3.out
              skip
              try have q0 := HP1.out
              try have q1 := H15.out
              try have q2 := H141.out
              try have q3 := H2.out
              show cls 72 (kk l 1) (kk l 2) (kk l 3) = none
              unfold cls
              (repeat (first | refine (if_pos (by omega)).trans ?_ | refine (if_neg (by omega)).trans ?_))
              first | rfl | (simp only [Option.some.injEq, Hd.mk.injEq, true_and, and_true]; omega)]
          rfl)
        go_wp2_with (first | (refine wpList_store_row rfl 28 _ _ rfl w.heap.size #[.int .i64 0, .int .i64 0, .int .i64 0, .int .i64 0, .int .i64 0, .int .i64 0, .int .i64 0] rfl rfl 28 #[.int .i64 0, .int .i64 0, .int .i64 0, .int .i64 0, .int .i64 0, .int .i64 0, .int .i64 0] RR.out hty rfl (seven_one _ _ _ _ _ _ _) ?_) | fail)
        all_goals
          obtain ⟨y1, y2⟩ := seven_row #[.int .i64 0, .int .i64 0, .int .i64 0, .int .i64 0, .int .i64 0, .int .i64 0, .int .i64 0] (Nat.le_refl w.heap.size) HBX.out RR.out
          rw [HX2.out]
          exact bodyPost_ret (results_rins rfl _ _ _ _ _ _ _ _ _ _ _ (by rfl) (by rfl) y1) rfl ⟨rfl, y2⟩
  have i5 : ¬ B1 = 15 := h15
  have i6 : (B1 == 15) = false := by simpa using h15
  have HP2 := HP1.out
  exfalso; have e0 := HA.out; have e1 := HK1.out; have e9 := HLEN.out; omega
end Go.Proofs.YtbedbkifdhjdfaaDoor
