/-
  The walk of InsnBack.
-/
import Derived.Test.YtbedbkifdhjdfaaDoorIUp
import Derived.Deep.RegionHeld
namespace Go.Proofs.YtbedbkifdhjdfaaDoor
open Go.RowKit

theorem eql_chain (x y : Ins) (h : x ≠ y) (W : World) :
    (if x.op = y.op then
      if x.r = y.r then
        if x.m = y.m then
          if x.len = y.len then
            if x.field = y.field then
              if x.width = y.width then
                if x.imm = y.imm then Result.ok (Value.bool true) W else Result.ok (Value.bool false) W
              else Result.ok (Value.bool false) W
            else Result.ok (Value.bool false) W
          else Result.ok (Value.bool false) W
        else Result.ok (Value.bool false) W
      else Result.ok (Value.bool false) W
    else Result.ok (Value.bool false) W) = Result.ok (Value.bool false) W := by
  by_cases h0 : x.op = y.op
  · by_cases h1 : x.r = y.r
    · by_cases h2 : x.m = y.m
      · by_cases h3 : x.len = y.len
        · by_cases h4 : x.field = y.field
          · by_cases h5 : x.width = y.width
            · by_cases h6 : x.imm = y.imm
              · exfalso
                apply h
                cases x
                cases y
                simp_all
              · rw [if_pos h0, if_pos h1, if_pos h2, if_pos h3, if_pos h4, if_pos h5, if_neg h6]
            · rw [if_pos h0, if_pos h1, if_pos h2, if_pos h3, if_pos h4, if_neg h5]
          · rw [if_pos h0, if_pos h1, if_pos h2, if_pos h3, if_neg h4]
        · rw [if_pos h0, if_pos h1, if_pos h2, if_neg h3]
      · rw [if_pos h0, if_pos h1, if_neg h2]
    · rw [if_pos h0, if_neg h1]
  · rw [if_neg h0]
theorem iencode_str (x : Ins) (w : World) (hsh : Shapes w) : Calls Tryd.prog 9 #[x.v] w (Str (enc x).length (enc x) w) := (iencode_any x w hsh).mono fun _ _ h => h.toStr
theorem lit0_owns (w : World) (T : TypeId) : (w.alloc (.cells #[] T)).ownsRow w.heap.size T 1 (.slice (some ⟨w.heap.size, 0, none⟩) 0 0) 0 (([] : List UInt8).map u8v) :=
  ⟨rfl, .inr ⟨w.heap.size, 0, #[], rfl, Nat.le_refl _, heap_alloc_new w _, Nat.le_refl _, Nat.zero_le _, rfl, rfl⟩⟩

set_option maxRecDepth 100000 in
set_option maxHeartbeats 4000000 in
theorem iback_walk (p : Option Addr) (len cap : Nat) (l : List UInt8) (x y : Ins) (cut : Int) (w : World) (hsh : Shapes w) (h : Has w p l) (hlen : l.length = len) (hcap : len ≤ cap) (hm : cap ≤ maxLen) (hp : p = none → cap = 0) :
    Calls Tryd.prog 4 #[.slice p len cap, x.v, y.v, .int .i64 cut] w fun e w' => e = .returned (.bool true) ∧ Below w.heap.size w w' := by
  have hb0 : Below w.heap.size w ((w.alloc (.cells #[.int .i64 x.op, .int .i64 x.r, .int .i64 x.m, .int .i64 x.len, .int .i64 x.field, .int .i64 x.width, .int .i64 x.imm] 24)).alloc (.cells #[.int .i64 y.op, .int .i64 y.r, .int .i64 y.m, .int .i64 y.len, .int .i64 y.field, .int .i64 y.width, .int .i64 y.imm] 24)) := ((Below.refl _ w).alloc (Nat.le_refl _) _).alloc (by simp) _
  have HUP := Lib.hid fun W (hb : Below w.heap.size w W) => iup_any W (hsh.below hb (Nat.le_refl _))
  by_cases hbig : 10000 < len
  · have hI : (10000 : Int) < (len : Int) := by omega
    clear h hlen
    go_enter Tryd.func4, Tryd.ntmps4
    go_wp2_with fail
    refine (HUP.out _ hb0).mono ?_
    rintro e w1 ⟨rfl, hb1⟩
    have hb2 : Below w.heap.size w w1 := hb0.trans (hb1.mono (by simp; omega))
    go_wp2_with fail
    go_ret
    exact ⟨rfl, hb2⟩
  have hI : ¬ (10000 : Int) < (len : Int) := by omega
  have hl10 : len ≤ 10000 := by omega
  have HSH := Lib.hid hsh
  have HH := Lib.hid h
  have HL := Lib.hid hlen
  have HM := Lib.hid hm
  have HP := Lib.hid hp
  have hrx : ((w.alloc (.cells #[.int .i64 x.op, .int .i64 x.r, .int .i64 x.m, .int .i64 x.len, .int .i64 x.field, .int .i64 x.width, .int .i64 x.imm] 24)).alloc (.cells #[.int .i64 y.op, .int .i64 y.r, .int .i64 y.m, .int .i64 y.len, .int .i64 y.field, .int .i64 y.width, .int .i64 y.imm] 24)).heap[w.heap.size]? = some (.cells #[.int .i64 x.op, .int .i64 x.r, .int .i64 x.m, .int .i64 x.len, .int .i64 x.field, .int .i64 x.width, .int .i64 x.imm] 24 (0, 0)) := by
    rw [Below.heap_alloc _ _ _ (by simp)]; exact heap_alloc_new w _
  have hry : ((w.alloc (.cells #[.int .i64 x.op, .int .i64 x.r, .int .i64 x.m, .int .i64 x.len, .int .i64 x.field, .int .i64 x.width, .int .i64 x.imm] 24)).alloc (.cells #[.int .i64 y.op, .int .i64 y.r, .int .i64 y.m, .int .i64 y.len, .int .i64 y.field, .int .i64 y.width, .int .i64 y.imm] 24)).heap[w.heap.size + 1]? = some (.cells #[.int .i64 y.op, .int .i64 y.r, .int .i64 y.m, .int .i64 y.len, .int .i64 y.field, .int .i64 y.width, .int .i64 y.imm] 24 (0, 0)) := by
    have := heap_alloc_new (w.alloc (.cells #[.int .i64 x.op, .int .i64 x.r, .int .i64 x.m, .int .i64 x.len, .int .i64 x.field, .int .i64 x.width, .int .i64 x.imm] 24)) (.cells #[.int .i64 y.op, .int .i64 y.r, .int .i64 y.m, .int .i64 y.len, .int .i64 y.field, .int .i64 y.width, .int .i64 y.imm] 24)
    simpa using this
  have HRX := Lib.hid hrx
  have HRY := Lib.hid hry
  have HDL := Lib.hid fun W (hb : Below w.heap.size w W) => idecode_any p len cap l W (hsh.below hb (Nat.le_refl _)) (h.below hb) hlen hcap hm
  have HEX := Lib.hid fun W (hb : Below w.heap.size w W) => iencode_any x W (hsh.below hb (Nat.le_refl _))
  have HEY := Lib.hid fun W (hb : Below w.heap.size w W) => iencode_any y W (hsh.below hb (Nat.le_refl _))
  clear h hlen hbig hm hp hsh hrx hry
  go_enter Tryd.func4, Tryd.ntmps4
  go_wp2_with fail
  refine (HUP.out _ hb0).mono ?_
  rintro e w1 ⟨rfl, hb1⟩
  have HB1 : Hid (Below w.heap.size w w1) := Lib.hid (hb0.trans (hb1.mono (by simp; omega)))
  have RX1 := Lib.hid (row_later hb1 HRX.out)
  have RY1 := Lib.hid (row_later hb1 HRY.out)
  obtain ⟨gx, hgx⟩ : ∃ gx, gx = w.heap.size := ⟨_, rfl⟩
  obtain ⟨gy, hgy⟩ : ∃ gy, gy = w.heap.size + 1 := ⟨_, rfl⟩
  rw [← hgx] at RX1
  rw [← hgy] at RY1
  rw [← hgy, ← hgx]
  have HGX := Lib.hid hgx
  clear hb0 hb1 HRX HRY HUP hgx hgy
  obtain ⟨z, ok, hz, hfact⟩ : ∃ (z : Ins) (ok : Bool), optI (dec l) = (z, ok) ∧ (ok = false ∨ ok = true ∧ dec l = some z) := by
    cases hd : dec l with
    | none => exact ⟨ins0, false, rfl, .inl rfl⟩
    | some z => exact ⟨z, true, rfl, .inr ⟨rfl, rfl⟩⟩
  rw [hz] at HDL
  simp only at HDL
  have HF := Lib.hid hfact
  clear hz hfact
  go_wp2_with fail
  refine (HDL.out _ HB1.out).mono ?_
  rintro e w2 ⟨rfl, hb2⟩
  have HB2 := Lib.hid (HB1.out.trans (hb2.mono HB1.out.size))
  have hba := (Below.refl w2.heap.size w2).alloc (Nat.le_refl _) (.cells #[.int .i64 z.op, .int .i64 z.r, .int .i64 z.m, .int .i64 z.len, .int .i64 z.field, .int .i64 z.width, .int .i64 z.imm] 24)
  have RX2 := Lib.hid (row_later hba (row_later hb2 RX1.out))
  have RY2 := Lib.hid (row_later hba (row_later hb2 RY1.out))
  have RZ2 : Hid ((w2.alloc (.cells #[.int .i64 z.op, .int .i64 z.r, .int .i64 z.m, .int .i64 z.len, .int .i64 z.field, .int .i64 z.width, .int .i64 z.imm] 24)).heap[w2.heap.size]? = some (.cells #[.int .i64 z.op, .int .i64 z.r, .int .i64 z.m, .int .i64 z.len, .int .i64 z.field, .int .i64 z.width, .int .i64 z.imm] 24 (0, 0))) := Lib.hid (heap_alloc_new w2 _)
  have HB3 := Lib.hid (HB2.out.alloc HB2.out.size (.cells #[.int .i64 z.op, .int .i64 z.r, .int .i64 z.m, .int .i64 z.len, .int .i64 z.field, .int .i64 z.width, .int .i64 z.imm] 24))
  clear hb2 hba
  go_upto_region 5 with fail
  generalize (w2.alloc (.cells #[.int .i64 z.op, .int .i64 z.r, .int .i64 z.m, .int .i64 z.len, .int .i64 z.field, .int .i64 z.width, .int .i64 z.imm] 24)) = w3 at *
  generalize w2.heap.size = gz at *
  clear HB1 HB2 RX1 RY1 HDL
  obtain ⟨⟨z0, z1, z2, z3, z4, z5, z6⟩, _⟩ := seven_cells RZ2.out
  go_cut [70] (fun s70 wx => s70 = .bool false ∧ wx = w3)
  case first =>
    rcases HF.out with rfl | ⟨rfl, hd⟩
    · go_wp2_with fail
      go_meet
      exact ⟨rfl, rfl⟩
    · obtain ⟨q1, q2, q3, q4, q5, q6, _, _⟩ := dec_raw hd
      rw [HL.out] at q3
      have k1 : ¬ z.len < 1 := by omega
      have k2 : ¬ 10 < z.len := by omega
      have k3 : ¬ (len : Int) < z.len := by omega
      by_cases hw : 0 < z.width
      · have k4 : IntKind.i64.wrap (z.field + z.width) = z.len := by rw [q4 hw]; exact IntWalk.i64_in _ (by omega)
        have k5 : ¬ z.width = 0 := by omega
        clear q1 q2 q3 q4 q5 q6 hd
        go_wp2_with fail
        go_meet
        exact ⟨rfl, rfl⟩
      · have k4 : z.width = 0 := by omega
        have k5 := q5 k4
        have k6 : ¬ (0 : Int) < 0 := by omega
        clear q1 q2 q3 q4 q5 q6 hd
        go_wp2_with fail
        go_meet
        exact ⟨rfl, rfl⟩
  case rest =>
    obtain ⟨rfl, rfl⟩ := hcut
    go_upto_region 7 with fail
    go_cut [82] (fun s82 wx => s82 = .bool false ∧ Below w.heap.size w wx ∧ wx.heap[gx]? = some (.cells #[.int .i64 x.op, .int .i64 x.r, .int .i64 x.m, .int .i64 x.len, .int .i64 x.field, .int .i64 x.width, .int .i64 x.imm] 24 (0, 0)) ∧ wx.heap[gy]? = some (.cells #[.int .i64 y.op, .int .i64 y.r, .int .i64 y.m, .int .i64 y.len, .int .i64 y.field, .int .i64 y.width, .int .i64 y.imm] 24 (0, 0)))
    case first =>
      rcases HF.out with rfl | ⟨rfl, hd⟩
      · go_quiet (fail)
        go_wp2_with fail
        go_meet
        exact ⟨rfl, below_drewN HB3.out _, RX2.out, RY2.out⟩
      · obtain ⟨q1, q2, q3, q4, q5, q6, q7, _⟩ := dec_raw hd
        rw [HL.out] at q3
        have hez : enc z = l.take z.len.toNat := dec_enc hd
        have HEZ := Lib.hid fun W (hb : Below w.heap.size w W) => iencode_str z W (HSH.out.below hb (Nat.le_refl _))
        rw [hez] at HEZ
        have hel : (l.take z.len.toNat).length = z.len.toNat := by rw [List.length_take, HL.out]; omega
        rw [hel] at HEZ
        have hcs : ∀ W, Below w.heap.size w W → ∀ N, N = W.heap.size → ∀ V, Below N W V → (convert 22 9 (.slice p z.len.toNat cap)).run Tryd.prog V = .ok (.string (str (l.take z.len.toNat))) V := fun W hb N hN => conv_at (has_take (HH.out.below hb) z.len.toNat) hel hN
        have HCS := Lib.hid hcs
        obtain ⟨N0, hN0⟩ : ∃ N0, N0 = wc.heap.size := ⟨_, rfl⟩
        have hc0 := hcs _ HB3.out N0 hN0
        have hr0 := (Below.refl N0 wc).drew
        have k6 : (0 : Int) ≤ z.len := by omega
        have k8 : z.len ≤ (cap : Int) := by omega
        have HN0 := Lib.hid hN0
        have hgxl : gx < wc.heap.size := (Array.getElem?_eq_some_iff.1 RX2.out).1
        clear q1 q2 q3 q4 q5 q6 q7 hd hez hel hcs hN0
        go_region_held (fun W => W.cell? ⟨gz, 0, none⟩ = some (.int .i64 z.op) ∧ W.cell? ⟨gz, 1, none⟩ = some (.int .i64 z.r) ∧ W.cell? ⟨gz, 2, none⟩ = some (.int .i64 z.m) ∧ W.cell? ⟨gz, 3, none⟩ = some (.int .i64 z.len) ∧ W.cell? ⟨gz, 4, none⟩ = some (.int .i64 z.field) ∧ W.cell? ⟨gz, 5, none⟩ = some (.int .i64 z.width) ∧ W.cell? ⟨gz, 6, none⟩ = some (.int .i64 z.imm))
          (first | go_keep | exact ⟨z0, z1, z2, z3, z4, z5, z6⟩ | exact ⟨y0, y1, y2, y3, y4, y5, y6⟩ | fail)
          (first
            | (go_at_call 9
               refine (HEZ.out _ HB3.out.drew).mono ?_
               rintro e w4 ⟨pc, cc, Nc, rfl, hcc, hNc, hbc⟩
               have hbc2 : Below wc.heap.size wc w4 := (Below.refl wc.heap.size wc).drew.trans hbc
               have y0 := cell_later hbc2 z0
               have y1 := cell_later hbc2 z1
               have y2 := cell_later hbc2 z2
               have y3 := cell_later hbc2 z3
               have y4 := cell_later hbc2 z4
               have y5 := cell_later hbc2 z5
               have y6 := cell_later hbc2 z6
               have RX4 := Lib.hid (row_later hbc2 RX2.out)
               have RY4 := Lib.hid (row_later hbc2 RY2.out)
               have HB4 := Lib.hid (HB3.out.trans (hbc2.mono HB3.out.size))
               have hr4 := Below.refl Nc w4
               have hc4 := HCS.out w4 HB4.out Nc hNc
               have HNc := Lib.hid hNc
               clear hNc hbc hbc2)
            | fail)
        all_goals
          go_wp2_with fail
          go_meet
          exact ⟨rfl, HB4.out, RX4.out, RY4.out⟩
    case rest =>
      obtain ⟨rfl, hb5, rx5, ry5⟩ := hcut
      obtain ⟨⟨x0, x1, x2, x3, x4, x5, x6⟩, _⟩ := seven_cells rx5
      obtain ⟨⟨y0, y1, y2, y3, y4, y5, y6⟩, _⟩ := seven_cells ry5
      have HB5 := Lib.hid hb5
      clear z0 z1 z2 z3 z4 z5 z6 HF RX2 RY2 RZ2 HB3 hb5
      go_wp2_with fail
      refine (HEX.out _ HB5.out).mono ?_
      rintro e w6 ⟨p1, c1, rfl, hl1, hn1, hm1, hH1, hb6⟩
      have HB6 := Lib.hid (HB5.out.trans (hb6.mono HB5.out.size))
      have rx6 := row_later hb6 rx5
      have ry6 := row_later hb6 ry5
      clear x0 x1 x2 x3 x4 x5 x6 y0 y1 y2 y3 y4 y5 y6 hb6 rx5 ry5
      obtain ⟨⟨y0, y1, y2, y3, y4, y5, y6⟩, _⟩ := seven_cells ry6
      go_wp2_with fail
      refine (HEY.out _ HB6.out).mono ?_
      rintro e w7 ⟨p2, c2, rfl, hl2, hn2, hm2, hH2, hb7⟩
      have HB7 := Lib.hid (HB6.out.trans (hb7.mono HB6.out.size))
      have rx7 := row_later hb7 rx6
      have ry7 := row_later hb7 ry6
      have hH1' := hH1.below hb7
      clear y0 y1 y2 y3 y4 y5 y6 hb7 rx6 ry6 hH1
      obtain ⟨⟨x0, x1, x2, x3, x4, x5, x6⟩, _⟩ := seven_cells rx7
      obtain ⟨⟨y0, y1, y2, y3, y4, y5, y6⟩, _⟩ := seven_cells ry7
      obtain ⟨N7, hN7⟩ : ∃ N7, N7 = w7.heap.size := ⟨_, rfl⟩
      have hcx := conv_at (c := c1) hH1' rfl hN7
      have hcy := conv_at (c := c2) hH2 rfl hN7
      have hr7 := (Below.refl N7 w7).drew
      have HX7 := Lib.hid rx7
      have HH1 := Lib.hid hH1'
      have HN1 := Lib.hid hn1
      have HM1 := Lib.hid hm1
      clear hl1 hl2 hn1 hn2 hm1 hm2 hH2 hH1' rx7 ry7 hN7 HEX HEY
      go_upto_region 11 with fail
      go_cut [105] (fun s105 wx => s105 = .bool false ∧ Below w7.heap.size w7 wx)
      case first =>
        by_cases hx0 : (enc x).length = 0
        · have i1 : ¬ 0 < (enc x).length := by omega
          have d1 : decide (0 < (enc x).length) = false := decide_eq_false i1
          generalize (enc x).length = n1 at *
          generalize (enc y).length = n2 at *
          clear hx0
          go_quiet (fail)
          go_wp2_with fail
          go_meet
          exact ⟨rfl, below_drewN (Below.refl _ _) _⟩
        have i1 : 0 < (enc x).length := by omega
        have d1 : decide (0 < (enc x).length) = true := decide_eq_true i1
        by_cases hy0 : (enc y).length = 0
        · have i2 : ¬ 0 < (enc y).length := by omega
          have d2 : decide (0 < (enc y).length) = false := decide_eq_false i2
          generalize (enc x).length = n1 at *
          generalize (enc y).length = n2 at *
          clear hx0 hy0
          go_quiet (fail)
          go_wp2_with fail
          go_meet
          exact ⟨rfl, below_drewN (Below.refl _ _) _⟩
        have i2 : 0 < (enc y).length := by omega
        have d2 : decide (0 < (enc y).length) = true := decide_eq_true i2
        have hinj := enc_inj (x := x) (y := y) (fun e => hx0 (by rw [e]; rfl)) (fun e => hy0 (by rw [e]; rfl))
        by_cases hxy : x = y
        · have hse : ((str (enc x)).toList == (str (enc y)).toList) = true := by rw [hxy]; simp
          rw [← hxy] at y0 y1 y2 y3 y4 y5 y6
          generalize str (enc x) = ex at *
          generalize str (enc y) = ey at *
          generalize (enc x).length = n1 at *
          generalize (enc y).length = n2 at *
          clear hinj hx0 hy0 hxy
          go_region_held (fun W => W.cell? ⟨gx, 0, none⟩ = some (.int .i64 x.op) ∧ W.cell? ⟨gx, 1, none⟩ = some (.int .i64 x.r) ∧ W.cell? ⟨gx, 2, none⟩ = some (.int .i64 x.m) ∧ W.cell? ⟨gx, 3, none⟩ = some (.int .i64 x.len) ∧ W.cell? ⟨gx, 4, none⟩ = some (.int .i64 x.field) ∧ W.cell? ⟨gx, 5, none⟩ = some (.int .i64 x.width) ∧ W.cell? ⟨gx, 6, none⟩ = some (.int .i64 x.imm) ∧ W.cell? ⟨gy, 0, none⟩ = some (.int .i64 x.op) ∧ W.cell? ⟨gy, 1, none⟩ = some (.int .i64 x.r) ∧ W.cell? ⟨gy, 2, none⟩ = some (.int .i64 x.m) ∧ W.cell? ⟨gy, 3, none⟩ = some (.int .i64 x.len) ∧ W.cell? ⟨gy, 4, none⟩ = some (.int .i64 x.field) ∧ W.cell? ⟨gy, 5, none⟩ = some (.int .i64 x.width) ∧ W.cell? ⟨gy, 6, none⟩ = some (.int .i64 x.imm))
            (first | go_keep | exact ⟨x0, x1, x2, x3, x4, x5, x6, y0, y1, y2, y3, y4, y5, y6⟩ | fail) (fail)
          all_goals
            go_wp2_with fail
            go_meet
            exact ⟨rfl, (Below.refl _ _).drew⟩
        · have hse : ((str (enc x)).toList == (str (enc y)).toList) = false := by
            rw [beq_eq_false_iff_ne, ByteArray.toList_eq, ByteArray.toList_eq]
            exact fun e => hxy (hinj.1 e)
          have hch := eql_chain x y hxy
          generalize str (enc x) = ex at *
          generalize str (enc y) = ey at *
          generalize (enc x).length = n1 at *
          generalize (enc y).length = n2 at *
          clear hinj hx0 hy0 hxy
          go_region_held (fun W => W.cell? ⟨gx, 0, none⟩ = some (.int .i64 x.op) ∧ W.cell? ⟨gx, 1, none⟩ = some (.int .i64 x.r) ∧ W.cell? ⟨gx, 2, none⟩ = some (.int .i64 x.m) ∧ W.cell? ⟨gx, 3, none⟩ = some (.int .i64 x.len) ∧ W.cell? ⟨gx, 4, none⟩ = some (.int .i64 x.field) ∧ W.cell? ⟨gx, 5, none⟩ = some (.int .i64 x.width) ∧ W.cell? ⟨gx, 6, none⟩ = some (.int .i64 x.imm) ∧ W.cell? ⟨gy, 0, none⟩ = some (.int .i64 y.op) ∧ W.cell? ⟨gy, 1, none⟩ = some (.int .i64 y.r) ∧ W.cell? ⟨gy, 2, none⟩ = some (.int .i64 y.m) ∧ W.cell? ⟨gy, 3, none⟩ = some (.int .i64 y.len) ∧ W.cell? ⟨gy, 4, none⟩ = some (.int .i64 y.field) ∧ W.cell? ⟨gy, 5, none⟩ = some (.int .i64 y.width) ∧ W.cell? ⟨gy, 6, none⟩ = some (.int .i64 y.imm))
            (first | go_keep | exact ⟨x0, x1, x2, x3, x4, x5, x6, y0, y1, y2, y3, y4, y5, y6⟩ | fail) (fail)
          all_goals
            go_wp2_with fail
            go_meet
            exact ⟨rfl, (Below.refl _ _).drew⟩
      case rest =>
        obtain ⟨rfl, hbx⟩ := hcut
        have rx := row_later hbx HX7.out
        have HH8 := Lib.hid (HH1.out.below hbx)
        have HB8 := Lib.hid (HB7.out.trans (hbx.mono HB7.out.size))
        have RX8 := Lib.hid rx
        clear hbx rx hcx hcy hr7 x0 x1 x2 x3 x4 x5 x6 y0 y1 y2 y3 y4 y5 y6 HX7 HH1 HB7 HB6 HB5
        by_cases hx0 : (enc x).length = 0
        · generalize (enc x).length = n1 at *
          subst hx0
          go_wp2_with fail
          go_ret
          exact ⟨rfl, HB8.out⟩
        have hne : enc x ≠ [] := fun e => hx0 (by rw [e]; rfl)
        obtain ⟨hmore, hlx⟩ := enc_more hne l
        have HCUT := Lib.hid fun k => enc_cut hne k
        obtain ⟨b1, o1, rfl, _⟩ := HH8.out.plain (by omega)
        obtain ⟨n1, hn1⟩ : ∃ n1, n1 = (enc x).length := ⟨_, rfl⟩
        have HN := Lib.hid hn1
        have hn1p : 0 < n1 := by omega
        have i1 : ¬ n1 = 0 := by omega
        have i2 : ¬ (n1 : Int) = 0 := by omega
        have hn11 : n1 ≤ 11 := by
          obtain ⟨_, h2, _⟩ := dec_raw hmore
          omega
        rw [← hn1] at hlx HN1 HCUT ⊢
        have HMO := Lib.hid hmore
        have HLX := Lib.hid hlx
        clear hx0 hne hmore hlx
        have hba := (Below.refl wc.heap.size wc).alloc (Nat.le_refl _) (.cells #[] 5)
        have hl0 := lit0_owns wc 5
        have HH9 := Lib.hid (HH8.out.below hba)
        have RX9 := Lib.hid (row_later hba RX8.out)
        obtain ⟨i0, hi, hz0, hz1, hz2⟩ := info_parts Tryd.infoU8
        have HI := Lib.hid hi
        have H0 := Lib.hid hz0
        have H1 := Lib.hid hz1
        have H2 := Lib.hid hz2
        clear hi hz0 hz1 hz2 hn1
        go_wp2_with (at_builtin; refine wpList_append_bytes _ rfl (.tmp 111) (.tmp 112) 22 rfl wc.heap.size 5 i0 Tryd.underlying22 HI.out H0.out H1.out H2.out _ 0 [] rfl hl0 (some ⟨b1, o1, none⟩) n1 c1 (enc x) rfl HH9.out HN.out.symm (fun h => by cases h) (by omega) hba.size ?_)
        intro v4 w4 hown4 hgrow4 _
        have hb4 : Below wc.heap.size wc w4 := hba.grown hgrow4 hba.size (fun g hg => (hl0.lt g hg).1)
        have hown4' : w4.ownsRow wc.heap.size 5 1 v4 n1 ((enc x).map u8v) := by simpa using hown4
        have HHL := Lib.hid (HH.out.below (HB8.out.trans (hb4.mono HB8.out.size)))
        clear hown4 hgrow4 hba hl0 HH9
        go_wp2_with (at_builtin; refine wpList_append_bytes _ rfl (.tmp 113) (.tmp 114) 22 rfl wc.heap.size 5 i0 Tryd.underlying22 HI.out H0.out H1.out H2.out _ n1 (enc x) rfl hown4' p len cap l rfl HHL.out HL.out HP.out (by omega) hb4.size ?_)
        intro v5 w5 hown5 hgrow5 _
        have hb5 : Below wc.heap.size wc w5 := hb4.grown hgrow5 hb4.size (fun g hg => (hown4'.lt g hg).1)
        have hown5' : w5.ownsRow wc.heap.size 5 1 v5 (n1 + len) ((enc x ++ l).map u8v) := by simpa using hown5
        obtain ⟨p5, q5, rfl, hn5, hc5, hl5, hH5⟩ := Has.of_owns hown5'
        have hd5 := idecode_any p5 _ q5 _ w5 (HSH.out.below (HB8.out.trans (hb5.mono HB8.out.size)) (Nat.le_refl _)) hH5 hl5 hn5 hc5
        rw [HMO.out] at hd5
        simp only [optI] at hd5
        have HD5 := Lib.hid hd5
        have HH5 := Lib.hid (HH8.out.below hb5)
        have RX5 := Lib.hid (row_later hb5 RX8.out)
        have HB9 := Lib.hid (HB8.out.trans (hb5.mono HB8.out.size))
        clear hown4' hown5 hown5' hgrow5 hb4 hb5 hn5 hc5 hl5 hH5 hd5 RX9 RX8 HH8 HB8 HHL
        go_wp2_with fail
        refine HD5.out.mono ?_
        rintro e w6 ⟨rfl, hb6⟩
        have HB10 := Lib.hid ((HB9.out.trans (hb6.mono HB9.out.size)).alloc (HB9.out.trans (hb6.mono HB9.out.size)).size (.cells #[.int .i64 x.op, .int .i64 x.r, .int .i64 x.m, .int .i64 x.len, .int .i64 x.field, .int .i64 x.width, .int .i64 x.imm] 24))
        have hba := (Below.refl w6.heap.size w6).alloc (Nat.le_refl _) (.cells #[.int .i64 x.op, .int .i64 x.r, .int .i64 x.m, .int .i64 x.len, .int .i64 x.field, .int .i64 x.width, .int .i64 x.imm] 24)
        have rx := row_later hba (row_later hb6 RX5.out)
        have rw2 : (w6.alloc (.cells #[.int .i64 x.op, .int .i64 x.r, .int .i64 x.m, .int .i64 x.len, .int .i64 x.field, .int .i64 x.width, .int .i64 x.imm] 24)).heap[w6.heap.size]? = some (.cells #[.int .i64 x.op, .int .i64 x.r, .int .i64 x.m, .int .i64 x.len, .int .i64 x.field, .int .i64 x.width, .int .i64 x.imm] 24 (0, 0)) := heap_alloc_new w6 _
        have HH6 := Lib.hid ((HH5.out.below hb6).below hba)
        obtain ⟨⟨x0, x1, x2, x3, x4, x5, x6⟩, _⟩ := seven_cells rx
        obtain ⟨⟨y0, y1, y2, y3, y4, y5, y6⟩, _⟩ := seven_cells rw2
        clear hba hb6 rx rw2 HD5 HH5 RX5
        go_upto_region 16 with fail
        generalize (w6.alloc (.cells #[.int .i64 x.op, .int .i64 x.r, .int .i64 x.m, .int .i64 x.len, .int .i64 x.field, .int .i64 x.width, .int .i64 x.imm] 24)) = w7' at *
        generalize w6.heap.size = gw at *
        have hlx := HLX.out
        have k1 : (x.len != (n1 : Int)) = false := by rw [hlx]; simp
        clear hlx
        by_cases hc0 : cut < 0
        · go_wp2_with fail
          go_ret
          exact ⟨rfl, HB10.out⟩
        by_cases hc1 : (n1 : Int) ≤ cut
        · go_wp2_with fail
          go_ret
          exact ⟨rfl, HB10.out⟩
        obtain ⟨k, rfl⟩ := Int.eq_ofNat_of_zero_le (show 0 ≤ cut by omega)
        have hkn : k < n1 := by omega
        have hkc : (k : Int) ≤ (c1 : Int) := by have := HN1.out; omega
        have hk0 : (0 : Int) ≤ (k : Int) := by omega
        have hd9 := idecode_any (some ⟨b1, o1, none⟩) k c1 ((enc x).take k) w7' (HSH.out.below HB10.out (Nat.le_refl _)) (has_take HH6.out k) (by rw [List.length_take, ← HN.out]; omega) (by omega) HM1.out
        rw [HCUT.out k hkn] at hd9
        simp only [optI, ins0] at hd9
        have HD9 := Lib.hid hd9
        clear hd9 hkn
        go_wp2_with fail
        refine HD9.out.mono ?_
        rintro e w8 ⟨rfl, hb8⟩
        have HB11 := Lib.hid (HB10.out.trans (hb8.mono HB10.out.size))
        clear hb8
        go_wp2_with fail
        go_ret
        exact ⟨rfl, HB11.out.alloc HB11.out.size _⟩
end Go.Proofs.YtbedbkifdhjdfaaDoor
