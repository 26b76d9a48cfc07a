/-
  The walk of InsnTells: insn and its reference tell the same.
-/
import Derived.Test.YtbedbkifdhjdfaaDoorIUp
import Derived.Test.YtbedbkifdhjdfaaDoorIRLong
import Derived.Test.YtbedbkifdhjdfaaDoorIREnc
import Derived.Deep.RegionHeld
import Derived.Deep.DeepCutAuto
namespace Go.Proofs.YtbedbkifdhjdfaaDoor
open Go.RowKit

theorem iencode_strT (x : Ins) (w : World) (hsh : Shapes w) : Calls Tryd.prog 9 #[x.v] w (Str (enc x).length (enc x) w) := (iencode_any x w hsh).mono fun _ _ h => h.toStr
theorem rencode_str (x : Ins) (w : World) : Calls Tryd.prog 10 #[x.v] w (Str (enc x).length (enc x) w) := (rencode_any (fun p len cap l w h1 h2 h3 h4 h5 => rlong_any p len cap l w h1 h2 h3 h4 h5) x w).mono fun _ _ h => h.toStr
theorem ilike_any (t : Ins) (w : World) : Calls Tryd.prog 8 #[t.v] w fun e w' => e = .returned t.v ∧ Below w.heap.size w w' := by
  go_enter Tryd.func8, Tryd.ntmps8
  go_wp2_with fail
  exact bodyPost_ret (v := t.v) (by simp [results, Tryd.results8, go_sem]) rfl ⟨rfl, ((Below.refl _ w).alloc (Nat.le_refl _) _).alloc (by simp) _⟩
theorem icell_alloc {w : World} {a : Addr} {v : Value} (o : Obj) (h : w.cell? a = some v) : (w.alloc o).cell? a = some v := cell_later ((Below.refl _ w).alloc (Nat.le_refl _) o) h

set_option maxRecDepth 100000 in
set_option maxHeartbeats 8000000 in
theorem itells_walk (p : Option Addr) (len cap : Nat) (l : List UInt8) (x : Ins) (w : World) (hsh : Shapes w) (h : Has w p l) (hlen : l.length = len) (hcap : len ≤ cap) (hm : cap ≤ maxLen) :
    Calls Tryd.prog 3 #[.slice p len cap, x.v] w fun e w' => e = .returned (.bool true) ∧ Below w.heap.size w w' := by
  have HUP := Lib.hid fun W (hb : Below w.heap.size w W) => iup_any W (hsh.below hb (Nat.le_refl _))
  have hb0 : Below w.heap.size w (w.alloc (.cells #[.int .i64 x.op, .int .i64 x.r, .int .i64 x.m, .int .i64 x.len, .int .i64 x.field, .int .i64 x.width, .int .i64 x.imm] 24)) := (Below.refl _ w).alloc (Nat.le_refl _) _
  by_cases hbig : 10000 < len
  · have hI : (10000 : Int) < (len : Int) := by omega
    clear h hlen
    go_enter Tryd.func3, Tryd.ntmps3
    go_wp2_with fail
    refine (HUP.out _ hb0).mono ?_
    rintro e w1 ⟨rfl, hb1⟩
    have hb2 : Below w.heap.size w w1 := hb0.trans (hb1.mono (by simp))
    go_wp2_with fail
    go_ret
    exact ⟨rfl, hb2⟩
  have hI : ¬ (10000 : Int) < (len : Int) := by omega
  have HG := Lib.hid fun W (hb : Below w.heap.size w W) => idecode_any p len cap l W (hsh.below hb (Nat.le_refl _)) (h.below hb) hlen hcap hm
  have HR := Lib.hid fun W (hb : Below w.heap.size w W) => rdecode_any (fun p len cap l w h1 h2 h3 h4 h5 => rlong_any p len cap l w h1 h2 h3 h4 h5) p len cap l W (h.below hb) hlen hcap hm
  obtain ⟨u, ok, hu⟩ : ∃ (u : Ins) (ok : Bool), optI (dec l) = (u, ok) := ⟨_, _, rfl⟩
  rw [hu] at HG HR
  simp only at HG HR
  have HP := Lib.hid fun W (hb : Below w.heap.size w W) => iencode_strT x W (hsh.below hb (Nat.le_refl _))
  have HRP := Lib.hid fun W => rencode_str x W
  have HLu := Lib.hid fun W => ilike_any u W
  have HLt := Lib.hid fun W => ilike_any x W
  generalize enc x = put at HP HRP
  have hok : (ok == ok) = true := by simp
  clear h hlen hu hbig hsh
  go_enter Tryd.func3, Tryd.ntmps3
  go_wp2_with fail
  refine (HUP.out _ hb0).mono ?_
  rintro e w1 ⟨rfl, hb1⟩
  have a0 : w1.cell? ⟨w.heap.size, 0, none⟩ = some (.int .i64 x.op) := by rw [hb1.cell (by simp)]; simp
  have a1 : w1.cell? ⟨w.heap.size, 1, none⟩ = some (.int .i64 x.r) := by rw [hb1.cell (by simp)]; simp
  have a2 : w1.cell? ⟨w.heap.size, 2, none⟩ = some (.int .i64 x.m) := by rw [hb1.cell (by simp)]; simp
  have a3 : w1.cell? ⟨w.heap.size, 3, none⟩ = some (.int .i64 x.len) := by rw [hb1.cell (by simp)]; simp
  have a4 : w1.cell? ⟨w.heap.size, 4, none⟩ = some (.int .i64 x.field) := by rw [hb1.cell (by simp)]; simp
  have a5 : w1.cell? ⟨w.heap.size, 5, none⟩ = some (.int .i64 x.width) := by rw [hb1.cell (by simp)]; simp
  have a6 : w1.cell? ⟨w.heap.size, 6, none⟩ = some (.int .i64 x.imm) := by rw [hb1.cell (by simp)]; simp
  have hb2 : Below w.heap.size w w1 := hb0.trans (hb1.mono (by simp))
  obtain ⟨gb, hgb⟩ : ∃ gb, gb = w.heap.size := ⟨_, rfl⟩
  rw [← hgb] at a0 a1 a2 a3 a4 a5 a6 ⊢
  clear hb1 hb0 hgb HUP
  go_wp2_with fail
  refine (HG.out _ hb2).mono ?_
  rintro e w2 ⟨rfl, hbb2⟩
  have hb3 : Below w.heap.size w w2 := hb2.trans (hbb2.mono hb2.size)
  have b0 := cell_later hbb2 a0
  have b1 := cell_later hbb2 a1
  have b2 := cell_later hbb2 a2
  have b3 := cell_later hbb2 a3
  have b4 := cell_later hbb2 a4
  have b5 := cell_later hbb2 a5
  have b6 := cell_later hbb2 a6
  clear hbb2 hb2 a0 a1 a2 a3 a4 a5 a6
  go_wp2_with fail
  have hb4 := hb3.alloc hb3.size (.cells #[.int .i64 u.op, .int .i64 u.r, .int .i64 u.m, .int .i64 u.len, .int .i64 u.field, .int .i64 u.width, .int .i64 u.imm] 24)
  refine (HR.out _ hb4).mono ?_
  rintro e w3 ⟨rfl, hbb3⟩
  have hb5 : Below w.heap.size w w3 := hb4.trans (hbb3.mono hb4.size)
  have c0 : w3.cell? ⟨gb, 0, none⟩ = some (.int .i64 x.op) := cell_later hbb3 (icell_alloc _ b0)
  have c1 : w3.cell? ⟨gb, 1, none⟩ = some (.int .i64 x.r) := cell_later hbb3 (icell_alloc _ b1)
  have c2 : w3.cell? ⟨gb, 2, none⟩ = some (.int .i64 x.m) := cell_later hbb3 (icell_alloc _ b2)
  have c3 : w3.cell? ⟨gb, 3, none⟩ = some (.int .i64 x.len) := cell_later hbb3 (icell_alloc _ b3)
  have c4 : w3.cell? ⟨gb, 4, none⟩ = some (.int .i64 x.field) := cell_later hbb3 (icell_alloc _ b4)
  have c5 : w3.cell? ⟨gb, 5, none⟩ = some (.int .i64 x.width) := cell_later hbb3 (icell_alloc _ b5)
  have c6 : w3.cell? ⟨gb, 6, none⟩ = some (.int .i64 x.imm) := cell_later hbb3 (icell_alloc _ b6)
  have d0 : w3.cell? ⟨w2.heap.size, 0, none⟩ = some (.int .i64 u.op) := by rw [hbb3.cell (by simp)]; simp
  have d1 : w3.cell? ⟨w2.heap.size, 1, none⟩ = some (.int .i64 u.r) := by rw [hbb3.cell (by simp)]; simp
  have d2 : w3.cell? ⟨w2.heap.size, 2, none⟩ = some (.int .i64 u.m) := by rw [hbb3.cell (by simp)]; simp
  have d3 : w3.cell? ⟨w2.heap.size, 3, none⟩ = some (.int .i64 u.len) := by rw [hbb3.cell (by simp)]; simp
  have d4 : w3.cell? ⟨w2.heap.size, 4, none⟩ = some (.int .i64 u.field) := by rw [hbb3.cell (by simp)]; simp
  have d5 : w3.cell? ⟨w2.heap.size, 5, none⟩ = some (.int .i64 u.width) := by rw [hbb3.cell (by simp)]; simp
  have d6 : w3.cell? ⟨w2.heap.size, 6, none⟩ = some (.int .i64 u.imm) := by rw [hbb3.cell (by simp)]; simp
  obtain ⟨g1, hg1⟩ : ∃ g1, g1 = w2.heap.size := ⟨_, rfl⟩
  rw [← hg1] at d0 d1 d2 d3 d4 d5 d6 ⊢
  clear hbb3 hb4 hb3 hg1 b0 b1 b2 b3 b4 b5 b6
  go_upto_region 6 with fail
  have s0 := icell_alloc (.cells #[.int .i64 u.op, .int .i64 u.r, .int .i64 u.m, .int .i64 u.len, .int .i64 u.field, .int .i64 u.width, .int .i64 u.imm] 28) c0
  have s1 := icell_alloc (.cells #[.int .i64 u.op, .int .i64 u.r, .int .i64 u.m, .int .i64 u.len, .int .i64 u.field, .int .i64 u.width, .int .i64 u.imm] 28) c1
  have s2 := icell_alloc (.cells #[.int .i64 u.op, .int .i64 u.r, .int .i64 u.m, .int .i64 u.len, .int .i64 u.field, .int .i64 u.width, .int .i64 u.imm] 28) c2
  have s3 := icell_alloc (.cells #[.int .i64 u.op, .int .i64 u.r, .int .i64 u.m, .int .i64 u.len, .int .i64 u.field, .int .i64 u.width, .int .i64 u.imm] 28) c3
  have s4 := icell_alloc (.cells #[.int .i64 u.op, .int .i64 u.r, .int .i64 u.m, .int .i64 u.len, .int .i64 u.field, .int .i64 u.width, .int .i64 u.imm] 28) c4
  have s5 := icell_alloc (.cells #[.int .i64 u.op, .int .i64 u.r, .int .i64 u.m, .int .i64 u.len, .int .i64 u.field, .int .i64 u.width, .int .i64 u.imm] 28) c5
  have s6 := icell_alloc (.cells #[.int .i64 u.op, .int .i64 u.r, .int .i64 u.m, .int .i64 u.len, .int .i64 u.field, .int .i64 u.width, .int .i64 u.imm] 28) c6
  have s7 := icell_alloc (.cells #[.int .i64 u.op, .int .i64 u.r, .int .i64 u.m, .int .i64 u.len, .int .i64 u.field, .int .i64 u.width, .int .i64 u.imm] 28) d0
  have s8 := icell_alloc (.cells #[.int .i64 u.op, .int .i64 u.r, .int .i64 u.m, .int .i64 u.len, .int .i64 u.field, .int .i64 u.width, .int .i64 u.imm] 28) d1
  have s9 := icell_alloc (.cells #[.int .i64 u.op, .int .i64 u.r, .int .i64 u.m, .int .i64 u.len, .int .i64 u.field, .int .i64 u.width, .int .i64 u.imm] 28) d2
  have s10 := icell_alloc (.cells #[.int .i64 u.op, .int .i64 u.r, .int .i64 u.m, .int .i64 u.len, .int .i64 u.field, .int .i64 u.width, .int .i64 u.imm] 28) d3
  have s11 := icell_alloc (.cells #[.int .i64 u.op, .int .i64 u.r, .int .i64 u.m, .int .i64 u.len, .int .i64 u.field, .int .i64 u.width, .int .i64 u.imm] 28) d4
  have s12 := icell_alloc (.cells #[.int .i64 u.op, .int .i64 u.r, .int .i64 u.m, .int .i64 u.len, .int .i64 u.field, .int .i64 u.width, .int .i64 u.imm] 28) d5
  have s13 := icell_alloc (.cells #[.int .i64 u.op, .int .i64 u.r, .int .i64 u.m, .int .i64 u.len, .int .i64 u.field, .int .i64 u.width, .int .i64 u.imm] 28) d6
  have s14 : (w3.alloc (.cells #[.int .i64 u.op, .int .i64 u.r, .int .i64 u.m, .int .i64 u.len, .int .i64 u.field, .int .i64 u.width, .int .i64 u.imm] 28)).cell? ⟨w3.heap.size, 0, none⟩ = some (.int .i64 u.op) := by simp
  have s15 : (w3.alloc (.cells #[.int .i64 u.op, .int .i64 u.r, .int .i64 u.m, .int .i64 u.len, .int .i64 u.field, .int .i64 u.width, .int .i64 u.imm] 28)).cell? ⟨w3.heap.size, 1, none⟩ = some (.int .i64 u.r) := by simp
  have s16 : (w3.alloc (.cells #[.int .i64 u.op, .int .i64 u.r, .int .i64 u.m, .int .i64 u.len, .int .i64 u.field, .int .i64 u.width, .int .i64 u.imm] 28)).cell? ⟨w3.heap.size, 2, none⟩ = some (.int .i64 u.m) := by simp
  have s17 : (w3.alloc (.cells #[.int .i64 u.op, .int .i64 u.r, .int .i64 u.m, .int .i64 u.len, .int .i64 u.field, .int .i64 u.width, .int .i64 u.imm] 28)).cell? ⟨w3.heap.size, 3, none⟩ = some (.int .i64 u.len) := by simp
  have s18 : (w3.alloc (.cells #[.int .i64 u.op, .int .i64 u.r, .int .i64 u.m, .int .i64 u.len, .int .i64 u.field, .int .i64 u.width, .int .i64 u.imm] 28)).cell? ⟨w3.heap.size, 4, none⟩ = some (.int .i64 u.field) := by simp
  have s19 : (w3.alloc (.cells #[.int .i64 u.op, .int .i64 u.r, .int .i64 u.m, .int .i64 u.len, .int .i64 u.field, .int .i64 u.width, .int .i64 u.imm] 28)).cell? ⟨w3.heap.size, 5, none⟩ = some (.int .i64 u.width) := by simp
  have s20 : (w3.alloc (.cells #[.int .i64 u.op, .int .i64 u.r, .int .i64 u.m, .int .i64 u.len, .int .i64 u.field, .int .i64 u.width, .int .i64 u.imm] 28)).cell? ⟨w3.heap.size, 6, none⟩ = some (.int .i64 u.imm) := by simp
  have hb6 := hb5.alloc hb5.size (.cells #[.int .i64 u.op, .int .i64 u.r, .int .i64 u.m, .int .i64 u.len, .int .i64 u.field, .int .i64 u.width, .int .i64 u.imm] 28)
  generalize w3.alloc (.cells #[.int .i64 u.op, .int .i64 u.r, .int .i64 u.m, .int .i64 u.len, .int .i64 u.field, .int .i64 u.width, .int .i64 u.imm] 28) = W0 at *
  obtain ⟨g2, hg2⟩ : ∃ g2, g2 = w3.heap.size := ⟨_, rfl⟩
  rw [← hg2] at s14 s15 s16 s17 s18 s19 s20 ⊢
  clear hg2 hb5 c0 c1 c2 c3 c4 c5 c6 d0 d1 d2 d3 d4 d5 d6
  go_region_held (fun W => W.cell? ⟨gb, 0, none⟩ = some (.int .i64 x.op) ∧ W.cell? ⟨gb, 1, none⟩ = some (.int .i64 x.r) ∧ W.cell? ⟨gb, 2, none⟩ = some (.int .i64 x.m) ∧ W.cell? ⟨gb, 3, none⟩ = some (.int .i64 x.len) ∧ W.cell? ⟨gb, 4, none⟩ = some (.int .i64 x.field) ∧ W.cell? ⟨gb, 5, none⟩ = some (.int .i64 x.width) ∧ W.cell? ⟨gb, 6, none⟩ = some (.int .i64 x.imm) ∧ W.cell? ⟨g1, 0, none⟩ = some (.int .i64 u.op) ∧ W.cell? ⟨g1, 1, none⟩ = some (.int .i64 u.r) ∧ W.cell? ⟨g1, 2, none⟩ = some (.int .i64 u.m) ∧ W.cell? ⟨g1, 3, none⟩ = some (.int .i64 u.len) ∧ W.cell? ⟨g1, 4, none⟩ = some (.int .i64 u.field) ∧ W.cell? ⟨g1, 5, none⟩ = some (.int .i64 u.width) ∧ W.cell? ⟨g1, 6, none⟩ = some (.int .i64 u.imm) ∧ W.cell? ⟨g2, 0, none⟩ = some (.int .i64 u.op) ∧ W.cell? ⟨g2, 1, none⟩ = some (.int .i64 u.r) ∧ W.cell? ⟨g2, 2, none⟩ = some (.int .i64 u.m) ∧ W.cell? ⟨g2, 3, none⟩ = some (.int .i64 u.len) ∧ W.cell? ⟨g2, 4, none⟩ = some (.int .i64 u.field) ∧ W.cell? ⟨g2, 5, none⟩ = some (.int .i64 u.width) ∧ W.cell? ⟨g2, 6, none⟩ = some (.int .i64 u.imm))
    (first | go_keep | exact ⟨s0, s1, s2, s3, s4, s5, s6, s7, s8, s9, s10, s11, s12, s13, s14, s15, s16, s17, s18, s19, s20⟩ | exact ⟨x0, x1, x2, x3, x4, x5, x6, x7, x8, x9, x10, x11, x12, x13, x14, x15, x16, x17, x18, x19, x20⟩ | exact ⟨y0, y1, y2, y3, y4, y5, y6, y7, y8, y9, y10, y11, y12, y13, y14, y15, y16, y17, y18, y19, y20⟩ | exact ⟨z0, z1, z2, z3, z4, z5, z6, z7, z8, z9, z10, z11, z12, z13, z14, z15, z16, z17, z18, z19, z20⟩ | exact ⟨v0, v1, v2, v3, v4, v5, v6, v7, v8, v9, v10, v11, v12, v13, v14, v15, v16, v17, v18, v19, v20⟩ | fail)
    ((first
      | (go_at_call 8
         (with_reducible refine (HLu.out _).mono ?_)
         rintro e w4 ⟨rfl, hbb4⟩
         have hb7 : Below w.heap.size w w4 := hb6.drew.trans (hbb4.mono (by exact hb6.size))
         have x0 := cell_later hbb4 s0
         have x1 := cell_later hbb4 s1
         have x2 := cell_later hbb4 s2
         have x3 := cell_later hbb4 s3
         have x4 := cell_later hbb4 s4
         have x5 := cell_later hbb4 s5
         have x6 := cell_later hbb4 s6
         have x7 := cell_later hbb4 s7
         have x8 := cell_later hbb4 s8
         have x9 := cell_later hbb4 s9
         have x10 := cell_later hbb4 s10
         have x11 := cell_later hbb4 s11
         have x12 := cell_later hbb4 s12
         have x13 := cell_later hbb4 s13
         have x14 := cell_later hbb4 s14
         have x15 := cell_later hbb4 s15
         have x16 := cell_later hbb4 s16
         have x17 := cell_later hbb4 s17
         have x18 := cell_later hbb4 s18
         have x19 := cell_later hbb4 s19
         have x20 := cell_later hbb4 s20
         clear hbb4)
      | (go_at_call 9
         refine (HP.out _ hb7).mono ?_
         rintro e w5 ⟨pc, cc, Nc, rfl, hcc, hNc, hbc⟩
         have hb8 : Below w.heap.size w w5 := hb7.trans (hbc.mono hb7.size)
         have y0 := cell_later hbc x0
         have y1 := cell_later hbc x1
         have y2 := cell_later hbc x2
         have y3 := cell_later hbc x3
         have y4 := cell_later hbc x4
         have y5 := cell_later hbc x5
         have y6 := cell_later hbc x6
         have y7 := cell_later hbc x7
         have y8 := cell_later hbc x8
         have y9 := cell_later hbc x9
         have y10 := cell_later hbc x10
         have y11 := cell_later hbc x11
         have y12 := cell_later hbc x12
         have y13 := cell_later hbc x13
         have y14 := cell_later hbc x14
         have y15 := cell_later hbc x15
         have y16 := cell_later hbc x16
         have y17 := cell_later hbc x17
         have y18 := cell_later hbc x18
         have y19 := cell_later hbc x19
         have y20 := cell_later hbc x20
         have hrc := Below.refl Nc w5
         have HNc := Lib.hid hNc
         clear hNc hbc)
      | (go_at_call 8
         (with_reducible refine (HLt.out _).mono ?_)
         rintro e w6 ⟨rfl, hbb6⟩
         have hb9 : Below w.heap.size w w6 := hb8.trans (hbb6.mono hb8.size)
         have z0 := cell_later hbb6 y0
         have z1 := cell_later hbb6 y1
         have z2 := cell_later hbb6 y2
         have z3 := cell_later hbb6 y3
         have z4 := cell_later hbb6 y4
         have z5 := cell_later hbb6 y5
         have z6 := cell_later hbb6 y6
         have z7 := cell_later hbb6 y7
         have z8 := cell_later hbb6 y8
         have z9 := cell_later hbb6 y9
         have z10 := cell_later hbb6 y10
         have z11 := cell_later hbb6 y11
         have z12 := cell_later hbb6 y12
         have z13 := cell_later hbb6 y13
         have z14 := cell_later hbb6 y14
         have z15 := cell_later hbb6 y15
         have z16 := cell_later hbb6 y16
         have z17 := cell_later hbb6 y17
         have z18 := cell_later hbb6 y18
         have z19 := cell_later hbb6 y19
         have z20 := cell_later hbb6 y20
         have hrd : Below Nc w5 w6 := (by rw [HNc.out]; exact hbb6)
         clear hbb6)
      | (go_at_call 10
         refine (HRP.out _).mono ?_
         rintro e w7 ⟨pd, cd, Nd, rfl, hcd, hNd, hbd⟩
         have hb10 : Below w.heap.size w w7 := hb9.trans (hbd.mono hb9.size)
         have v0 := cell_later hbd z0
         have v1 := cell_later hbd z1
         have v2 := cell_later hbd z2
         have v3 := cell_later hbd z3
         have v4 := cell_later hbd z4
         have v5 := cell_later hbd z5
         have v6 := cell_later hbd z6
         have v7 := cell_later hbd z7
         have v8 := cell_later hbd z8
         have v9 := cell_later hbd z9
         have v10 := cell_later hbd z10
         have v11 := cell_later hbd z11
         have v12 := cell_later hbd z12
         have v13 := cell_later hbd z13
         have v14 := cell_later hbd z14
         have v15 := cell_later hbd z15
         have v16 := cell_later hbd z16
         have v17 := cell_later hbd z17
         have v18 := cell_later hbd z18
         have v19 := cell_later hbd z19
         have v20 := cell_later hbd z20
         have hre : Below Nc w5 w7 := hrd.trans (hbd.mono (by rw [HNc.out]; exact hrd.size))
         have hrf := Below.refl Nd w7
         clear hNd hbd)
      | fail))
  all_goals
    go_wp2_with fail
    go_ret
    exact ⟨rfl, hb10⟩

end Go.Proofs.YtbedbkifdhjdfaaDoor
