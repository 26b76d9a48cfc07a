/-
  The walk of SymTells: sym and its reference tell the same.
-/
import Derived.Test.YtonlbhojepofcaaYUp
import Derived.Deep.RegionHeld
import Derived.Deep.DeepCutAuto
namespace Go.Proofs.Ytonlbhojepofcaa
open Go.RowKit

/-- What Put tells. -/
def yputB (t : Six) : List UInt8 := if t.may then entB t else []
theorem yPut_str (hput : YPutOK) (t : Six) (w : World) : Calls Try.prog 24 #[t.v] w (Str (yputB t).length (yputB t) w) := by
  by_cases h : t.may
  · have e : yputB t = entB t := by simp only [yputB, if_pos h]
    rw [e]
    exact ((hput t w).1 h).mono fun _ _ x => x.toH.toStr
  · have e : yputB t = [] := by simp only [yputB, if_neg h]
    rw [e]
    exact ((hput t w).2 h).mono fun _ _ x => x.toStr
theorem entryBytes_str (t : Six) (w : World) : Calls Try.prog 25 #[t.v] w (Str (yputB t).length (yputB t) w) := by
  by_cases h : t.may
  · have e : yputB t = entB t := by simp only [yputB, if_pos h]
    rw [e]
    exact (entryBytes_yes t w h).mono fun _ _ x => x.toH.toStr
  · have e : yputB t = [] := by simp only [yputB, if_neg h]
    rw [e]
    exact (entryBytes_no t w h).mono fun _ _ x => x.toStr
theorem cell_alloc {w : World} {a : Addr} {v : Value} (o : Obj) (h : w.cell? a = some v) : (w.alloc o).cell? a = some v := cell_later ((Below.refl _ w).alloc (Nat.le_refl _) o) h
theorem symV_form (o : Option Six) : ∃ (u : Six) (ok : Bool), symV o = (u.v, ok) := by
  cases o with
  | none => exact ⟨six0, false, rfl⟩
  | some t => exact ⟨t, true, rfl⟩

set_option maxRecDepth 100000 in
set_option maxHeartbeats 4000000 in
theorem ytells_walk (hget : YGetOK) (hput : YPutOK) (p : Option Addr) (len cap : Nat) (l : List UInt8) (at_ : Int) (t : Six) (w : World) (h : Has w p l) (hlen : l.length = len) (hcap : len ≤ cap) (hm : cap ≤ maxLen) (ha0 : -9223372036854775808 ≤ at_) (ha1 : at_ ≤ 9223372036854775807) :
    Calls Try.prog 7 #[.slice p len cap, .int .i64 at_, t.v] w fun e w' => e = .returned (.bool true) ∧ Below w.heap.size w w' := by
  have HUP := Lib.hid fun W => yup_any hget hput W
  have hb0 : Below w.heap.size w (w.alloc (.cells #[.int .i64 t.a, .int .i64 t.b, .int .i64 t.c, .int .i64 t.d, .int .i64 t.e, .int .i64 t.f] 46)) := (Below.refl _ w).alloc (Nat.le_refl _) _
  by_cases hbig : 10000 < len
  · have hI : (10000 : Int) < (len : Int) := by omega
    clear h hlen hget hput
    go_enter Try.func7, Try.ntmps7
    go_wp2_with fail
    refine (HUP.out _).mono ?_
    rintro e w1 ⟨rfl, hb1⟩
    have hb2 : Below w.heap.size w w1 := hb0.trans (hb1.mono (by simp))
    go_wp2_with fail
    go_ret
    exact ⟨rfl, hb2⟩
  have hI : ¬ (10000 : Int) < (len : Int) := by omega
  obtain ⟨u, ok, hu⟩ := symV_form (symAt l at_)
  have HG := Lib.hid fun W (hb : Below w.heap.size w W) => hget p len cap l at_ W (h.below hb) hlen hcap hm (by omega) ha0 ha1
  have HR := Lib.hid fun W (hb : Below w.heap.size w W) => symbol_any p len cap l at_ W (h.below hb) hlen hcap (by omega) ha1
  rw [hu] at HG HR
  simp only at HG HR
  have HP := Lib.hid fun W => yPut_str hput t W
  have HRP := Lib.hid fun W => entryBytes_str t W
  have HLu := Lib.hid fun W => likeY_any u W
  have HLt := Lib.hid fun W => likeY_any t W
  generalize yputB t = put at HP HRP
  have hok : (ok == ok) = true := by simp
  clear h hlen hu hbig hget hput
  go_enter Try.func7, Try.ntmps7
  go_wp2_with fail
  refine (HUP.out _).mono ?_
  rintro e w1 ⟨rfl, hb1⟩
  have a0 : w1.cell? ⟨w.heap.size, 0, none⟩ = some (.int .i64 t.a) := by rw [hb1.cell (by simp)]; simp
  have a1 : w1.cell? ⟨w.heap.size, 1, none⟩ = some (.int .i64 t.b) := by rw [hb1.cell (by simp)]; simp
  have a2 : w1.cell? ⟨w.heap.size, 2, none⟩ = some (.int .i64 t.c) := by rw [hb1.cell (by simp)]; simp
  have a3 : w1.cell? ⟨w.heap.size, 3, none⟩ = some (.int .i64 t.d) := by rw [hb1.cell (by simp)]; simp
  have a4 : w1.cell? ⟨w.heap.size, 4, none⟩ = some (.int .i64 t.e) := by rw [hb1.cell (by simp)]; simp
  have a5 : w1.cell? ⟨w.heap.size, 5, none⟩ = some (.int .i64 t.f) := by rw [hb1.cell (by simp)]; simp
  have hb2 : Below w.heap.size w w1 := hb0.trans (hb1.mono (by simp))
  obtain ⟨gb, hgb⟩ : ∃ gb, gb = w.heap.size := ⟨_, rfl⟩
  rw [← hgb] at a0 a1 a2 a3 a4 a5 ⊢
  clear hb1 hb0 hgb
  go_wp2_with fail
  refine (HG.out _ hb2).mono ?_
  rintro e w2 ⟨rfl, hbb2⟩
  have hb3 : Below w.heap.size w w2 := hb2.trans (hbb2.mono hb2.size)
  have b0 := cell_later hbb2 a0
  have b1 := cell_later hbb2 a1
  have b2 := cell_later hbb2 a2
  have b3 := cell_later hbb2 a3
  have b4 := cell_later hbb2 a4
  have b5 := cell_later hbb2 a5
  clear hbb2 hb2 a0 a1 a2 a3 a4 a5
  go_wp2_with fail
  have hb4 := hb3.alloc hb3.size (.cells #[.int .i64 u.a, .int .i64 u.b, .int .i64 u.c, .int .i64 u.d, .int .i64 u.e, .int .i64 u.f] 46)
  refine (HR.out _ hb4).mono ?_
  rintro e w3 ⟨rfl, hbb3⟩
  have hb5 : Below w.heap.size w w3 := hb4.trans (hbb3.mono hb4.size)
  have c0 : w3.cell? ⟨gb, 0, none⟩ = some (.int .i64 t.a) := cell_later hbb3 (cell_alloc _ b0)
  have c1 : w3.cell? ⟨gb, 1, none⟩ = some (.int .i64 t.b) := cell_later hbb3 (cell_alloc _ b1)
  have c2 : w3.cell? ⟨gb, 2, none⟩ = some (.int .i64 t.c) := cell_later hbb3 (cell_alloc _ b2)
  have c3 : w3.cell? ⟨gb, 3, none⟩ = some (.int .i64 t.d) := cell_later hbb3 (cell_alloc _ b3)
  have c4 : w3.cell? ⟨gb, 4, none⟩ = some (.int .i64 t.e) := cell_later hbb3 (cell_alloc _ b4)
  have c5 : w3.cell? ⟨gb, 5, none⟩ = some (.int .i64 t.f) := cell_later hbb3 (cell_alloc _ b5)
  have d0 : w3.cell? ⟨w2.heap.size, 0, none⟩ = some (.int .i64 u.a) := by rw [hbb3.cell (by simp)]; simp
  have d1 : w3.cell? ⟨w2.heap.size, 1, none⟩ = some (.int .i64 u.b) := by rw [hbb3.cell (by simp)]; simp
  have d2 : w3.cell? ⟨w2.heap.size, 2, none⟩ = some (.int .i64 u.c) := by rw [hbb3.cell (by simp)]; simp
  have d3 : w3.cell? ⟨w2.heap.size, 3, none⟩ = some (.int .i64 u.d) := by rw [hbb3.cell (by simp)]; simp
  have d4 : w3.cell? ⟨w2.heap.size, 4, none⟩ = some (.int .i64 u.e) := by rw [hbb3.cell (by simp)]; simp
  have d5 : w3.cell? ⟨w2.heap.size, 5, none⟩ = some (.int .i64 u.f) := by rw [hbb3.cell (by simp)]; simp
  obtain ⟨g1, hg1⟩ : ∃ g1, g1 = w2.heap.size := ⟨_, rfl⟩
  rw [← hg1] at d0 d1 d2 d3 d4 d5 ⊢
  clear hbb3 hb4 hb3 hg1 b0 b1 b2 b3 b4 b5
  go_upto_region 6 with fail
  have s0 := cell_alloc (.cells #[.int .i64 u.a, .int .i64 u.b, .int .i64 u.c, .int .i64 u.d, .int .i64 u.e, .int .i64 u.f] 49) c0
  have s1 := cell_alloc (.cells #[.int .i64 u.a, .int .i64 u.b, .int .i64 u.c, .int .i64 u.d, .int .i64 u.e, .int .i64 u.f] 49) c1
  have s2 := cell_alloc (.cells #[.int .i64 u.a, .int .i64 u.b, .int .i64 u.c, .int .i64 u.d, .int .i64 u.e, .int .i64 u.f] 49) c2
  have s3 := cell_alloc (.cells #[.int .i64 u.a, .int .i64 u.b, .int .i64 u.c, .int .i64 u.d, .int .i64 u.e, .int .i64 u.f] 49) c3
  have s4 := cell_alloc (.cells #[.int .i64 u.a, .int .i64 u.b, .int .i64 u.c, .int .i64 u.d, .int .i64 u.e, .int .i64 u.f] 49) c4
  have s5 := cell_alloc (.cells #[.int .i64 u.a, .int .i64 u.b, .int .i64 u.c, .int .i64 u.d, .int .i64 u.e, .int .i64 u.f] 49) c5
  have s10 := cell_alloc (.cells #[.int .i64 u.a, .int .i64 u.b, .int .i64 u.c, .int .i64 u.d, .int .i64 u.e, .int .i64 u.f] 49) d0
  have s11 := cell_alloc (.cells #[.int .i64 u.a, .int .i64 u.b, .int .i64 u.c, .int .i64 u.d, .int .i64 u.e, .int .i64 u.f] 49) d1
  have s12 := cell_alloc (.cells #[.int .i64 u.a, .int .i64 u.b, .int .i64 u.c, .int .i64 u.d, .int .i64 u.e, .int .i64 u.f] 49) d2
  have s13 := cell_alloc (.cells #[.int .i64 u.a, .int .i64 u.b, .int .i64 u.c, .int .i64 u.d, .int .i64 u.e, .int .i64 u.f] 49) d3
  have s14 := cell_alloc (.cells #[.int .i64 u.a, .int .i64 u.b, .int .i64 u.c, .int .i64 u.d, .int .i64 u.e, .int .i64 u.f] 49) d4
  have s15 := cell_alloc (.cells #[.int .i64 u.a, .int .i64 u.b, .int .i64 u.c, .int .i64 u.d, .int .i64 u.e, .int .i64 u.f] 49) d5
  have s20 : (w3.alloc (.cells #[.int .i64 u.a, .int .i64 u.b, .int .i64 u.c, .int .i64 u.d, .int .i64 u.e, .int .i64 u.f] 49)).cell? ⟨w3.heap.size, 0, none⟩ = some (.int .i64 u.a) := by simp
  have s21 : (w3.alloc (.cells #[.int .i64 u.a, .int .i64 u.b, .int .i64 u.c, .int .i64 u.d, .int .i64 u.e, .int .i64 u.f] 49)).cell? ⟨w3.heap.size, 1, none⟩ = some (.int .i64 u.b) := by simp
  have s22 : (w3.alloc (.cells #[.int .i64 u.a, .int .i64 u.b, .int .i64 u.c, .int .i64 u.d, .int .i64 u.e, .int .i64 u.f] 49)).cell? ⟨w3.heap.size, 2, none⟩ = some (.int .i64 u.c) := by simp
  have s23 : (w3.alloc (.cells #[.int .i64 u.a, .int .i64 u.b, .int .i64 u.c, .int .i64 u.d, .int .i64 u.e, .int .i64 u.f] 49)).cell? ⟨w3.heap.size, 3, none⟩ = some (.int .i64 u.d) := by simp
  have s24 : (w3.alloc (.cells #[.int .i64 u.a, .int .i64 u.b, .int .i64 u.c, .int .i64 u.d, .int .i64 u.e, .int .i64 u.f] 49)).cell? ⟨w3.heap.size, 4, none⟩ = some (.int .i64 u.e) := by simp
  have s25 : (w3.alloc (.cells #[.int .i64 u.a, .int .i64 u.b, .int .i64 u.c, .int .i64 u.d, .int .i64 u.e, .int .i64 u.f] 49)).cell? ⟨w3.heap.size, 5, none⟩ = some (.int .i64 u.f) := by simp
  have hb6 := hb5.alloc hb5.size (.cells #[.int .i64 u.a, .int .i64 u.b, .int .i64 u.c, .int .i64 u.d, .int .i64 u.e, .int .i64 u.f] 49)
  generalize w3.alloc (.cells #[.int .i64 u.a, .int .i64 u.b, .int .i64 u.c, .int .i64 u.d, .int .i64 u.e, .int .i64 u.f] 49) = W0 at *
  obtain ⟨g2, hg2⟩ : ∃ g2, g2 = w3.heap.size := ⟨_, rfl⟩
  rw [← hg2] at s20 s21 s22 s23 s24 s25 ⊢
  clear hg2 hb5 c0 c1 c2 c3 c4 c5 d0 d1 d2 d3 d4 d5
  go_region_held (fun W => W.cell? ⟨gb, 0, none⟩ = some (.int .i64 t.a) ∧ W.cell? ⟨gb, 1, none⟩ = some (.int .i64 t.b) ∧ W.cell? ⟨gb, 2, none⟩ = some (.int .i64 t.c) ∧ W.cell? ⟨gb, 3, none⟩ = some (.int .i64 t.d) ∧ W.cell? ⟨gb, 4, none⟩ = some (.int .i64 t.e) ∧ W.cell? ⟨gb, 5, none⟩ = some (.int .i64 t.f) ∧ W.cell? ⟨g1, 0, none⟩ = some (.int .i64 u.a) ∧ W.cell? ⟨g1, 1, none⟩ = some (.int .i64 u.b) ∧ W.cell? ⟨g1, 2, none⟩ = some (.int .i64 u.c) ∧ W.cell? ⟨g1, 3, none⟩ = some (.int .i64 u.d) ∧ W.cell? ⟨g1, 4, none⟩ = some (.int .i64 u.e) ∧ W.cell? ⟨g1, 5, none⟩ = some (.int .i64 u.f) ∧ W.cell? ⟨g2, 0, none⟩ = some (.int .i64 u.a) ∧ W.cell? ⟨g2, 1, none⟩ = some (.int .i64 u.b) ∧ W.cell? ⟨g2, 2, none⟩ = some (.int .i64 u.c) ∧ W.cell? ⟨g2, 3, none⟩ = some (.int .i64 u.d) ∧ W.cell? ⟨g2, 4, none⟩ = some (.int .i64 u.e) ∧ W.cell? ⟨g2, 5, none⟩ = some (.int .i64 u.f))
    (first | go_keep | exact ⟨s0, s1, s2, s3, s4, s5, s10, s11, s12, s13, s14, s15, s20, s21, s22, s23, s24, s25⟩ | exact ⟨x0, x1, x2, x3, x4, x5, x10, x11, x12, x13, x14, x15, x20, x21, x22, x23, x24, x25⟩ | exact ⟨y0, y1, y2, y3, y4, y5, y10, y11, y12, y13, y14, y15, y20, y21, y22, y23, y24, y25⟩ | exact ⟨z0, z1, z2, z3, z4, z5, z10, z11, z12, z13, z14, z15, z20, z21, z22, z23, z24, z25⟩ | exact ⟨v0, v1, v2, v3, v4, v5, v10, v11, v12, v13, v14, v15, v20, v21, v22, v23, v24, v25⟩ | fail)
    ((first
      | (go_at_call 23
         (with_reducible refine (HLu.out _).mono ?_)
         rintro e w4 ⟨rfl, hbb4⟩
         have hb7 : Below w.heap.size w w4 := hb6.drew.trans (hbb4.mono (by exact hb6.size))
         have x0 := cell_later hbb4 s0
         have x1 := cell_later hbb4 s1
         have x2 := cell_later hbb4 s2
         have x3 := cell_later hbb4 s3
         have x4 := cell_later hbb4 s4
         have x5 := cell_later hbb4 s5
         have x10 := cell_later hbb4 s10
         have x11 := cell_later hbb4 s11
         have x12 := cell_later hbb4 s12
         have x13 := cell_later hbb4 s13
         have x14 := cell_later hbb4 s14
         have x15 := cell_later hbb4 s15
         have x20 := cell_later hbb4 s20
         have x21 := cell_later hbb4 s21
         have x22 := cell_later hbb4 s22
         have x23 := cell_later hbb4 s23
         have x24 := cell_later hbb4 s24
         have x25 := cell_later hbb4 s25
         clear hbb4)
      | (go_at_call 24
         refine (HP.out _).mono ?_
         rintro e w5 ⟨pc, cc, Nc, rfl, hcc, hNc, hbc⟩
         have hb8 : Below w.heap.size w w5 := hb7.trans (hbc.mono hb7.size)
         have y0 := cell_later hbc x0
         have y1 := cell_later hbc x1
         have y2 := cell_later hbc x2
         have y3 := cell_later hbc x3
         have y4 := cell_later hbc x4
         have y5 := cell_later hbc x5
         have y10 := cell_later hbc x10
         have y11 := cell_later hbc x11
         have y12 := cell_later hbc x12
         have y13 := cell_later hbc x13
         have y14 := cell_later hbc x14
         have y15 := cell_later hbc x15
         have y20 := cell_later hbc x20
         have y21 := cell_later hbc x21
         have y22 := cell_later hbc x22
         have y23 := cell_later hbc x23
         have y24 := cell_later hbc x24
         have y25 := cell_later hbc x25
         have hrc := Below.refl Nc w5
         have HNc := Lib.hid hNc
         clear hNc hbc)
      | (go_at_call 23
         (with_reducible refine (HLt.out _).mono ?_)
         rintro e w6 ⟨rfl, hbb6⟩
         have hb9 : Below w.heap.size w w6 := hb8.trans (hbb6.mono hb8.size)
         have z0 := cell_later hbb6 y0
         have z1 := cell_later hbb6 y1
         have z2 := cell_later hbb6 y2
         have z3 := cell_later hbb6 y3
         have z4 := cell_later hbb6 y4
         have z5 := cell_later hbb6 y5
         have z10 := cell_later hbb6 y10
         have z11 := cell_later hbb6 y11
         have z12 := cell_later hbb6 y12
         have z13 := cell_later hbb6 y13
         have z14 := cell_later hbb6 y14
         have z15 := cell_later hbb6 y15
         have z20 := cell_later hbb6 y20
         have z21 := cell_later hbb6 y21
         have z22 := cell_later hbb6 y22
         have z23 := cell_later hbb6 y23
         have z24 := cell_later hbb6 y24
         have z25 := cell_later hbb6 y25
         have hrd : Below Nc w5 w6 := (by rw [HNc.out]; exact hbb6)
         clear hbb6)
      | (go_at_call 25
         refine (HRP.out _).mono ?_
         rintro e w7 ⟨pd, cd, Nd, rfl, hcd, hNd, hbd⟩
         have hb10 : Below w.heap.size w w7 := hb9.trans (hbd.mono hb9.size)
         have v0 := cell_later hbd z0
         have v1 := cell_later hbd z1
         have v2 := cell_later hbd z2
         have v3 := cell_later hbd z3
         have v4 := cell_later hbd z4
         have v5 := cell_later hbd z5
         have v10 := cell_later hbd z10
         have v11 := cell_later hbd z11
         have v12 := cell_later hbd z12
         have v13 := cell_later hbd z13
         have v14 := cell_later hbd z14
         have v15 := cell_later hbd z15
         have v20 := cell_later hbd z20
         have v21 := cell_later hbd z21
         have v22 := cell_later hbd z22
         have v23 := cell_later hbd z23
         have v24 := cell_later hbd z24
         have v25 := cell_later hbd z25
         have hre : Below Nc w5 w7 := hrd.trans (hbd.mono (by rw [HNc.out]; exact hrd.size))
         have hrf := Below.refl Nd w7
         clear hNd hbd)
      | fail))
  all_goals
    go_wp2_with fail
    go_ret
    exact ⟨rfl, hb10⟩

end Go.Proofs.Ytonlbhojepofcaa
