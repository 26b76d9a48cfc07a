/-
  The walk of ShdrTells: shdr and its reference tell the same.
-/
import Derived.Test.YtaajihmchealnaaTUp
import Derived.Deep.RegionHeld
import Derived.Deep.DeepCutAuto
namespace Go.Proofs.Ytaajihmchealnaa
open Go.RowKit

/-- What Put tells. -/
def tputB (t : Ten) : List UInt8 := if t.may then sectB t else []
theorem tPut_str (hput : TPutOK) (t : Ten) (w : World) : Calls Try.prog 16 #[t.v] w (Str (tputB t).length (tputB t) w) := by
  by_cases h : t.may
  · have e : tputB t = sectB t := by simp only [tputB, if_pos h]
    rw [e]
    exact ((hput t w).1 h).mono fun _ _ x => x.toH.toStr
  · have e : tputB t = [] := by simp only [tputB, if_neg h]
    rw [e]
    exact ((hput t w).2 h).mono fun _ _ x => x.toStr
theorem headBytes_str (t : Ten) (w : World) : Calls Try.prog 17 #[t.v] w (Str (tputB t).length (tputB t) w) := by
  by_cases h : t.may
  · have e : tputB t = sectB t := by simp only [tputB, if_pos h]
    rw [e]
    exact (headBytes_yes t w h).mono fun _ _ x => x.toH.toStr
  · have e : tputB t = [] := by simp only [tputB, if_neg h]
    rw [e]
    exact (headBytes_no t w h).mono fun _ _ x => x.toStr
theorem cell_alloc {w : World} {a : Addr} {v : Value} (o : Obj) (h : w.cell? a = some v) : (w.alloc o).cell? a = some v := cell_later ((Below.refl _ w).alloc (Nat.le_refl _) o) h
theorem sectV_form (o : Option Ten) : ∃ (u : Ten) (ok : Bool), sectV o = (u.v, ok) := by
  cases o with
  | none => exact ⟨ten0, false, rfl⟩
  | some t => exact ⟨t, true, rfl⟩

set_option maxRecDepth 100000 in
set_option maxHeartbeats 4000000 in
theorem ttells_walk (hget : TGetOK) (hput : TPutOK) (p : Option Addr) (len cap : Nat) (l : List UInt8) (at_ : Int) (t : Ten) (w : World) (h : Has w p l) (hlen : l.length = len) (hcap : len ≤ cap) (hm : cap ≤ maxLen) (ha0 : -9223372036854775808 ≤ at_) (ha1 : at_ ≤ 9223372036854775807) :
    Calls Try.prog 5 #[.slice p len cap, .int .i64 at_, t.v] w fun e w' => e = .returned (.bool true) ∧ Below w.heap.size w w' := by
  have HUP := Lib.hid fun W => tup_any hget hput W
  have hb0 : Below w.heap.size w (w.alloc (.cells #[.int .i64 t.a, .int .i64 t.b, .int .i64 t.c, .int .i64 t.d, .int .i64 t.e, .int .i64 t.f, .int .i64 t.g, .int .i64 t.h, .int .i64 t.i, .int .i64 t.j] 35)) := (Below.refl _ w).alloc (Nat.le_refl _) _
  by_cases hbig : 10000 < len
  · have hI : (10000 : Int) < (len : Int) := by omega
    clear h hlen hget hput
    go_enter Try.func5, Try.ntmps5
    go_wp2_with fail
    refine (HUP.out _).mono ?_
    rintro e w1 ⟨rfl, hb1⟩
    have hb2 : Below w.heap.size w w1 := hb0.trans (hb1.mono (by simp))
    go_wp2_with fail
    go_ret
    exact ⟨rfl, hb2⟩
  have hI : ¬ (10000 : Int) < (len : Int) := by omega
  obtain ⟨u, ok, hu⟩ := sectV_form (sectAt l at_)
  have HG := Lib.hid fun W (hb : Below w.heap.size w W) => hget p len cap l at_ W (h.below hb) hlen hcap hm (by omega) ha0 ha1
  have HR := Lib.hid fun W (hb : Below w.heap.size w W) => section_any p len cap l at_ W (h.below hb) hlen hcap (by omega) ha1
  rw [hu] at HG HR
  simp only at HG HR
  have HP := Lib.hid fun W => tPut_str hput t W
  have HRP := Lib.hid fun W => headBytes_str t W
  have HLu := Lib.hid fun W => like_any u W
  have HLt := Lib.hid fun W => like_any t W
  generalize tputB t = put at HP HRP
  have hok : (ok == ok) = true := by simp
  clear h hlen hu hbig hget hput
  go_enter Try.func5, Try.ntmps5
  go_wp2_with fail
  refine (HUP.out _).mono ?_
  rintro e w1 ⟨rfl, hb1⟩
  have a0 : w1.cell? ⟨w.heap.size, 0, none⟩ = some (.int .i64 t.a) := by rw [hb1.cell (by simp)]; simp
  have a1 : w1.cell? ⟨w.heap.size, 1, none⟩ = some (.int .i64 t.b) := by rw [hb1.cell (by simp)]; simp
  have a2 : w1.cell? ⟨w.heap.size, 2, none⟩ = some (.int .i64 t.c) := by rw [hb1.cell (by simp)]; simp
  have a3 : w1.cell? ⟨w.heap.size, 3, none⟩ = some (.int .i64 t.d) := by rw [hb1.cell (by simp)]; simp
  have a4 : w1.cell? ⟨w.heap.size, 4, none⟩ = some (.int .i64 t.e) := by rw [hb1.cell (by simp)]; simp
  have a5 : w1.cell? ⟨w.heap.size, 5, none⟩ = some (.int .i64 t.f) := by rw [hb1.cell (by simp)]; simp
  have a6 : w1.cell? ⟨w.heap.size, 6, none⟩ = some (.int .i64 t.g) := by rw [hb1.cell (by simp)]; simp
  have a7 : w1.cell? ⟨w.heap.size, 7, none⟩ = some (.int .i64 t.h) := by rw [hb1.cell (by simp)]; simp
  have a8 : w1.cell? ⟨w.heap.size, 8, none⟩ = some (.int .i64 t.i) := by rw [hb1.cell (by simp)]; simp
  have a9 : w1.cell? ⟨w.heap.size, 9, none⟩ = some (.int .i64 t.j) := by rw [hb1.cell (by simp)]; simp
  have hb2 : Below w.heap.size w w1 := hb0.trans (hb1.mono (by simp))
  obtain ⟨gb, hgb⟩ : ∃ gb, gb = w.heap.size := ⟨_, rfl⟩
  rw [← hgb] at a0 a1 a2 a3 a4 a5 a6 a7 a8 a9 ⊢
  clear hb1 hb0 hgb
  go_wp2_with fail
  refine (HG.out _ hb2).mono ?_
  rintro e w2 ⟨rfl, hbb2⟩
  have hb3 : Below w.heap.size w w2 := hb2.trans (hbb2.mono hb2.size)
  have b0 := cell_later hbb2 a0
  have b1 := cell_later hbb2 a1
  have b2 := cell_later hbb2 a2
  have b3 := cell_later hbb2 a3
  have b4 := cell_later hbb2 a4
  have b5 := cell_later hbb2 a5
  have b6 := cell_later hbb2 a6
  have b7 := cell_later hbb2 a7
  have b8 := cell_later hbb2 a8
  have b9 := cell_later hbb2 a9
  clear hbb2 hb2 a0 a1 a2 a3 a4 a5 a6 a7 a8 a9
  go_wp2_with fail
  have hb4 := hb3.alloc hb3.size (.cells #[.int .i64 u.a, .int .i64 u.b, .int .i64 u.c, .int .i64 u.d, .int .i64 u.e, .int .i64 u.f, .int .i64 u.g, .int .i64 u.h, .int .i64 u.i, .int .i64 u.j] 35)
  refine (HR.out _ hb4).mono ?_
  rintro e w3 ⟨rfl, hbb3⟩
  have hb5 : Below w.heap.size w w3 := hb4.trans (hbb3.mono hb4.size)
  have c0 : w3.cell? ⟨gb, 0, none⟩ = some (.int .i64 t.a) := cell_later hbb3 (cell_alloc _ b0)
  have c1 : w3.cell? ⟨gb, 1, none⟩ = some (.int .i64 t.b) := cell_later hbb3 (cell_alloc _ b1)
  have c2 : w3.cell? ⟨gb, 2, none⟩ = some (.int .i64 t.c) := cell_later hbb3 (cell_alloc _ b2)
  have c3 : w3.cell? ⟨gb, 3, none⟩ = some (.int .i64 t.d) := cell_later hbb3 (cell_alloc _ b3)
  have c4 : w3.cell? ⟨gb, 4, none⟩ = some (.int .i64 t.e) := cell_later hbb3 (cell_alloc _ b4)
  have c5 : w3.cell? ⟨gb, 5, none⟩ = some (.int .i64 t.f) := cell_later hbb3 (cell_alloc _ b5)
  have c6 : w3.cell? ⟨gb, 6, none⟩ = some (.int .i64 t.g) := cell_later hbb3 (cell_alloc _ b6)
  have c7 : w3.cell? ⟨gb, 7, none⟩ = some (.int .i64 t.h) := cell_later hbb3 (cell_alloc _ b7)
  have c8 : w3.cell? ⟨gb, 8, none⟩ = some (.int .i64 t.i) := cell_later hbb3 (cell_alloc _ b8)
  have c9 : w3.cell? ⟨gb, 9, none⟩ = some (.int .i64 t.j) := cell_later hbb3 (cell_alloc _ b9)
  have d0 : w3.cell? ⟨w2.heap.size, 0, none⟩ = some (.int .i64 u.a) := by rw [hbb3.cell (by simp)]; simp
  have d1 : w3.cell? ⟨w2.heap.size, 1, none⟩ = some (.int .i64 u.b) := by rw [hbb3.cell (by simp)]; simp
  have d2 : w3.cell? ⟨w2.heap.size, 2, none⟩ = some (.int .i64 u.c) := by rw [hbb3.cell (by simp)]; simp
  have d3 : w3.cell? ⟨w2.heap.size, 3, none⟩ = some (.int .i64 u.d) := by rw [hbb3.cell (by simp)]; simp
  have d4 : w3.cell? ⟨w2.heap.size, 4, none⟩ = some (.int .i64 u.e) := by rw [hbb3.cell (by simp)]; simp
  have d5 : w3.cell? ⟨w2.heap.size, 5, none⟩ = some (.int .i64 u.f) := by rw [hbb3.cell (by simp)]; simp
  have d6 : w3.cell? ⟨w2.heap.size, 6, none⟩ = some (.int .i64 u.g) := by rw [hbb3.cell (by simp)]; simp
  have d7 : w3.cell? ⟨w2.heap.size, 7, none⟩ = some (.int .i64 u.h) := by rw [hbb3.cell (by simp)]; simp
  have d8 : w3.cell? ⟨w2.heap.size, 8, none⟩ = some (.int .i64 u.i) := by rw [hbb3.cell (by simp)]; simp
  have d9 : w3.cell? ⟨w2.heap.size, 9, none⟩ = some (.int .i64 u.j) := by rw [hbb3.cell (by simp)]; simp
  obtain ⟨g1, hg1⟩ : ∃ g1, g1 = w2.heap.size := ⟨_, rfl⟩
  rw [← hg1] at d0 d1 d2 d3 d4 d5 d6 d7 d8 d9 ⊢
  clear hbb3 hb4 hb3 hg1 b0 b1 b2 b3 b4 b5 b6 b7 b8 b9
  go_upto_region 6 with fail
  have s0 := cell_alloc (.cells #[.int .i64 u.a, .int .i64 u.b, .int .i64 u.c, .int .i64 u.d, .int .i64 u.e, .int .i64 u.f, .int .i64 u.g, .int .i64 u.h, .int .i64 u.i, .int .i64 u.j] 38) c0
  have s1 := cell_alloc (.cells #[.int .i64 u.a, .int .i64 u.b, .int .i64 u.c, .int .i64 u.d, .int .i64 u.e, .int .i64 u.f, .int .i64 u.g, .int .i64 u.h, .int .i64 u.i, .int .i64 u.j] 38) c1
  have s2 := cell_alloc (.cells #[.int .i64 u.a, .int .i64 u.b, .int .i64 u.c, .int .i64 u.d, .int .i64 u.e, .int .i64 u.f, .int .i64 u.g, .int .i64 u.h, .int .i64 u.i, .int .i64 u.j] 38) c2
  have s3 := cell_alloc (.cells #[.int .i64 u.a, .int .i64 u.b, .int .i64 u.c, .int .i64 u.d, .int .i64 u.e, .int .i64 u.f, .int .i64 u.g, .int .i64 u.h, .int .i64 u.i, .int .i64 u.j] 38) c3
  have s4 := cell_alloc (.cells #[.int .i64 u.a, .int .i64 u.b, .int .i64 u.c, .int .i64 u.d, .int .i64 u.e, .int .i64 u.f, .int .i64 u.g, .int .i64 u.h, .int .i64 u.i, .int .i64 u.j] 38) c4
  have s5 := cell_alloc (.cells #[.int .i64 u.a, .int .i64 u.b, .int .i64 u.c, .int .i64 u.d, .int .i64 u.e, .int .i64 u.f, .int .i64 u.g, .int .i64 u.h, .int .i64 u.i, .int .i64 u.j] 38) c5
  have s6 := cell_alloc (.cells #[.int .i64 u.a, .int .i64 u.b, .int .i64 u.c, .int .i64 u.d, .int .i64 u.e, .int .i64 u.f, .int .i64 u.g, .int .i64 u.h, .int .i64 u.i, .int .i64 u.j] 38) c6
  have s7 := cell_alloc (.cells #[.int .i64 u.a, .int .i64 u.b, .int .i64 u.c, .int .i64 u.d, .int .i64 u.e, .int .i64 u.f, .int .i64 u.g, .int .i64 u.h, .int .i64 u.i, .int .i64 u.j] 38) c7
  have s8 := cell_alloc (.cells #[.int .i64 u.a, .int .i64 u.b, .int .i64 u.c, .int .i64 u.d, .int .i64 u.e, .int .i64 u.f, .int .i64 u.g, .int .i64 u.h, .int .i64 u.i, .int .i64 u.j] 38) c8
  have s9 := cell_alloc (.cells #[.int .i64 u.a, .int .i64 u.b, .int .i64 u.c, .int .i64 u.d, .int .i64 u.e, .int .i64 u.f, .int .i64 u.g, .int .i64 u.h, .int .i64 u.i, .int .i64 u.j] 38) c9
  have s10 := cell_alloc (.cells #[.int .i64 u.a, .int .i64 u.b, .int .i64 u.c, .int .i64 u.d, .int .i64 u.e, .int .i64 u.f, .int .i64 u.g, .int .i64 u.h, .int .i64 u.i, .int .i64 u.j] 38) d0
  have s11 := cell_alloc (.cells #[.int .i64 u.a, .int .i64 u.b, .int .i64 u.c, .int .i64 u.d, .int .i64 u.e, .int .i64 u.f, .int .i64 u.g, .int .i64 u.h, .int .i64 u.i, .int .i64 u.j] 38) d1
  have s12 := cell_alloc (.cells #[.int .i64 u.a, .int .i64 u.b, .int .i64 u.c, .int .i64 u.d, .int .i64 u.e, .int .i64 u.f, .int .i64 u.g, .int .i64 u.h, .int .i64 u.i, .int .i64 u.j] 38) d2
  have s13 := cell_alloc (.cells #[.int .i64 u.a, .int .i64 u.b, .int .i64 u.c, .int .i64 u.d, .int .i64 u.e, .int .i64 u.f, .int .i64 u.g, .int .i64 u.h, .int .i64 u.i, .int .i64 u.j] 38) d3
  have s14 := cell_alloc (.cells #[.int .i64 u.a, .int .i64 u.b, .int .i64 u.c, .int .i64 u.d, .int .i64 u.e, .int .i64 u.f, .int .i64 u.g, .int .i64 u.h, .int .i64 u.i, .int .i64 u.j] 38) d4
  have s15 := cell_alloc (.cells #[.int .i64 u.a, .int .i64 u.b, .int .i64 u.c, .int .i64 u.d, .int .i64 u.e, .int .i64 u.f, .int .i64 u.g, .int .i64 u.h, .int .i64 u.i, .int .i64 u.j] 38) d5
  have s16 := cell_alloc (.cells #[.int .i64 u.a, .int .i64 u.b, .int .i64 u.c, .int .i64 u.d, .int .i64 u.e, .int .i64 u.f, .int .i64 u.g, .int .i64 u.h, .int .i64 u.i, .int .i64 u.j] 38) d6
  have s17 := cell_alloc (.cells #[.int .i64 u.a, .int .i64 u.b, .int .i64 u.c, .int .i64 u.d, .int .i64 u.e, .int .i64 u.f, .int .i64 u.g, .int .i64 u.h, .int .i64 u.i, .int .i64 u.j] 38) d7
  have s18 := cell_alloc (.cells #[.int .i64 u.a, .int .i64 u.b, .int .i64 u.c, .int .i64 u.d, .int .i64 u.e, .int .i64 u.f, .int .i64 u.g, .int .i64 u.h, .int .i64 u.i, .int .i64 u.j] 38) d8
  have s19 := cell_alloc (.cells #[.int .i64 u.a, .int .i64 u.b, .int .i64 u.c, .int .i64 u.d, .int .i64 u.e, .int .i64 u.f, .int .i64 u.g, .int .i64 u.h, .int .i64 u.i, .int .i64 u.j] 38) d9
  have s20 : (w3.alloc (.cells #[.int .i64 u.a, .int .i64 u.b, .int .i64 u.c, .int .i64 u.d, .int .i64 u.e, .int .i64 u.f, .int .i64 u.g, .int .i64 u.h, .int .i64 u.i, .int .i64 u.j] 38)).cell? ⟨w3.heap.size, 0, none⟩ = some (.int .i64 u.a) := by simp
  have s21 : (w3.alloc (.cells #[.int .i64 u.a, .int .i64 u.b, .int .i64 u.c, .int .i64 u.d, .int .i64 u.e, .int .i64 u.f, .int .i64 u.g, .int .i64 u.h, .int .i64 u.i, .int .i64 u.j] 38)).cell? ⟨w3.heap.size, 1, none⟩ = some (.int .i64 u.b) := by simp
  have s22 : (w3.alloc (.cells #[.int .i64 u.a, .int .i64 u.b, .int .i64 u.c, .int .i64 u.d, .int .i64 u.e, .int .i64 u.f, .int .i64 u.g, .int .i64 u.h, .int .i64 u.i, .int .i64 u.j] 38)).cell? ⟨w3.heap.size, 2, none⟩ = some (.int .i64 u.c) := by simp
  have s23 : (w3.alloc (.cells #[.int .i64 u.a, .int .i64 u.b, .int .i64 u.c, .int .i64 u.d, .int .i64 u.e, .int .i64 u.f, .int .i64 u.g, .int .i64 u.h, .int .i64 u.i, .int .i64 u.j] 38)).cell? ⟨w3.heap.size, 3, none⟩ = some (.int .i64 u.d) := by simp
  have s24 : (w3.alloc (.cells #[.int .i64 u.a, .int .i64 u.b, .int .i64 u.c, .int .i64 u.d, .int .i64 u.e, .int .i64 u.f, .int .i64 u.g, .int .i64 u.h, .int .i64 u.i, .int .i64 u.j] 38)).cell? ⟨w3.heap.size, 4, none⟩ = some (.int .i64 u.e) := by simp
  have s25 : (w3.alloc (.cells #[.int .i64 u.a, .int .i64 u.b, .int .i64 u.c, .int .i64 u.d, .int .i64 u.e, .int .i64 u.f, .int .i64 u.g, .int .i64 u.h, .int .i64 u.i, .int .i64 u.j] 38)).cell? ⟨w3.heap.size, 5, none⟩ = some (.int .i64 u.f) := by simp
  have s26 : (w3.alloc (.cells #[.int .i64 u.a, .int .i64 u.b, .int .i64 u.c, .int .i64 u.d, .int .i64 u.e, .int .i64 u.f, .int .i64 u.g, .int .i64 u.h, .int .i64 u.i, .int .i64 u.j] 38)).cell? ⟨w3.heap.size, 6, none⟩ = some (.int .i64 u.g) := by simp
  have s27 : (w3.alloc (.cells #[.int .i64 u.a, .int .i64 u.b, .int .i64 u.c, .int .i64 u.d, .int .i64 u.e, .int .i64 u.f, .int .i64 u.g, .int .i64 u.h, .int .i64 u.i, .int .i64 u.j] 38)).cell? ⟨w3.heap.size, 7, none⟩ = some (.int .i64 u.h) := by simp
  have s28 : (w3.alloc (.cells #[.int .i64 u.a, .int .i64 u.b, .int .i64 u.c, .int .i64 u.d, .int .i64 u.e, .int .i64 u.f, .int .i64 u.g, .int .i64 u.h, .int .i64 u.i, .int .i64 u.j] 38)).cell? ⟨w3.heap.size, 8, none⟩ = some (.int .i64 u.i) := by simp
  have s29 : (w3.alloc (.cells #[.int .i64 u.a, .int .i64 u.b, .int .i64 u.c, .int .i64 u.d, .int .i64 u.e, .int .i64 u.f, .int .i64 u.g, .int .i64 u.h, .int .i64 u.i, .int .i64 u.j] 38)).cell? ⟨w3.heap.size, 9, none⟩ = some (.int .i64 u.j) := by simp
  have hb6 := hb5.alloc hb5.size (.cells #[.int .i64 u.a, .int .i64 u.b, .int .i64 u.c, .int .i64 u.d, .int .i64 u.e, .int .i64 u.f, .int .i64 u.g, .int .i64 u.h, .int .i64 u.i, .int .i64 u.j] 38)
  generalize w3.alloc (.cells #[.int .i64 u.a, .int .i64 u.b, .int .i64 u.c, .int .i64 u.d, .int .i64 u.e, .int .i64 u.f, .int .i64 u.g, .int .i64 u.h, .int .i64 u.i, .int .i64 u.j] 38) = W0 at *
  obtain ⟨g2, hg2⟩ : ∃ g2, g2 = w3.heap.size := ⟨_, rfl⟩
  rw [← hg2] at s20 s21 s22 s23 s24 s25 s26 s27 s28 s29 ⊢
  clear hg2 hb5 c0 c1 c2 c3 c4 c5 c6 c7 c8 c9 d0 d1 d2 d3 d4 d5 d6 d7 d8 d9
  go_region_held (fun W => W.cell? ⟨gb, 0, none⟩ = some (.int .i64 t.a) ∧ W.cell? ⟨gb, 1, none⟩ = some (.int .i64 t.b) ∧ W.cell? ⟨gb, 2, none⟩ = some (.int .i64 t.c) ∧ W.cell? ⟨gb, 3, none⟩ = some (.int .i64 t.d) ∧ W.cell? ⟨gb, 4, none⟩ = some (.int .i64 t.e) ∧ W.cell? ⟨gb, 5, none⟩ = some (.int .i64 t.f) ∧ W.cell? ⟨gb, 6, none⟩ = some (.int .i64 t.g) ∧ W.cell? ⟨gb, 7, none⟩ = some (.int .i64 t.h) ∧ W.cell? ⟨gb, 8, none⟩ = some (.int .i64 t.i) ∧ W.cell? ⟨gb, 9, none⟩ = some (.int .i64 t.j) ∧ W.cell? ⟨g1, 0, none⟩ = some (.int .i64 u.a) ∧ W.cell? ⟨g1, 1, none⟩ = some (.int .i64 u.b) ∧ W.cell? ⟨g1, 2, none⟩ = some (.int .i64 u.c) ∧ W.cell? ⟨g1, 3, none⟩ = some (.int .i64 u.d) ∧ W.cell? ⟨g1, 4, none⟩ = some (.int .i64 u.e) ∧ W.cell? ⟨g1, 5, none⟩ = some (.int .i64 u.f) ∧ W.cell? ⟨g1, 6, none⟩ = some (.int .i64 u.g) ∧ W.cell? ⟨g1, 7, none⟩ = some (.int .i64 u.h) ∧ W.cell? ⟨g1, 8, none⟩ = some (.int .i64 u.i) ∧ W.cell? ⟨g1, 9, none⟩ = some (.int .i64 u.j) ∧ W.cell? ⟨g2, 0, none⟩ = some (.int .i64 u.a) ∧ W.cell? ⟨g2, 1, none⟩ = some (.int .i64 u.b) ∧ W.cell? ⟨g2, 2, none⟩ = some (.int .i64 u.c) ∧ W.cell? ⟨g2, 3, none⟩ = some (.int .i64 u.d) ∧ W.cell? ⟨g2, 4, none⟩ = some (.int .i64 u.e) ∧ W.cell? ⟨g2, 5, none⟩ = some (.int .i64 u.f) ∧ W.cell? ⟨g2, 6, none⟩ = some (.int .i64 u.g) ∧ W.cell? ⟨g2, 7, none⟩ = some (.int .i64 u.h) ∧ W.cell? ⟨g2, 8, none⟩ = some (.int .i64 u.i) ∧ W.cell? ⟨g2, 9, none⟩ = some (.int .i64 u.j))
    (first | go_keep | exact ⟨s0, s1, s2, s3, s4, s5, s6, s7, s8, s9, s10, s11, s12, s13, s14, s15, s16, s17, s18, s19, s20, s21, s22, s23, s24, s25, s26, s27, s28, s29⟩ | exact ⟨x0, x1, x2, x3, x4, x5, x6, x7, x8, x9, x10, x11, x12, x13, x14, x15, x16, x17, x18, x19, x20, x21, x22, x23, x24, x25, x26, x27, x28, x29⟩ | exact ⟨y0, y1, y2, y3, y4, y5, y6, y7, y8, y9, y10, y11, y12, y13, y14, y15, y16, y17, y18, y19, y20, y21, y22, y23, y24, y25, y26, y27, y28, y29⟩ | exact ⟨z0, z1, z2, z3, z4, z5, z6, z7, z8, z9, z10, z11, z12, z13, z14, z15, z16, z17, z18, z19, z20, z21, z22, z23, z24, z25, z26, z27, z28, z29⟩ | exact ⟨v0, v1, v2, v3, v4, v5, v6, v7, v8, v9, v10, v11, v12, v13, v14, v15, v16, v17, v18, v19, v20, v21, v22, v23, v24, v25, v26, v27, v28, v29⟩ | fail)
    ((first
      | (go_at_call 15
         (with_reducible refine (HLu.out _).mono ?_)
         rintro e w4 ⟨rfl, hbb4⟩
         have hb7 : Below w.heap.size w w4 := hb6.drew.trans (hbb4.mono (by exact hb6.size))
         have x0 := cell_later hbb4 s0
         have x1 := cell_later hbb4 s1
         have x2 := cell_later hbb4 s2
         have x3 := cell_later hbb4 s3
         have x4 := cell_later hbb4 s4
         have x5 := cell_later hbb4 s5
         have x6 := cell_later hbb4 s6
         have x7 := cell_later hbb4 s7
         have x8 := cell_later hbb4 s8
         have x9 := cell_later hbb4 s9
         have x10 := cell_later hbb4 s10
         have x11 := cell_later hbb4 s11
         have x12 := cell_later hbb4 s12
         have x13 := cell_later hbb4 s13
         have x14 := cell_later hbb4 s14
         have x15 := cell_later hbb4 s15
         have x16 := cell_later hbb4 s16
         have x17 := cell_later hbb4 s17
         have x18 := cell_later hbb4 s18
         have x19 := cell_later hbb4 s19
         have x20 := cell_later hbb4 s20
         have x21 := cell_later hbb4 s21
         have x22 := cell_later hbb4 s22
         have x23 := cell_later hbb4 s23
         have x24 := cell_later hbb4 s24
         have x25 := cell_later hbb4 s25
         have x26 := cell_later hbb4 s26
         have x27 := cell_later hbb4 s27
         have x28 := cell_later hbb4 s28
         have x29 := cell_later hbb4 s29
         clear hbb4)
      | (go_at_call 16
         refine (HP.out _).mono ?_
         rintro e w5 ⟨pc, cc, Nc, rfl, hcc, hNc, hbc⟩
         have hb8 : Below w.heap.size w w5 := hb7.trans (hbc.mono hb7.size)
         have y0 := cell_later hbc x0
         have y1 := cell_later hbc x1
         have y2 := cell_later hbc x2
         have y3 := cell_later hbc x3
         have y4 := cell_later hbc x4
         have y5 := cell_later hbc x5
         have y6 := cell_later hbc x6
         have y7 := cell_later hbc x7
         have y8 := cell_later hbc x8
         have y9 := cell_later hbc x9
         have y10 := cell_later hbc x10
         have y11 := cell_later hbc x11
         have y12 := cell_later hbc x12
         have y13 := cell_later hbc x13
         have y14 := cell_later hbc x14
         have y15 := cell_later hbc x15
         have y16 := cell_later hbc x16
         have y17 := cell_later hbc x17
         have y18 := cell_later hbc x18
         have y19 := cell_later hbc x19
         have y20 := cell_later hbc x20
         have y21 := cell_later hbc x21
         have y22 := cell_later hbc x22
         have y23 := cell_later hbc x23
         have y24 := cell_later hbc x24
         have y25 := cell_later hbc x25
         have y26 := cell_later hbc x26
         have y27 := cell_later hbc x27
         have y28 := cell_later hbc x28
         have y29 := cell_later hbc x29
         have hrc := Below.refl Nc w5
         have HNc := Lib.hid hNc
         clear hNc hbc)
      | (go_at_call 15
         (with_reducible refine (HLt.out _).mono ?_)
         rintro e w6 ⟨rfl, hbb6⟩
         have hb9 : Below w.heap.size w w6 := hb8.trans (hbb6.mono hb8.size)
         have z0 := cell_later hbb6 y0
         have z1 := cell_later hbb6 y1
         have z2 := cell_later hbb6 y2
         have z3 := cell_later hbb6 y3
         have z4 := cell_later hbb6 y4
         have z5 := cell_later hbb6 y5
         have z6 := cell_later hbb6 y6
         have z7 := cell_later hbb6 y7
         have z8 := cell_later hbb6 y8
         have z9 := cell_later hbb6 y9
         have z10 := cell_later hbb6 y10
         have z11 := cell_later hbb6 y11
         have z12 := cell_later hbb6 y12
         have z13 := cell_later hbb6 y13
         have z14 := cell_later hbb6 y14
         have z15 := cell_later hbb6 y15
         have z16 := cell_later hbb6 y16
         have z17 := cell_later hbb6 y17
         have z18 := cell_later hbb6 y18
         have z19 := cell_later hbb6 y19
         have z20 := cell_later hbb6 y20
         have z21 := cell_later hbb6 y21
         have z22 := cell_later hbb6 y22
         have z23 := cell_later hbb6 y23
         have z24 := cell_later hbb6 y24
         have z25 := cell_later hbb6 y25
         have z26 := cell_later hbb6 y26
         have z27 := cell_later hbb6 y27
         have z28 := cell_later hbb6 y28
         have z29 := cell_later hbb6 y29
         have hrd : Below Nc w5 w6 := (by rw [HNc.out]; exact hbb6)
         clear hbb6)
      | (go_at_call 17
         refine (HRP.out _).mono ?_
         rintro e w7 ⟨pd, cd, Nd, rfl, hcd, hNd, hbd⟩
         have hb10 : Below w.heap.size w w7 := hb9.trans (hbd.mono hb9.size)
         have v0 := cell_later hbd z0
         have v1 := cell_later hbd z1
         have v2 := cell_later hbd z2
         have v3 := cell_later hbd z3
         have v4 := cell_later hbd z4
         have v5 := cell_later hbd z5
         have v6 := cell_later hbd z6
         have v7 := cell_later hbd z7
         have v8 := cell_later hbd z8
         have v9 := cell_later hbd z9
         have v10 := cell_later hbd z10
         have v11 := cell_later hbd z11
         have v12 := cell_later hbd z12
         have v13 := cell_later hbd z13
         have v14 := cell_later hbd z14
         have v15 := cell_later hbd z15
         have v16 := cell_later hbd z16
         have v17 := cell_later hbd z17
         have v18 := cell_later hbd z18
         have v19 := cell_later hbd z19
         have v20 := cell_later hbd z20
         have v21 := cell_later hbd z21
         have v22 := cell_later hbd z22
         have v23 := cell_later hbd z23
         have v24 := cell_later hbd z24
         have v25 := cell_later hbd z25
         have v26 := cell_later hbd z26
         have v27 := cell_later hbd z27
         have v28 := cell_later hbd z28
         have v29 := cell_later hbd z29
         have hre : Below Nc w5 w7 := hrd.trans (hbd.mono (by rw [HNc.out]; exact hrd.size))
         have hrf := Below.refl Nd w7
         clear hNd hbd)
      | fail))
  all_goals
    go_wp2_with fail
    go_ret
    exact ⟨rfl, hb10⟩

end Go.Proofs.Ytaajihmchealnaa
