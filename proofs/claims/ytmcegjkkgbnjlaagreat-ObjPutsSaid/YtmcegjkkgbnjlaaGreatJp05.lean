/-
  A flag of a number of flags, by a bit of it and by division. Nothing here walks the program.
  Contracts of the project's own within, isPlace, has.
  Contracts of the project's own mayLink, mayType.
  Contracts of the project's small readers of an object's bytes: told, isType, isListOf, word, sectionOf.
  What a call leaves as it was: all blocks below N, and all whose elements are of none of some types. A header's row. Nothing here walks the program.
  Contract: the reference's Make: the table of names, and their places.
-/
import Derived.Test.YtmcegjkkgbnjlaaGreatShapeA
import Derived.Laws.BitsLemmas
import Derived.Test.YtmcegjkkgbnjlaaGreatJp04
import Derived.Deep.DeepCutAuto
import Derived.Test.YtmcegjkkgbnjlaaGreatObjMem
import Derived.Test.YtmcegjkkgbnjlaaGreatJp03
import Derived.Deep.QuietTactic
import Derived.BigQuiet
import Derived.Deep.CutBlock
import Derived.Laws.Closers25
namespace Go.Proofs.YtmcegjkkgbnjlaaGreat
open Go.RowKit

/-- Has a number of flags a flag: the project's way. -/
def hasO (fl k : Int) : Bool := bits .and .i64 fl k != 0
theorem wraps_i64 (n : Int) (h₀ : 0 ≤ n) (h₁ : n < 2 ^ 63) : IntKind.i64.wrap n = n := by
  rw [IntKind.wrap_i64]
  have : (2 : Int) ^ 63 = 9223372036854775808 := by decide
  omega
theorem hasO_eq {fl : Int} (j : Nat) (hj : j < 63) (h0 : 0 ≤ fl) (h1 : fl ≤ 9223372036854775807) : hasO fl (2 ^ j) = hasF fl (2 ^ j) := by
  obtain ⟨a, rfl⟩ := Int.eq_ofNat_of_zero_le h0
  have ha : a < 2 ^ 63 := by
    have : (2 : Nat) ^ 63 = 9223372036854775808 := by decide
    omega
  have hk : (2 : Nat) ^ j < 2 ^ 63 := Nat.pow_lt_pow_right (by omega) hj
  have hb := (bits_nat .i64 63 (by decide) wraps_i64 a (2 ^ j) ha hk).1
  have e2 : ((2 ^ j : Nat) : Int) = (2 : Int) ^ j := by push_cast; rfl
  rw [e2] at hb
  unfold hasO hasF
  rw [hb, decide_eq_true h0, Bool.true_and]
  have hd : ((a : Int) / 2 ^ j).tmod 2 = ((a / 2 ^ j % 2 : Nat) : Int) := by
    rw [← e2, ← Int.natCast_ediv, Int.tmod_eq_emod_of_nonneg (Int.natCast_nonneg (a / 2 ^ j))]
    rfl
  rw [hd]
  have htb := Nat.testBit_eq_decide_div_mod_eq (x := a) (i := j)
  cases hb2 : a.testBit j with
  | true =>
    rw [hb2] at htb
    have h1 : a / 2 ^ j % 2 = 1 := of_decide_eq_true htb.symm
    have h2 : (a &&& 2 ^ j).testBit j = true := by rw [Nat.testBit_and, hb2, Nat.testBit_two_pow]; simp
    have h3 : a &&& 2 ^ j ≠ 0 := fun e => by rw [e] at h2; simp at h2
    have h4 : ((a &&& 2 ^ j : Nat) : Int) ≠ 0 := by omega
    rw [h1]
    simpa using h4
  | false =>
    rw [hb2] at htb
    have h1 : ¬ a / 2 ^ j % 2 = 1 := of_decide_eq_false htb.symm
    have h2 : a / 2 ^ j % 2 = 0 := by omega
    have h3 : a &&& 2 ^ j = 0 := Nat.eq_of_testBit_eq fun i => by
      rw [Nat.testBit_and, Nat.testBit_two_pow, Nat.zero_testBit]
      by_cases h : j = i
      · subst h; rw [hb2]; rfl
      · simp [h]
    rw [h2, h3]
    rfl
end Go.Proofs.YtmcegjkkgbnjlaaGreat

namespace Go.Proofs.YtmcegjkkgbnjlaaGreat
open Go.RowKit

def inR (n a b : Int) : Bool := decide (a ≤ n) && decide (n ≤ b)
theorem ownWithin_any (n a b : Int) (w : World) : Calls Tryz.prog 97 #[.int .i64 n, .int .i64 a, .int .i64 b] w fun e w' => e = .returned (.bool (inR n a b)) ∧ w = w' := by
  by_cases h1 : a ≤ n
  · have d1 : decide (a ≤ n) = true := decide_eq_true h1
    have HR : Hid (inR n a b = decide (n ≤ b)) := Lib.hid (by unfold inR; rw [d1]; rfl)
    by_cases h2 : n ≤ b
    · have d2 : decide (n ≤ b) = true := decide_eq_true h2
      have HR2 : Hid (inR n a b = true) := Lib.hid (by rw [HR.out, d2])
      clear h1 h2
      go_enter Tryz.func97, Tryz.ntmps97
      go_wp2_with fail
      go_ret
      rw [HR2.out]
      exact ⟨rfl, rfl⟩
    · have d2 : decide (n ≤ b) = false := decide_eq_false h2
      have HR2 : Hid (inR n a b = false) := Lib.hid (by rw [HR.out, d2])
      clear h1 h2
      go_enter Tryz.func97, Tryz.ntmps97
      go_wp2_with fail
      go_ret
      rw [HR2.out]
      exact ⟨rfl, rfl⟩
  · have d1 : decide (a ≤ n) = false := decide_eq_false h1
    have HR : Hid (inR n a b = false) := Lib.hid (by unfold inR; rw [d1]; rfl)
    clear h1
    go_enter Tryz.func97, Tryz.ntmps97
    go_wp2_with fail
    go_ret
    rw [HR.out]
    exact ⟨rfl, rfl⟩
theorem ownIsPlace_any (n : Int) (w : World) : Calls Tryz.prog 125 #[.int .i64 n] w fun e w' => e = .returned (.bool (inR n 0 2147483647)) ∧ w = w' := by
  have HW := Lib.hid fun W => ownWithin_any n 0 2147483647 W
  go_enter Tryz.func125, Tryz.ntmps125
  go_wp2_with fail
  refine (HW.out _).mono ?_
  rintro e w' ⟨rfl, rfl⟩
  go_wp2_with fail
  go_ret
  exact ⟨rfl, rfl⟩
theorem ownHas_any (nm : ByteArray) (ty fl al en li sz : Int) (vd vr : Value) (k : Int) (w : World) :
    Calls Tryz.prog 98 #[secV nm ty fl al en li sz vd vr, .int .i64 k] w fun e w' => e = .returned (.bool (hasO fl k)) ∧ Below w.heap.size w w' := by
  go_enter Tryz.func98, Tryz.ntmps98
  go_wp2_with fail
  go_ret
  exact ⟨rfl, (Below.refl _ w).alloc (Nat.le_refl _) _⟩
end Go.Proofs.YtmcegjkkgbnjlaaGreat

namespace Go.Proofs.YtmcegjkkgbnjlaaGreat
open Go.RowKit

def linkO (fl link num many : Int) : Bool := bif hasO fl 128 then inR link 1 many && (link != num) else link == 0
set_option maxRecDepth 100000 in
set_option maxHeartbeats 2000000 in
theorem ownMayLink_any (nm : ByteArray) (ty fl al en li sz : Int) (vd : Value) (rp : Option Addr) (rl rc : Nat) (dp : Option Addr) (dl dc : Nat) (num many : Int) (w : World) (_hd : vd = .slice dp dl dc) :
    Calls Tryz.prog 100 #[secV nm ty fl al en li sz vd (.slice rp rl rc), .int .i64 num, .int .i64 many] w fun e w' => e = .returned (.bool (linkO fl li num many)) ∧ Below w.heap.size w w' := by
  have hb1 : Below w.heap.size w (w.alloc (.cells #[.string nm, .int .i64 ty, .int .i64 fl, .int .i64 al, .int .i64 en, .int .i64 li, .int .i64 sz, vd, .slice rp rl rc] 48)) := (Below.refl _ w).alloc (Nat.le_refl _) _
  have hha := heap_new w (.cells #[.string nm, .int .i64 ty, .int .i64 fl, .int .i64 al, .int .i64 en, .int .i64 li, .int .i64 sz, vd, .slice rp rl rc] 48)
  have HH := Lib.hid fun W => ownHas_any nm ty fl al en li sz vd (.slice rp rl rc) 128 W
  have HW := Lib.hid fun W => ownWithin_any li 1 many W
  have hr : linkO fl li num many = bif hasO fl 128 then inR li 1 many && (li != num) else li == 0 := rfl
  have HB1 := Lib.hid hb1
  generalize linkO fl li num many = res at *
  generalize hasO fl 128 = h at *
  generalize inR li 1 many = q at *
  have HR := Lib.hid hr
  subst _hd
  clear hr hb1
  go_enter Tryz.func100, Tryz.ntmps100
  go_upto_region 1 with fail
  generalize w.alloc (.cells #[.string nm, .int .i64 ty, .int .i64 fl, .int .i64 al, .int .i64 en, .int .i64 li, .int .i64 sz, .slice dp dl dc, .slice rp rl rc] 48) = W1 at *
  obtain ⟨s0, s1, s2, s3, s4, s5, s6, s7, s8⟩ := cells9 _ _ _ _ _ _ _ _ _ _ _ _ hha
  clear hha
  have hbs := HB1.out.size
  go_wp2_with fail
  refine (HH.out _).mono ?_
  rintro e w2 ⟨rfl, hb2⟩
  have t5 := cell_later hb2 s5
  have hbw : Below w.heap.size w w2 := HB1.out.trans (hb2.mono hbs)
  clear s0 s1 s2 s3 s4 s5 s6 s7 s8 hb2
  cases h with
  | false =>
    have hE : Hid (res = (li == 0)) := Lib.hid (by rw [HR.out]; rfl)
    go_wp2_with fail
    go_ret
    rw [hE.out]
    exact ⟨rfl, hbw⟩
  | true =>
    have hE : Hid (res = (q && (li != num))) := Lib.hid (by rw [HR.out]; rfl)
    go_wp2_with fail
    refine (HW.out _).mono ?_
    rintro e w' ⟨rfl, rfl⟩
    cases q with
    | false =>
      have hE2 : Hid (res = false) := Lib.hid (by rw [hE.out]; rfl)
      go_wp2_with fail
      go_ret
      rw [hE2.out]
      exact ⟨rfl, hbw⟩
    | true =>
      have hE2 : Hid (res = (li != num)) := Lib.hid (by rw [hE.out]; rfl)
      go_wp2_with fail
      go_ret
      rw [hE2.out]
      exact ⟨rfl, hbw⟩

/-- A section's nine cells in block g. -/
structure SecAt (w : World) (g : Nat) (v0 v1 v2 v3 v4 v5 v6 v7 v8 : Value) : Prop where
  c0 : w.cell? ⟨g, 0, none⟩ = some v0
  c1 : w.cell? ⟨g, 1, none⟩ = some v1
  c2 : w.cell? ⟨g, 2, none⟩ = some v2
  c3 : w.cell? ⟨g, 3, none⟩ = some v3
  c4 : w.cell? ⟨g, 4, none⟩ = some v4
  c5 : w.cell? ⟨g, 5, none⟩ = some v5
  c6 : w.cell? ⟨g, 6, none⟩ = some v6
  c7 : w.cell? ⟨g, 7, none⟩ = some v7
  c8 : w.cell? ⟨g, 8, none⟩ = some v8
theorem SecAt.of {w : World} {g : Nat} {v0 v1 v2 v3 v4 v5 v6 v7 v8 : Value} {T : TypeId} (h : w.heap[g]? = some (.cells #[v0, v1, v2, v3, v4, v5, v6, v7, v8] T (0, 0))) : SecAt w g v0 v1 v2 v3 v4 v5 v6 v7 v8 := by
  obtain ⟨h0, h1, h2, h3, h4, h5, h6, h7, h8⟩ := cells9 _ _ _ _ _ _ _ _ _ _ _ _ h
  exact ⟨h0, h1, h2, h3, h4, h5, h6, h7, h8⟩
theorem SecAt.later {w w' : World} {g : Nat} {v0 v1 v2 v3 v4 v5 v6 v7 v8 : Value} (h : SecAt w g v0 v1 v2 v3 v4 v5 v6 v7 v8) (hb : Below w.heap.size w w') : SecAt w' g v0 v1 v2 v3 v4 v5 v6 v7 v8 :=
  ⟨cell_later hb h.c0, cell_later hb h.c1, cell_later hb h.c2, cell_later hb h.c3, cell_later hb h.c4, cell_later hb h.c5, cell_later hb h.c6, cell_later hb h.c7, cell_later hb h.c8⟩
def typeO (ty fl sz : Int) (dl : Nat) : Bool :=
  bif ty == 1 then (sz == (dl : Int)) && (decide (sz ≤ 16384) && !(hasO fl 1 && hasO fl 4)) else
  bif ty == 8 then ((dl : Int) == 0) && (inR sz 0 2147483647 && (hasO fl 1 && (!hasO fl 4 && !hasO fl 16))) else false
set_option maxRecDepth 100000 in
set_option maxHeartbeats 4000000 in
theorem ownMayType_any (nm : ByteArray) (ty fl al en li sz : Int) (dp rp : Option Addr) (dl dc rl rc : Nat) (w : World) :
    Calls Tryz.prog 126 #[secV nm ty fl al en li sz (.slice dp dl dc) (.slice rp rl rc)] w fun e w' => e = .returned (.bool (typeO ty fl sz dl)) ∧ Below w.heap.size w w' := by
  have hb1 : Below w.heap.size w (w.alloc (.cells #[.string nm, .int .i64 ty, .int .i64 fl, .int .i64 al, .int .i64 en, .int .i64 li, .int .i64 sz, .slice dp dl dc, .slice rp rl rc] 48)) := (Below.refl _ w).alloc (Nat.le_refl _) _
  have hha := heap_new w (.cells #[.string nm, .int .i64 ty, .int .i64 fl, .int .i64 al, .int .i64 en, .int .i64 li, .int .i64 sz, .slice dp dl dc, .slice rp rl rc] 48)
  have HS := Lib.hid (SecAt.of hha)
  have HH1 := Lib.hid fun W => ownHas_any nm ty fl al en li sz (.slice dp dl dc) (.slice rp rl rc) 1 W
  have HH4 := Lib.hid fun W => ownHas_any nm ty fl al en li sz (.slice dp dl dc) (.slice rp rl rc) 4 W
  have HH16 := Lib.hid fun W => ownHas_any nm ty fl al en li sz (.slice dp dl dc) (.slice rp rl rc) 16 W
  have HP := Lib.hid fun W => ownIsPlace_any sz W
  have hr : typeO ty fl sz dl = bif ty == 1 then (sz == (dl : Int)) && (decide (sz ≤ 16384) && !(hasO fl 1 && hasO fl 4)) else
    bif ty == 8 then ((dl : Int) == 0) && (inR sz 0 2147483647 && (hasO fl 1 && (!hasO fl 4 && !hasO fl 16))) else false := rfl
  have HB1 := Lib.hid hb1
  generalize typeO ty fl sz dl = res at *
  generalize hasO fl 1 = f1 at *
  generalize hasO fl 4 = f4 at *
  generalize hasO fl 16 = f16 at *
  generalize inR sz 0 2147483647 = q at *
  have HR := Lib.hid hr
  clear hr hb1 hha
  go_enter Tryz.func126, Tryz.ntmps126
  go_upto_region 1 with fail
  generalize w.alloc (.cells #[.string nm, .int .i64 ty, .int .i64 fl, .int .i64 al, .int .i64 en, .int .i64 li, .int .i64 sz, .slice dp dl dc, .slice rp rl rc] 48) = W1 at *
  obtain ⟨s0, s1, s2, s3, s4, s5, s6, s7, s8⟩ := HS.out
  have hbs := HB1.out.size
  cases t1 : (ty == 1) with
  | true =>
    have hE : Hid (res = ((sz == (dl : Int)) && (decide (sz ≤ 16384) && !(f1 && f4)))) := Lib.hid (by rw [HR.out, t1]; rfl)
    clear HR
    cases t2 : (sz == (dl : Int)) with
    | false =>
      have hE2 : Hid (res = false) := Lib.hid (by rw [hE.out, t2]; rfl)
      go_wp2_with fail
      go_ret
      rw [hE2.out]
      exact ⟨rfl, HB1.out⟩
    | true =>
      cases t3 : decide (sz ≤ 16384) with
      | false =>
        have hE2 : Hid (res = false) := Lib.hid (by rw [hE.out, t2, t3]; rfl)
        go_wp2_with fail
        go_ret
        rw [hE2.out]
        exact ⟨by trivial, HB1.out⟩
      | true =>
        have hE2 : Hid (res = !(f1 && f4)) := Lib.hid (by rw [hE.out, t2, t3]; rfl)
        clear hE
        go_wp2_with fail
        refine (HH1.out _).mono ?_
        rintro e w2 ⟨rfl, hb2⟩
        have HS2 := Lib.hid (HS.out.later hb2)
        have hbw : Below w.heap.size w w2 := HB1.out.trans (hb2.mono hbs)
        clear s0 s1 s2 s3 s4 s5 s6 s7 s8 hb2 HS
        obtain ⟨s0, s1, s2, s3, s4, s5, s6, s7, s8⟩ := HS2.out
        have hbws := hbw.size
        cases f1 with
        | false =>
          have hE3 : Hid (res = true) := Lib.hid (by rw [hE2.out]; rfl)
          go_wp2_with fail
          go_ret
          rw [hE3.out]
          exact ⟨rfl, hbw⟩
        | true =>
          have hE3 : Hid (res = !f4) := Lib.hid (by rw [hE2.out]; rfl)
          go_wp2_with fail
          refine (HH4.out _).mono ?_
          rintro e w3 ⟨rfl, hb3⟩
          have hbw3 : Below w.heap.size w w3 := hbw.trans (hb3.mono hbws)
          clear s0 s1 s2 s3 s4 s5 s6 s7 s8 hb3 HS2 hbw
          go_wp2_with fail
          go_ret
          rw [hE3.out]
          exact ⟨rfl, hbw3⟩
  | false =>
    cases t8 : (ty == 8) with
    | false =>
      have hE : Hid (res = false) := Lib.hid (by rw [HR.out, t1, t8]; rfl)
      go_wp2_with fail
      go_ret
      rw [hE.out]
      exact ⟨rfl, HB1.out⟩
    | true =>
      have hE : Hid (res = (((dl : Int) == 0) && (q && (f1 && (!f4 && !f16))))) := Lib.hid (by rw [HR.out, t1, t8]; rfl)
      clear HR
      rcases Nat.eq_zero_or_pos dl with h0 | h0
      · subst h0
        have hE2 : Hid (res = (q && (f1 && (!f4 && !f16)))) := Lib.hid (by rw [hE.out]; rfl)
        clear hE
        go_wp2_with fail
        refine (HP.out _).mono ?_
        rintro e w' ⟨rfl, rfl⟩
        cases q with
        | false =>
          have hE3 : Hid (res = false) := Lib.hid (by rw [hE2.out]; rfl)
          go_wp2_with fail
          go_ret
          rw [hE3.out]
          exact ⟨rfl, HB1.out⟩
        | true =>
          go_wp2_with fail
          refine (HH1.out _).mono ?_
          rintro e w2 ⟨rfl, hb2⟩
          have HS2 := Lib.hid (HS.out.later hb2)
          have hbw : Below w.heap.size w w2 := HB1.out.trans (hb2.mono hbs)
          clear s0 s1 s2 s3 s4 s5 s6 s7 s8 hb2 HS
          obtain ⟨s0, s1, s2, s3, s4, s5, s6, s7, s8⟩ := HS2.out
          have hbws := hbw.size
          cases f1 with
          | false =>
            have hE3 : Hid (res = false) := Lib.hid (by rw [hE2.out]; rfl)
            go_wp2_with fail
            go_ret
            rw [hE3.out]
            exact ⟨rfl, hbw⟩
          | true =>
            have hE3 : Hid (res = (!f4 && !f16)) := Lib.hid (by rw [hE2.out]; rfl)
            go_wp2_with fail
            refine (HH4.out _).mono ?_
            rintro e w3 ⟨rfl, hb3⟩
            have HS3 := Lib.hid (HS2.out.later hb3)
            have hbw3 : Below w.heap.size w w3 := hbw.trans (hb3.mono hbws)
            clear s0 s1 s2 s3 s4 s5 s6 s7 s8 hb3 HS2 hbw
            obtain ⟨s0, s1, s2, s3, s4, s5, s6, s7, s8⟩ := HS3.out
            have hbws3 := hbw3.size
            cases f4 with
            | true =>
              have hE4 : Hid (res = false) := Lib.hid (by rw [hE3.out]; rfl)
              go_wp2_with fail
              go_ret
              rw [hE4.out]
              exact ⟨rfl, hbw3⟩
            | false =>
              have hE4 : Hid (res = !f16) := Lib.hid (by rw [hE3.out]; rfl)
              go_wp2_with fail
              refine (HH16.out _).mono ?_
              rintro e w4 ⟨rfl, hb4⟩
              have hbw4 : Below w.heap.size w w4 := hbw3.trans (hb4.mono hbws3)
              clear s0 s1 s2 s3 s4 s5 s6 s7 s8 hb4 HS3 hbw3
              go_wp2_with fail
              go_ret
              rw [hE4.out]
              exact ⟨rfl, hbw4⟩
      · have hne : ((dl : Int) == 0) = false := by simp; omega
        have hE2 : Hid (res = false) := Lib.hid (by rw [hE.out, hne]; rfl)
        go_wp2_with fail
        go_ret
        rw [hE2.out]
        exact ⟨by trivial, HB1.out⟩
end Go.Proofs.YtmcegjkkgbnjlaaGreat

namespace Go.Proofs.YtmcegjkkgbnjlaaGreat
open Go.RowKit

/-- A section header's ten numbers, at a place of a block. -/
def ETen (w : World) (b o : Nat) (t : Ten) : Prop := w.cell? ⟨b, o, none⟩ = some (.int .i64 t.a) ∧ w.cell? ⟨b, o + 1, none⟩ = some (.int .i64 t.b) ∧ w.cell? ⟨b, o + 2, none⟩ = some (.int .i64 t.c) ∧ w.cell? ⟨b, o + 3, none⟩ = some (.int .i64 t.d) ∧ w.cell? ⟨b, o + 4, none⟩ = some (.int .i64 t.e) ∧
  w.cell? ⟨b, o + 5, none⟩ = some (.int .i64 t.f) ∧ w.cell? ⟨b, o + 6, none⟩ = some (.int .i64 t.g) ∧ w.cell? ⟨b, o + 7, none⟩ = some (.int .i64 t.h) ∧ w.cell? ⟨b, o + 8, none⟩ = some (.int .i64 t.i) ∧ w.cell? ⟨b, o + 9, none⟩ = some (.int .i64 t.j)
theorem ETen.keeps : Keeps ETen := fun _ _ _ _ _ hb ⟨h0, h1, h2, h3, h4, h5, h6, h7, h8, h9⟩ => ⟨keep_cell hb h0, keep_cell hb h1, keep_cell hb h2, keep_cell hb h3, keep_cell hb h4, keep_cell hb h5, keep_cell hb h6, keep_cell hb h7, keep_cell hb h8, keep_cell hb h9⟩
abbrev filP (F : Nat) : Value := .pointer (some ⟨F, 0, none⟩)
/-- Where the bytes from e on stand. -/
def tolP (bp : Option Addr) (bc e : Nat) : Option Addr := if bc = e then bp else bp.map (·.add e)
theorem tol_has {w : World} {bp : Option Addr} {bc e f : Nat} {l : List UInt8} (hl : Has w bp l) (h1 : l.length ≤ bc) (hef : e + f ≤ l.length) : Has w (tolP bp bc e) (win l e f) := hl.cut e (e + f) bc hef h1
theorem tol_none {bp : Option Addr} {bc e : Nat} (h3 : bp = none → bc = 0) (h : tolP bp bc e = none) : bc - e = 0 := by
  unfold tolP at h
  split at h
  · omega
  · rw [Option.map_eq_none_iff] at h
    have := h3 h
    omega
set_option maxRecDepth 100000 in
set_option maxHeartbeats 1000000 in
theorem told_any (F : Nat) (t : Ten) (bp : Option Addr) (bc bl e f : Nat) (w : World) (hc : w.cell? ⟨F, 0, none⟩ = some (.slice bp bl bc)) (h1 : bl ≤ bc) (_h2 : bc ≤ maxLen)
    (he : t.e = (e : Int)) (hf : t.f = (f : Int)) (hef : e + f ≤ bl) (hbig : bl ≤ 100000000) :
    Calls Tryz.prog 87 #[filP F, t.v] w fun e' w' => e' = .returned (.slice (tolP bp bc e) f (bc - e)) ∧ Below w.heap.size w w' := by
  have hb1 : Below w.heap.size w (w.alloc (.cells #[.int .i64 t.a, .int .i64 t.b, .int .i64 t.c, .int .i64 t.d, .int .i64 (e : Int), .int .i64 (f : Int), .int .i64 t.g, .int .i64 t.h, .int .i64 t.i, .int .i64 t.j] 104)) := (Below.refl _ w).alloc (Nat.le_refl _) _
  obtain ⟨_, _, _, _, s4, s5, _⟩ := cells_ten _ _ _ _ _ _ _ _ _ _ _ _ _ (heap_new w (.cells #[.int .i64 t.a, .int .i64 t.b, .int .i64 t.c, .int .i64 t.d, .int .i64 (e : Int), .int .i64 (f : Int), .int .i64 t.g, .int .i64 t.h, .int .i64 t.i, .int .i64 t.j] 104))
  have c0 := cell_later hb1 hc
  have k1 : IntKind.i64.wrap ((e : Int) + (f : Int)) = ((e + f : Nat) : Int) := by rw [show (e : Int) + (f : Int) = ((e + f : Nat) : Int) by omega]; exact IntWalk.i64_in _ (by omega)
  rw [show t.v = .agg #[.int .i64 t.a, .int .i64 t.b, .int .i64 t.c, .int .i64 t.d, .int .i64 (e : Int), .int .i64 (f : Int), .int .i64 t.g, .int .i64 t.h, .int .i64 t.i, .int .i64 t.j] by rw [← he, ← hf]]
  clear he hf hc
  go_enter Tryz.func87, Tryz.ntmps87
  go_upto_region 1 with fail
  generalize w.alloc (.cells #[.int .i64 t.a, .int .i64 t.b, .int .i64 t.c, .int .i64 t.d, .int .i64 (e : Int), .int .i64 (f : Int), .int .i64 t.g, .int .i64 t.h, .int .i64 t.i, .int .i64 t.j] 104) = W1 at *
  have hI1 : (e : Int) ≤ ((e + f : Nat) : Int) := by omega
  have hI2 : ((e + f : Nat) : Int) ≤ (bc : Int) := by omega
  by_cases hbe : bc = e
  · have hP : Hid (tolP bp bc e = bp) := Lib.hid (if_pos hbe)
    subst hbe
    obtain rfl : f = 0 := by omega
    go_quiet (fail)
    go_wp2_with fail
    go_ret
    rw [hP.out]
    exact ⟨by rw [Nat.sub_self]; rfl, below_drewN hb1 _⟩
  · have hP : Hid (tolP bp bc e = bp.map (·.add e)) := Lib.hid (if_neg hbe)
    go_quiet (fail)
    go_wp2_with fail
    go_ret
    rw [hP.out]
    exact ⟨(by show Ending.returned (.slice _ (e + f - e) _) = _; rw [Nat.add_sub_cancel_left]), below_drewN hb1 _⟩

/-- Is header n there, and of a type? -/
def isTy (L : List Ten) (n : Nat) (k : Int) : Bool := match L[n]? with
  | none => false
  | some t => t.b == k
set_option maxRecDepth 100000 in
set_option maxHeartbeats 1000000 in
theorem isType_any (F n : Nat) (k : Int) (hp : Option Addr) (hc : Nat) (L : List Ten) (w : World) (h1 : w.cell? ⟨F, 1, none⟩ = some (.slice hp L.length hc)) (hL : HasL 10 ETen w hp L)  :
    Calls Tryz.prog 85 #[filP F, .int .i64 (n : Int), .int .i64 k] w fun e w' => e = .returned (.bool (isTy L n k)) ∧ w' = w := by
  by_cases hlt : n < L.length
  · obtain ⟨b, off, t, rfl, ht, d0, d1, _⟩ := hL.at_ (i := n) hlt
    have hE : Hid (isTy L n k = (t.b == k)) := Lib.hid (by unfold isTy; rw [ht])
    have hI : (n : Int) < (L.length : Int) := by omega
    have hI0 : (0 : Int) ≤ (n : Int) := by omega
    generalize L.length = ln at *
    clear hL ht hlt
    go_enter Tryz.func85, Tryz.ntmps85
    go_wp2_with fail
    go_ret
    rw [hE.out]
    exact ⟨rfl, rfl⟩
  · have hE : Hid (isTy L n k = false) := Lib.hid (by unfold isTy; rw [List.getElem?_eq_none (by omega)])
    have hI : ¬ (n : Int) < (L.length : Int) := by omega
    generalize L.length = ln at *
    clear hL hlt
    go_enter Tryz.func85, Tryz.ntmps85
    go_wp2_with fail
    go_ret
    rw [hE.out]
    exact ⟨rfl, rfl⟩

set_option maxRecDepth 100000 in
set_option maxHeartbeats 1000000 in
theorem isListOf_any (t : Ten) (z : Int) (w : World) (hz : 0 < z) (hz2 : z ≤ 1000) :
    Calls Tryz.prog 89 #[t.v, .int .i64 z] w fun e w' => e = .returned (.bool ((t.j == z) && (t.f.tmod z == 0))) ∧ Below w.heap.size w w' := by
  have hb1 : Below w.heap.size w (w.alloc (.cells #[.int .i64 t.a, .int .i64 t.b, .int .i64 t.c, .int .i64 t.d, .int .i64 t.e, .int .i64 t.f, .int .i64 t.g, .int .i64 t.h, .int .i64 t.i, .int .i64 t.j] 104)) := (Below.refl _ w).alloc (Nat.le_refl _) _
  obtain ⟨_, _, _, _, _, s5, _, _, _, s9⟩ := cells_ten _ _ _ _ _ _ _ _ _ _ _ _ _ (heap_new w (.cells #[.int .i64 t.a, .int .i64 t.b, .int .i64 t.c, .int .i64 t.d, .int .i64 t.e, .int .i64 t.f, .int .i64 t.g, .int .i64 t.h, .int .i64 t.i, .int .i64 t.j] 104))
  have hz0 : (z == 0) = false := by simp; omega
  have hz1 : ¬ z = 0 := by omega
  go_enter Tryz.func89, Tryz.ntmps89
  go_upto_region 1 with fail
  generalize w.alloc (.cells #[.int .i64 t.a, .int .i64 t.b, .int .i64 t.c, .int .i64 t.d, .int .i64 t.e, .int .i64 t.f, .int .i64 t.g, .int .i64 t.h, .int .i64 t.i, .int .i64 t.j] 104) = W1 at *
  cases h : (t.j == z) with
  | true =>
    go_wp2_with fail
    go_ret
    exact ⟨by rw [h]; rfl, hb1⟩
  | false =>
    go_wp2_with fail
    go_ret
    exact ⟨by rw [h]; rfl, hb1⟩

theorem num_win4 (l : List UInt8) (a : Nat) : num (win l a 4) < 4294967296 := by
  have h := num_lt (win l a 4)
  have h2 : (win l a 4).length ≤ 4 := by simp [win]; omega
  have h3 : 256 ^ (win l a 4).length ≤ 256 ^ 4 := Nat.pow_le_pow_right (by omega) h2
  have e : (256 : Nat) ^ 4 = 4294967296 := by decide
  omega
set_option maxRecDepth 100000 in
set_option maxHeartbeats 1000000 in
theorem word_any (F a : Nat) (bp : Option Addr) (bc : Nat) (l : List UInt8) (w : World) (hc : w.cell? ⟨F, 0, none⟩ = some (.slice bp l.length bc)) (hl : Has w bp l) (h1 : l.length ≤ bc) (h2 : bc ≤ maxLen) (ha : a + 4 ≤ l.length) :
    Calls Tryz.prog 92 #[filP F, .int .i64 (a : Int)] w fun e w' => e = .returned (.int .i64 (num (win l a 4) : Int)) ∧ w = w' := by
  have hg := get_any bp l.length bc l a 4 w hl rfl h1 h2
  have hgb : getB l (a : Int) 4 = num (win l a 4) := by
    unfold getB
    rw [if_pos ((fitB_iff _ _ _).2 ⟨by omega, by omega, by omega⟩)]
    rfl
  rw [hgb] at hg
  have hn := num_win4 l a
  have HG := Lib.hid hg
  have kc : IntKind.i64.wrap (num (win l a 4) : Int) = (num (win l a 4) : Int) := IntWalk.i64_in _ (by omega)
  generalize num (win l a 4) = x at *
  generalize fitB l.length (a : Int) 4 = q at *
  clear hg hl hgb
  go_enter Tryz.func92, Tryz.ntmps92
  go_wp2_with fail
  refine HG.out.mono ?_
  rintro e w' ⟨rfl, rfl⟩
  go_wp2_with fail
  go_ret
  exact ⟨rfl, rfl⟩

set_option maxRecDepth 100000 in
set_option maxHeartbeats 1000000 in
theorem sectionOf_any (F n : Nat) (sp : Option Addr) (sc : Nat) (ns : List Int) (w : World) (h3 : w.cell? ⟨F, 3, none⟩ = some (.slice sp ns.length sc)) (hL : HasL 1 EInt w sp ns)  :
    Calls Tryz.prog 93 #[filP F, .int .i64 (n : Int)] w fun e w' => e = .returned (.int .i64 (ns[n]?.getD 0)) ∧ w = w' := by
  by_cases hlt : n < ns.length
  · obtain ⟨b, off, x, rfl, hx, d0, _⟩ := hL.at_ (i := n) hlt
    have hE : Hid (ns[n]?.getD 0 = x) := Lib.hid (by rw [hx]; rfl)
    have hI : ¬ (ns.length : Int) ≤ (n : Int) := by omega
    have hI2 : (n : Int) < (ns.length : Int) := by omega
    have hI0 : (0 : Int) ≤ (n : Int) := by omega
    rw [Nat.mul_one] at d0
    generalize ns.length = ln at *
    clear hL hx hlt
    go_enter Tryz.func93, Tryz.ntmps93
    go_wp2_with fail
    go_ret
    rw [hE.out]
    exact ⟨rfl, rfl⟩
  · have hE : Hid (ns[n]?.getD 0 = 0) := Lib.hid (by rw [List.getElem?_eq_none (show ns.length ≤ n by omega)]; rfl)
    have hI : (ns.length : Int) ≤ (n : Int) := by omega
    generalize ns.length = ln at *
    clear hL hlt
    go_enter Tryz.func93, Tryz.ntmps93
    go_wp2_with fail
    go_ret
    rw [hE.out]
    exact ⟨rfl, rfl⟩
end Go.Proofs.YtmcegjkkgbnjlaaGreat

namespace Go.Proofs.YtmcegjkkgbnjlaaGreat
open Go.RowKit

def tyOf : Obj → Option TypeId
  | .cells _ T _ => some T
  | _ => none
/-- What was there stands, but for blocks from N on that are of the types Ts. -/
structure FrT (N : Nat) (Ts : List TypeId) (w w' : World) : Prop where
  os : w'.os = w.os
  tape : w'.tape = w.tape
  output : w'.output = w.output
  size : w.heap.size ≤ w'.heap.size
  block : ∀ k o, w.heap[k]? = some o → (k < N ∨ ∀ T ∈ Ts, tyOf o ≠ some T) → w'.heap[k]? = some o
theorem FrT.refl (N : Nat) (Ts : List TypeId) (w : World) : FrT N Ts w w := ⟨rfl, rfl, rfl, Nat.le_refl _, fun _ _ h _ => h⟩
theorem FrT.trans {N : Nat} {Ts : List TypeId} {a b c : World} (h : FrT N Ts a b) (k : FrT N Ts b c) : FrT N Ts a c :=
  ⟨k.os.trans h.os, k.tape.trans h.tape, k.output.trans h.output, Nat.le_trans h.size k.size, fun i o hi ht => k.block i o (h.block i o hi ht) ht⟩
theorem FrT.mono {N : Nat} {Ts Us : List TypeId} {a b : World} (h : FrT N Ts a b) (hs : ∀ T ∈ Ts, T ∈ Us) : FrT N Us a b :=
  ⟨h.os, h.tape, h.output, h.size, fun i o hi ht => h.block i o hi (ht.imp id fun hu T hT => hu T (hs T hT))⟩
theorem FrT.of_below {N : Nat} {Ts : List TypeId} {w w' : World} (h : Below w.heap.size w w') : FrT N Ts w w' :=
  ⟨h.os, h.tape, h.output, h.size, fun k o hk _ => by rw [h.block k (Array.getElem?_eq_some_iff.1 hk).1]; exact hk⟩
theorem FrT.below {N : Nat} {Ts : List TypeId} {w w' : World} (h : FrT N Ts w w') (hN : N ≤ w.heap.size) : Below N w w' :=
  ⟨h.os, h.tape, h.output, h.size, fun k hk => by
    have hx : w.heap[k]? = some w.heap[k] := Array.getElem?_eq_getElem (by omega)
    rw [hx]
    exact h.block k _ hx (.inl hk)⟩
theorem FrT.heap {N : Nat} {Ts : List TypeId} {w w' : World} {k : Nat} {cs : Array Value} {T : TypeId} {m : Nat × Nat} (h : FrT N Ts w w') (hk : w.heap[k]? = some (.cells cs T m)) (hT : T ∉ Ts) : w'.heap[k]? = some (.cells cs T m) :=
  h.block k _ hk (.inr fun U hU e => by
    simp only [tyOf, Option.some.injEq] at e
    exact hT (e ▸ hU))
theorem FrT.owns {N : Nat} {Ts : List TypeId} {w w' : World} {B : Nat} {T : TypeId} {s n : Nat} {v : Value} {xs : List Value} (h : FrT N Ts w w') (ho : w.ownsRow B T s v n xs) (hT : T ∉ Ts) : w'.ownsRow B T s v n xs := by
  refine ⟨ho.1, ?_⟩
  rcases ho.2 with h0 | ⟨g, cap, cur, hv, hb, hg, rest⟩
  · exact .inl h0
  · exact .inr ⟨g, cap, cur, hv, hb, h.heap hg hT, rest⟩
theorem FrT.grown {N : Nat} {Ts : List TypeId} {w w' : World} {B : Nat} {T : TypeId} {s n : Nat} {v : Value} {xs : List Value} (ho : w.ownsRow B T s v n xs) (hg : w.grownBy w' v.ownBlock) (hT : T ∈ Ts) (hN : N ≤ B) : FrT N Ts w w' := by
  refine ⟨hg.os, hg.tape, hg.output, hg.size, fun k o hk ht => ?_⟩
  rw [hg.block k (Array.getElem?_eq_some_iff.1 hk).1 fun e => ?_]
  · exact hk
  · rcases ho.2 with ⟨rfl, _⟩ | ⟨g, cap, cur, rfl, hb, hg2, _⟩
    · simp [Value.ownBlock] at e
    · simp only [Value.ownBlock, Option.some.injEq] at e
      subst e
      rw [hk] at hg2
      cases hg2
      rcases ht with ht | ht
      · omega
      · exact ht T hT rfl
theorem FrT.set {N : Nat} {Ts : List TypeId} {w : World} {F i : Nat} {cs : Array Value} {T : TypeId} {m : Nat × Nat} (hF : w.heap[F]? = some (.cells cs T m)) (hT : T ∈ Ts) (hN : N ≤ F) (v : Value) : FrT N Ts w (w.setCell ⟨F, i, none⟩ v) := by
  refine ⟨rfl, rfl, rfl, by simp, fun k o hk ht => ?_⟩
  by_cases e : k = F
  · subst e
    rw [hk] at hF
    cases hF
    rcases ht with ht | ht
    · omega
    · exact absurd rfl (ht T hT)
  · rw [heap_setCell_other w ⟨F, i, none⟩ k v e]
    exact hk

/-- A row that was laid since grows: nothing of what was there is touched. -/
theorem FrT.grownNew {N : Nat} {Ts : List TypeId} {w w1 w2 : World} {r : Option Nat} (h : FrT N Ts w w1) (hg : w1.grownBy w2 r) (hr : ∀ k, r = some k → w.heap.size ≤ k) : FrT N Ts w w2 :=
  ⟨hg.os.trans h.os, hg.tape.trans h.tape, hg.output.trans h.output, Nat.le_trans h.size hg.size, fun k o hk ht => by
    have h1 := h.block k o hk ht
    rw [hg.block k (Array.getElem?_eq_some_iff.1 h1).1 fun e => by have := hr k e.symm; have := (Array.getElem?_eq_some_iff.1 hk).1; omega]
    exact h1⟩

/-! ## Rows of headers -/
def tensV (L : List Ten) : List Value := L.flatMap fun t => t.l.map (Value.int .i64)
theorem tensV_length (L : List Ten) : (tensV L).length = L.length * 10 := by
  induction L with
  | nil => rfl
  | cons t L ih =>
    have : tensV (t :: L) = t.l.map (Value.int .i64) ++ tensV L := rfl
    rw [this, List.length_append, ih]
    simp [Ten.l]
    omega
theorem tensV_snoc (L : List Ten) (t : Ten) : tensV (L ++ [t]) = tensV L ++ t.l.map (Value.int .i64) := by simp [tensV]
theorem tensV_get : ∀ (L : List Ten) (i : Nat) (t : Ten) (c : Nat) (x : Int), L[i]? = some t → t.l[c]? = some x → (tensV L)[i * 10 + c]? = some (.int .i64 x)
  | [], i, t, c, x, h, _ => by simp at h
  | u :: L, 0, t, c, x, h, hc => by
    simp at h
    subst h
    show (u.l.map (Value.int .i64) ++ tensV L)[0 * 10 + c]? = _
    rw [Nat.zero_mul, Nat.zero_add, List.getElem?_append_left (by simpa using (List.getElem?_eq_some_iff.1 hc).1), List.getElem?_map, hc]
    rfl
  | u :: L, i + 1, t, c, x, h, hc => by
    have := tensV_get L i t c x (by simpa using h) hc
    show (u.l.map (Value.int .i64) ++ tensV L)[(i + 1) * 10 + c]? = _
    have hl : (u.l.map (Value.int .i64)).length = 10 := by simp [Ten.l]
    rw [List.getElem?_append_right (by omega), hl, show (i + 1) * 10 + c - 10 = i * 10 + c by omega]
    exact this
/-- A row of headers, as a reader sees it. -/
theorem tens_has {w : World} {B : Nat} {T : TypeId} {v : Value} {L : List Ten} (h : w.ownsRow B T 10 v L.length (tensV L)) : ∃ p c, v = .slice p L.length c ∧ L.length ≤ c ∧ c ≤ maxLen ∧ (p = none → c = 0) ∧ HasL 10 ETen w p L := by
  rcases h.2 with ⟨rfl, h0⟩ | ⟨g, cap, cur, rfl, hb, hg, h1, h2, _⟩
  · refine ⟨none, 0, by rw [h0], by omega, Nat.zero_le _, fun _ => rfl, fun i x hx => ?_⟩
    have := (List.getElem?_eq_some_iff.1 hx).1
    omega
  · refine ⟨some ⟨g, 0, none⟩, cap, rfl, h1, h2, (fun h => by cases h), fun i t ht => ⟨g, 0, rfl, ?_⟩⟩
    have hi := (List.getElem?_eq_some_iff.1 ht).1
    have hc : ∀ (c : Nat) (x : Int), c < 10 → t.l[c]? = some x → w.cell? ⟨g, 0 + i * 10 + c, none⟩ = some (.int .i64 x) := fun c x hc hx => by
      rw [Nat.zero_add, h.cellAt (i * 10 + c) (by omega)]
      exact tensV_get L i t c x ht hx
    exact ⟨hc 0 _ (by omega) rfl, hc 1 _ (by omega) rfl, hc 2 _ (by omega) rfl, hc 3 _ (by omega) rfl, hc 4 _ (by omega) rfl, hc 5 _ (by omega) rfl, hc 6 _ (by omega) rfl, hc 7 _ (by omega) rfl, hc 8 _ (by omega) rfl, hc 9 _ (by omega) rfl⟩
theorem cells5 (w : World) (g : Nat) (v0 v1 v2 v3 v4 : Value) (T : TypeId) (h : w.heap[g]? = some (.cells #[v0, v1, v2, v3, v4] T (0, 0))) :
    (w.cell? ⟨g, 0, none⟩ = some v0 ∧ w.cell? ⟨g, 1, none⟩ = some v1 ∧ w.cell? ⟨g, 2, none⟩ = some v2 ∧ w.cell? ⟨g, 3, none⟩ = some v3 ∧ w.cell? ⟨g, 4, none⟩ = some v4) ∧
    (w.frozen? ⟨g, 0, none⟩ = false ∧ w.frozen? ⟨g, 1, none⟩ = false ∧ w.frozen? ⟨g, 2, none⟩ = false ∧ w.frozen? ⟨g, 3, none⟩ = false ∧ w.frozen? ⟨g, 4, none⟩ = false) := by
  refine ⟨⟨?_, ?_, ?_, ?_, ?_⟩, ?_, ?_, ?_, ?_, ?_⟩
  all_goals first | exact (cell_of_row w g _ _ _ (0, 0) h).trans rfl | exact frozen_of_row w g _ _ _ h | fail
end Go.Proofs.YtmcegjkkgbnjlaaGreat

namespace Go.Proofs.YtmcegjkkgbnjlaaGreat
open Go.RowKit

/-- The call hands back a table and places, both in memory of its own. -/
def GivesT (ns : List Nm) (w : World) (e : Ending) (w' : World) : Prop :=
  ∃ v1 v2, e = .returned (.tuple #[v1, v2]) ∧ w'.ownsRow w.heap.size 5 1 v1 (tabOf ns).tb.length ((tabOf ns).tb.map u8v) ∧ w'.ownsRow w.heap.size 3 1 v2 (placesOf ns).length (natV (placesOf ns)) ∧ Below w.heap.size w w'

theorem placesOf_length (ns : List Nm) : (placesOf ns).length = ns.length := by simp [placesOf]
theorem zero_row (w : World) : (w.alloc (.cells #[.int .u8 0] 5)).ownsRow w.heap.size 5 1 (.slice (some ⟨w.heap.size, 0, none⟩) 1 1) 1 ([0].map u8v) :=
  World.ownsRow_lit w #[u8v 0] 1 (Nat.le_refl _) (by unfold maxLen; omega) rfl

theorem isEmpty_yes {s : ByteArray} (h : lst s = []) : s.toList.isEmpty = true := by
  rw [← decide_eq_emptyBytes, decide_eq_true_eq]
  exact lst_inj (by rw [h]; rfl)
theorem isEmpty_no {s : ByteArray} (h : lst s ≠ []) : s.toList.isEmpty = false := by
  rw [← decide_eq_emptyBytes, decide_eq_false_iff_not]
  intro e
  exact h (by rw [e]; rfl)
theorem eq_no {x y : ByteArray} (h : y ≠ x) : (y.toList == x.toList) = false := by
  rw [ByteArray.toList_eq, ByteArray.toList_eq, beq_eq_false_iff_ne]
  exact fun e => h (lst_inj e)
/-- Where a name stands, if it came before; else -1. -/
def found (ns : List Nm) (n : Nm) (k : Nat) (a : Int) : Prop :=
  (a = -1 ∧ n ≠ [] ∧ ∀ j y, j < k → ns[j]? = some y → y ≠ n) ∨ (a = (placeOf ns n : Int) ∧ (n = [] ∨ n ∈ ns))

theorem one_cell_at (w : World) (x : UInt8) : ∀ j z, [u8v x][j]? = some z → (w.alloc (.cells #[.int .u8 (x.toNat : Int)] 5)).cell? ((⟨w.heap.size, 0, none⟩ : Addr).add j) = some z := fun j z hj => by
  match j, hj with
  | 0, hj => simp at hj; subst hj; simp [Addr.add, u8v]
theorem one_cells (x : UInt8) : ∀ u ∈ [u8v x], u.oneCell' = true := fun u hu => by simp at hu; subst hu; rfl
theorem one_cell_at2 (w : World) (q : Int) (t : TypeId) : ∀ j z, [Value.int .i64 q][j]? = some z → (w.alloc (.cells #[.int .i64 q] t)).cell? ((⟨w.heap.size, 0, none⟩ : Addr).add j) = some z := fun j z hj => by
  match j, hj with
  | 0, hj => simp at hj; subst hj; simp [Addr.add]
theorem one_cells2 (q : Int) : ∀ u ∈ [Value.int .i64 q], u.oneCell' = true := fun u hu => by simp at hu; subst hu; rfl
theorem row_snoc2 (out : List UInt8) (d : UInt8) : out.map u8v ++ [u8v d] = (out ++ [d]).map u8v := by simp

set_option maxHeartbeats 2000000 in
set_option maxRecDepth 100000 in
theorem refMake_wide (p : Option Addr) (len cap : Nat) (ss : List ByteArray) (w : World) (h : HasS w p ss) (hlen : ss.length = len) (hl100 : len ≤ 1000) (hs : ∀ s ∈ ss, mayB (lst s) = true) :
    Calls Tryz.prog 19 #[.slice p len cap] w (GivesT (ss.map lst) w) := by
  obtain ⟨i0, hi, hz0, hz1, hz2⟩ := info_parts Tryz.infoU8
  obtain ⟨i1, gi, gz0, gz1, gz2⟩ := info_parts Tryz.infoInt
  have HI := Lib.hid hi
  have H0 := Lib.hid hz0
  have H1 := Lib.hid hz1
  have H2 := Lib.hid hz2
  have GI := Lib.hid gi
  have G0 := Lib.hid gz0
  have G1 := Lib.hid gz1
  have G2 := Lib.hid gz2
  have HS := Lib.hid hs
  have HM := Lib.hid h
  have HL := Lib.hid hlen
  clear hs h hlen hi hz0 hz1 hz2 gi gz0 gz1 gz2
  go_enter Tryz.func19, Tryz.ntmps19
  go_wp2_with fail
  go_loopw [4, 5, 6] (fun out places ii wr => ∃ (k n : Nat) (ns : List Nm), k ≤ len ∧ n ≤ 33 * k + 1 ∧ ns = (ss.take k).map lst ∧ ii = .int .i64 (k : Int) ∧ wr.ownsRow w.heap.size 5 1 out n ((tabOf ns).tb.map u8v) ∧ wr.ownsRow w.heap.size 3 1 places k (natV (placesOf ns)) ∧ Below w.heap.size w wr) (fun _ _ ii _ => len - (intOf ii).toNat)
  case atStart => exact ⟨0, 1, [], Nat.zero_le _, Nat.le_refl _, rfl, rfl, zero_row w, World.ownsRow_nil _ _ _ _, (Below.refl _ w).alloc (Nat.le_refl _) _⟩
  case round =>
    obtain ⟨k, n, ns, hk, hn, hns, rfl, hown, hpl, hb⟩ := hrel
    have HN := Lib.hid hns
    clear hns
    by_cases hlt : k < len
    · obtain ⟨b, off, x, rfl, hx, hc0⟩ := HM.out.at_ (i := k) (by rw [HL.out]; exact hlt)
      have hc := cell_later hb hc0
      have HX := Lib.hid hx
      have hI1 : (k : Int) < (len : Int) := by omega
      have hI0 : (0 : Int) ≤ (k : Int) := by omega
      clear hc0 hx
      have hns : ns.length = k := by rw [HN.out]; simp; have := HL.out; omega
      have HNL := Lib.hid hns
      clear hns
      go_upto_if 20 with fail
      go_cut [7] (fun s7 wx => ∃ a : Int, s7 = .int .i64 a ∧ found ns (lst x) 0 a ∧ -1 ≤ a ∧ a ≤ 0 ∧ wr = wx)
      case first =>
        by_cases hx0 : lst x = []
        · have he := isEmpty_yes hx0
          have HF : Hid (found ns (lst x) 0 0) := Lib.hid (.inr ⟨by rw [hx0, placeOf_nil]; rfl, .inl hx0⟩)
          clear hx0
          rw [he]
          go_wp2_with fail
          go_meet
          exact ⟨0, rfl, HF.out, by omega, by omega, rfl⟩
        · have he := isEmpty_no hx0
          have HF : Hid (found ns (lst x) 0 (-1)) := Lib.hid (.inl ⟨rfl, hx0, fun j y hj => absurd hj (by omega)⟩)
          clear hx0
          rw [he]
          go_wp2_with fail
          go_meet
          exact ⟨-1, rfl, HF.out, by omega, by omega, rfl⟩
      case rest =>
        obtain ⟨a0, rfl, hf0, ha1, ha2, rfl⟩ := hcut
        have HF0 := Lib.hid hf0
        clear hf0
        go_upto_block 2 with fail
        go_cut [7] (fun s7 wx => ∃ (a : Int) (m : Nat), s7 = .int .i64 a ∧ found ns (lst x) k a ∧ -1 ≤ a ∧ wx = wr.drewN m)
        case first =>
          go_wp2_with fail
          go_loopw [7, 8] (fun s7 s8 wx => ∃ (a : Int) (j m : Nat), s7 = .int .i64 a ∧ s8 = .int .i64 (j : Int) ∧ j ≤ k ∧ found ns (lst x) j a ∧ -1 ≤ a ∧ wx = wr.drewN m) (fun _ s8 _ => k - (intOf s8).toNat)
          case atStart => exact ⟨a0, 0, 0, rfl, rfl, Nat.zero_le _, HF0.out, ha1, rfl⟩
          case round =>
            obtain ⟨a, j, m, rfl, rfl, hjk, hf, hage, rfl⟩ := hrel
            have HF := Lib.hid hf
            clear hf
            by_cases hj : j < k
            · have hjI : (j : Int) < (k : Int) := by omega
              by_cases hneg : a < 0
              · obtain rfl : a = -1 := by omega
                obtain ⟨b', off', y, hp', hy, hcy0⟩ := HM.out.at_ (i := j) (by rw [HL.out]; omega)
                simp only [Option.some.injEq, Addr.mk.injEq, and_true] at hp'
                obtain ⟨rfl, rfl⟩ := hp'
                have hcy := cell_later hb hcy0
                have hj0 : (0 : Int) ≤ (j : Int) := by omega
                have hjl : (j : Int) < (len : Int) := by omega
                have hnsj : ns[j]? = some (lst y) := by
                  rw [HN.out, List.getElem?_map, List.getElem?_take, if_pos hj, hy]
                  rfl
                have HNJ := Lib.hid hnsj
                clear hcy0 hy hnsj
                by_cases hyx : y = x
                · subst hyx
                  obtain ⟨g, gc, cur, rfl, _, _, _, hgc, hgm, _, _⟩ := owns_form hpl (by omega)
                  have hpc : wr.cell? ⟨g, j, none⟩ = some (.int .i64 (placeOf ns (lst y) : Int)) := by
                    rw [hpl.cellAt j (by omega)]
                    simp only [natV, placesOf, List.map_map, List.getElem?_map, HNJ.out]
                    rfl
                  have HF2 : Hid (found ns (lst y) (j + 1) (placeOf ns (lst y) : Int)) := Lib.hid (.inr ⟨rfl, .inr (List.mem_of_getElem? HNJ.out)⟩)
                  clear hneg
                  generalize (placeOf ns (lst y)) = q at *
                  go_wp2_with fail
                  go_quiet (fail)
                  go_wp2_with fail
                  go_roundw
                  case rel => exact ⟨_, j + 1, _, rfl, by go_num, hj, HF2.out, by omega, rfl⟩
                  case measure => simp [intOf]; omega
                · have hne2 := eq_no hyx
                  have HF2 : Hid (found ns (lst x) (j + 1) (-1)) := Lib.hid (by
                    rcases HF.out with ⟨h1, h2, h3⟩ | ⟨h1, _⟩
                    · refine .inl ⟨h1, h2, fun i z hi hz => ?_⟩
                      by_cases e : i = j
                      · subst e
                        rw [HNJ.out] at hz
                        cases hz
                        exact fun e => hyx (lst_inj e)
                      · exact h3 i z (by omega) hz
                    · omega)
                  clear hneg
                  go_wp2_with fail
                  go_quiet (fail)
                  go_wp2_with fail
                  go_roundw
                  case rel => exact ⟨_, j + 1, _, rfl, by go_num, hj, HF2.out, by omega, rfl⟩
                  case measure => simp [intOf]; omega
              · have HF2 : Hid (found ns (lst x) k a) := Lib.hid (by
                  rcases HF.out with ⟨h1, _⟩ | h1
                  · omega
                  · exact .inr h1)
                have hnI : ¬ a < 0 := hneg
                go_wp2_with fail
                go_meet
                exact ⟨a, m, rfl, HF2.out, hage, rfl⟩
            · obtain rfl : j = k := by omega
              have hjI : ¬ (j : Int) < (j : Int) := by omega
              go_wp2_with fail
              go_meet
              exact ⟨a, m, rfl, HF.out, hage, rfl⟩
        case rest =>
          obtain ⟨a, m, rfl, hf, hage, rfl⟩ := hcut
          have HF := Lib.hid hf
          clear hf
          have hownm : (wr.drewN m).ownsRow w.heap.size 5 1 u4 n ((tabOf ns).tb.map u8v) := hown
          have hplm : (wr.drewN m).ownsRow w.heap.size 3 1 u5 k (natV (placesOf ns)) := hpl
          have hbm : Below w.heap.size w (wr.drewN m) := below_drewN hb m
          have hcm : (wr.drewN m).cell? ⟨b, off + k, none⟩ = some (.string x) := hc
          clear hown hpl hb hc
          generalize wr.drewN m = wd at *
          go_upto_if 44 with fail
          go_cut [4, 7] (fun s4 s7 wx => ∃ (n2 q : Nat), s7 = .int .i64 (q : Int) ∧ q = placeOf (ns ++ [lst x]) (lst x) ∧ n2 ≤ 33 * (k + 1) + 1 ∧ wx.ownsRow w.heap.size 5 1 s4 n2 ((tabOf (ns ++ [lst x])).tb.map u8v) ∧ wx.ownsRow w.heap.size 3 1 u5 k (natV (placesOf ns)) ∧ Below w.heap.size w wx)
          case first =>
            by_cases hneg : a < 0
            · have hnew : lst x ≠ [] ∧ lst x ∉ ns := by
                rcases HF.out with ⟨_, h2, h3⟩ | ⟨h1, _⟩
                · refine ⟨h2, fun hm => ?_⟩
                  obtain ⟨j, hj⟩ := List.getElem?_of_mem hm
                  exact h3 j _ (by have := (List.getElem?_eq_some_iff.1 hj).1; have := HNL.out; omega) hj rfl
                · omega
              have HT := Lib.hid (tab_new hnew.1 hnew.2)
              have hx32 := (all_ne (HS.out x (List.mem_of_getElem? HX.out))).1
              have hxs : (lst x).length = x.size := by simp
              have HXS := Lib.hid hxs
              have hsz : x.size ≤ 32 := by omega
              have hnt : (tabOf ns).tb.length = n := by have := hownm.1; simpa using this
              have HNT := Lib.hid hnt
              have hap := owns_apart hplm hownm (by decide)
              obtain ⟨p4, c4, rfl, _, _, _, _⟩ := Has.of_owns hownm
              obtain rfl : a = -1 := by rcases HF.out with ⟨h, _⟩ | ⟨h, _⟩ <;> omega
              clear hnew hx32 hxs hnt hneg
              go_wp2_with (at_builtin; refine Lib.wpList_append_own_string wd rfl (.tmp 47) (.tmp 51) 31 9 rfl w.heap.size 5 i0 Tryz.underlying31 Tryz.underlying9 HI.out H0.out H1.out H2.out _ n _ rfl hownm x rfl (by unfold maxLen; omega) (by omega) hbm.size ?_)
              intro v5 w5 hown5 hgrow5 _
              have hpl5 := hplm.kept hgrow5 hap
              have hb5 : Below w.heap.size w w5 := hbm.grown hgrow5 hbm.size (fun g hg => (hownm.lt g hg).1)
              rw [strCells_lst, ← List.map_append] at hown5
              clear hgrow5 hplm hap hownm hbm hcm
              go_wp2_with (at_builtin; refine wpList_append_own _ rfl (.tmp 53) (.tmp 54) 31 rfl w.heap.size 5 i0 (.int .u8 0) 1 1 Tryz.underlying31 HI.out H0.out H1.out H2.out rfl (by decide) _ _ _ rfl (hown5.alloc _) ⟨w5.heap.size, 0, none⟩ 1 1 [u8v 0] rfl rfl (one_cell_at w5 0) (one_cells 0) (by unfold maxLen; omega) (by omega) (by have := hb5.size; simp; omega) ?_)
              intro v6 w6 hown6 hgrow6 _
              have hap6 := owns_apart (hpl5.alloc (.cells #[.int .u8 0] 5)) (hown5.alloc (.cells #[.int .u8 0] 5)) (by decide)
              have hpl6 := (hpl5.alloc (.cells #[.int .u8 0] 5)).kept hgrow6 hap6
              have hb6 : Below w.heap.size w w6 := (hb5.alloc hb5.size _).grown hgrow6 (by have := hb5.size; simp; omega) (fun g hg => (hown5.lt g hg).1)
              rw [row_snoc2] at hown6
              clear hgrow6 hpl5 hap6 hown5 hb5
              go_wp2_with fail
              go_meet
              refine ⟨n + x.size + 1, n, rfl, by rw [HT.out.2, HNT.out], by omega, ?_, hpl6, hb6⟩
              rw [HT.out.1, List.map_append]
              exact hown6
            · have hold : lst x = [] ∨ lst x ∈ ns := by
                rcases HF.out with ⟨h, _⟩ | ⟨_, h⟩
                · omega
                · exact h
              obtain ⟨q, rfl⟩ := Int.eq_ofNat_of_zero_le (show 0 ≤ a by omega)
              have HT := Lib.hid (tab_old hold)
              have HQ : Hid (q = placeOf ns (lst x)) := Lib.hid (by rcases HF.out with ⟨h, _⟩ | ⟨h, _⟩ <;> omega)
              have hnI : ¬ (q : Int) < 0 := by omega
              clear hold hneg
              go_wp2_with fail
              go_meet
              exact ⟨n, q, rfl, by rw [HT.out.2]; exact HQ.out, by omega, by rw [HT.out.1]; exact hownm, hplm, hbm⟩
          case rest =>
            obtain ⟨n2, q, rfl, hq, hn2, hown2, hpl2, hb2⟩ := hcut
            have HQ := Lib.hid hq
            clear hq hcm hownm hplm hbm
            go_wp2_with (at_builtin; refine wpList_append_own _ rfl (.tmp 56) (.tmp 58) 25 rfl w.heap.size 3 i1 (.int .i64 0) 1 8 Tryz.underlying25 GI.out G0.out G1.out G2.out rfl (by decide) _ _ _ rfl (hpl2.alloc _) ⟨wc.heap.size, 0, none⟩ 1 1 [Value.int .i64 (q : Int)] rfl rfl (one_cell_at2 wc _ _) (one_cells2 _) (by unfold maxLen; omega) (by omega) (by have := hb2.size; simp; omega) ?_)
            intro v7 w7 hpl7 hgrow7 _
            have hap7 := owns_apart (hown2.alloc (.cells #[.int .i64 (q : Int)] 3)) (hpl2.alloc (.cells #[.int .i64 (q : Int)] 3)) (by decide)
            have hown7 := (hown2.alloc (.cells #[.int .i64 (q : Int)] 3)).kept hgrow7 hap7
            have hb7 : Below w.heap.size w w7 := (hb2.alloc hb2.size _).grown hgrow7 (by have := hb2.size; simp; omega) (fun g hg => (hpl2.lt g hg).1)
            clear hgrow7 hpl2 hap7 hown2 hb2
            go_wp2_with fail
            go_roundw
            case rel =>
              have hn1 : (ss.take (k + 1)).map lst = ns ++ [lst x] := by
                rw [List.take_add_one, HX.out, HN.out]
                simp
              refine ⟨k + 1, n2, ns ++ [lst x], hlt, hn2, hn1.symm, by go_num, hown7, ?_, hb7⟩
              rw [placesOf_snoc, ← HQ.out, ← natV_snoc]
              exact hpl7
            case measure => simp [intOf]; omega
    · obtain rfl : k = len := by omega
      have ht : ss.take k = ss := List.take_of_length_le (by rw [HL.out]; exact Nat.le_refl _)
      have HNS : Hid (ns = ss.map lst) := Lib.hid (by rw [HN.out, ht])
      have hnt : (tabOf ns).tb.length = n := by have := hown.1; simpa using this
      have hkl : (placesOf ns).length = k := by have := hpl.1; simp [natV] at this; simpa using this
      rw [← hnt] at hown
      rw [← hkl] at hpl
      rw [HNS.out] at hown hpl
      clear ht hnt hkl
      go_wp2_with fail
      go_ret2
      exact ⟨_, _, rfl, hown, hpl, hb⟩

theorem refMake_any (p : Option Addr) (len cap : Nat) (ss : List ByteArray) (w : World) (h : HasS w p ss) (hlen : ss.length = len) (hs : shortB ss) :
    Calls Tryz.prog 19 #[.slice p len cap] w (GivesT (ss.map lst) w) :=
  refMake_wide p len cap ss w h hlen (by have := hs.1; omega) hs.2

end Go.Proofs.YtmcegjkkgbnjlaaGreat
