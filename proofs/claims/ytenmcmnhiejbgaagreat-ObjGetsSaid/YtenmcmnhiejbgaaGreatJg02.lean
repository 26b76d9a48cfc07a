/-
  Contracts of the reference's HeadBytes and Section.
  What is got of a header's bytes is what was put: sectAt and sectB. Nothing here walks the program.
  Words on append to a full slice of bytes (its capacity is its length): the bytes behind each other, what was there stands. They name types of the program, none of its functions.
  What the walks of layer shdr ask of the project's Get and Put.
  Contracts of the functions of le and of its reference that only read: which widths there are, whether all bytes are there, the number of bytes, Get.
  Contract: le.Get: the number of the bytes from a place on.
  Parts of an object's bytes (a section header, its name, what it tells): as data, and as rows of structs in memory, in either order of fields.
-/
import Derived.Test.YtenmcmnhiejbgaaGreatJg01
import Derived.Test.YtenmcmnhiejbgaaGreatMem
import Derived.Maps.AppendAt
import Derived.LoopTactic
import Derived.Lib.Hide
import Derived.Outline
import Derived.Laws.BitsAllLaws
import Derived.Laws.Bits64
namespace Go.Proofs.YtenmcmnhiejbgaaGreat
open Go.RowKit

theorem sectB_length (t : Ten) : (sectB t).length = 64 := rfl

/-- The numbers of the header at at. -/
def tenAt (l : List UInt8) (o : Nat) : Ten := ⟨numI l o 4, numI l (o + 4) 4, numI l (o + 8) 8, numI l (o + 16) 8, numI l (o + 24) 8, numI l (o + 32) 8, numI l (o + 40) 4, numI l (o + 44) 4, numI l (o + 48) 8, numI l (o + 56) 8⟩
def ten0 : Ten := ⟨0, 0, 0, 0, 0, 0, 0, 0, 0, 0⟩
/-- What Section tells. -/
def sectAt (l : List UInt8) (at_ : Int) : Option Ten := if 0 ≤ at_ ∧ at_ + 64 ≤ l.length ∧ (tenAt l at_.toNat).may then some (tenAt l at_.toNat) else none
def sectV (o : Option Ten) : Value × Bool := match o with | some t => (t.v, true) | none => (ten0.v, false)

theorem section_out (p : Option Addr) (len cap : Nat) (at_ : Int) (w : World) (h : at_ < 0 ∨ (len : Int) < at_ + 64) (hb0 : at_ ≤ 9223372036854775807) (_hbig : len ≤ 1000000000) :
    Calls Tryz.prog 56 #[.slice p len cap, .int .i64 at_] w fun e w' => e = .returned (.tuple #[ten0.v, .bool false]) ∧ Below w.heap.size w w' := by
  by_cases h0 : at_ < 0
  · clear h
    go_enter Tryz.func56, Tryz.ntmps56
    go_wp2_with fail
    exact bodyPost_ret (v := .tuple #[ten0.v, .bool false]) (by simp [results, Tryz.results56, go_sem, ten0]) rfl ⟨rfl, (Below.refl _ w).alloc (Nat.le_refl _) _⟩
  by_cases h1 : (len : Int) < at_
  · clear h
    go_enter Tryz.func56, Tryz.ntmps56
    go_wp2_with fail
    exact bodyPost_ret (v := .tuple #[ten0.v, .bool false]) (by simp [results, Tryz.results56, go_sem, ten0]) rfl ⟨rfl, (Below.refl _ w).alloc (Nat.le_refl _) _⟩
  have h2 : (len : Int) - at_ < 64 := by omega
  clear h
  go_enter Tryz.func56, Tryz.ntmps56
  go_wp2_with fail
  exact bodyPost_ret (v := .tuple #[ten0.v, .bool false]) (by simp [results, Tryz.results56, go_sem, ten0]) rfl ⟨rfl, (Below.refl _ w).alloc (Nat.le_refl _) _⟩

set_option maxRecDepth 100000 in
set_option maxHeartbeats 4000000 in
theorem section_in (p : Option Addr) (len cap a : Nat) (l : List UInt8) (w : World) (h : Has w p l) (hlen : l.length = len) (hcap : len ≤ cap) (hin : a + 64 ≤ len) (hbig : len ≤ 1000000000) :
    Calls Tryz.prog 56 #[.slice p len cap, .int .i64 a] w fun e w' => e = .returned (.tuple #[(sectV (sectAt l a)).1, .bool (sectV (sectAt l a)).2]) ∧ Below w.heap.size w w' := by
  have N0 : Hid (∀ W, Below w.heap.size w W → Calls Tryz.prog 102 #[.slice p len cap, .int .i64 (a : Int), .int .i64 4] W fun e w' => e = .returned (.int .i64 (numI l a 4)) ∧ W = w') := Lib.hid fun W hb => by
    have := rnum_any p len cap l a 4 W (h.below hb) hlen hcap (by omega) (by omega) (by omega) hbig
    exact this
  have N4 : Hid (∀ W, Below w.heap.size w W → Calls Tryz.prog 102 #[.slice p len cap, .int .i64 ((a : Int) + 4), .int .i64 4] W fun e w' => e = .returned (.int .i64 (numI l (a + 4) 4)) ∧ W = w') := Lib.hid fun W hb => by
    have := rnum_any p len cap l (a + 4) 4 W (h.below hb) hlen hcap (by omega) (by omega) (by omega) hbig
    rw [show ((a + 4 : Nat) : Int) = (a : Int) + 4 by omega] at this
    exact this
  have N8 : Hid (∀ W, Below w.heap.size w W → Calls Tryz.prog 102 #[.slice p len cap, .int .i64 ((a : Int) + 8), .int .i64 8] W fun e w' => e = .returned (.int .i64 (numI l (a + 8) 8)) ∧ W = w') := Lib.hid fun W hb => by
    have := rnum_any p len cap l (a + 8) 8 W (h.below hb) hlen hcap (by omega) (by omega) (by omega) hbig
    rw [show ((a + 8 : Nat) : Int) = (a : Int) + 8 by omega] at this
    exact this
  have N16 : Hid (∀ W, Below w.heap.size w W → Calls Tryz.prog 102 #[.slice p len cap, .int .i64 ((a : Int) + 16), .int .i64 8] W fun e w' => e = .returned (.int .i64 (numI l (a + 16) 8)) ∧ W = w') := Lib.hid fun W hb => by
    have := rnum_any p len cap l (a + 16) 8 W (h.below hb) hlen hcap (by omega) (by omega) (by omega) hbig
    rw [show ((a + 16 : Nat) : Int) = (a : Int) + 16 by omega] at this
    exact this
  have N24 : Hid (∀ W, Below w.heap.size w W → Calls Tryz.prog 102 #[.slice p len cap, .int .i64 ((a : Int) + 24), .int .i64 8] W fun e w' => e = .returned (.int .i64 (numI l (a + 24) 8)) ∧ W = w') := Lib.hid fun W hb => by
    have := rnum_any p len cap l (a + 24) 8 W (h.below hb) hlen hcap (by omega) (by omega) (by omega) hbig
    rw [show ((a + 24 : Nat) : Int) = (a : Int) + 24 by omega] at this
    exact this
  have N32 : Hid (∀ W, Below w.heap.size w W → Calls Tryz.prog 102 #[.slice p len cap, .int .i64 ((a : Int) + 32), .int .i64 8] W fun e w' => e = .returned (.int .i64 (numI l (a + 32) 8)) ∧ W = w') := Lib.hid fun W hb => by
    have := rnum_any p len cap l (a + 32) 8 W (h.below hb) hlen hcap (by omega) (by omega) (by omega) hbig
    rw [show ((a + 32 : Nat) : Int) = (a : Int) + 32 by omega] at this
    exact this
  have N40 : Hid (∀ W, Below w.heap.size w W → Calls Tryz.prog 102 #[.slice p len cap, .int .i64 ((a : Int) + 40), .int .i64 4] W fun e w' => e = .returned (.int .i64 (numI l (a + 40) 4)) ∧ W = w') := Lib.hid fun W hb => by
    have := rnum_any p len cap l (a + 40) 4 W (h.below hb) hlen hcap (by omega) (by omega) (by omega) hbig
    rw [show ((a + 40 : Nat) : Int) = (a : Int) + 40 by omega] at this
    exact this
  have N44 : Hid (∀ W, Below w.heap.size w W → Calls Tryz.prog 102 #[.slice p len cap, .int .i64 ((a : Int) + 44), .int .i64 4] W fun e w' => e = .returned (.int .i64 (numI l (a + 44) 4)) ∧ W = w') := Lib.hid fun W hb => by
    have := rnum_any p len cap l (a + 44) 4 W (h.below hb) hlen hcap (by omega) (by omega) (by omega) hbig
    rw [show ((a + 44 : Nat) : Int) = (a : Int) + 44 by omega] at this
    exact this
  have N48 : Hid (∀ W, Below w.heap.size w W → Calls Tryz.prog 102 #[.slice p len cap, .int .i64 ((a : Int) + 48), .int .i64 8] W fun e w' => e = .returned (.int .i64 (numI l (a + 48) 8)) ∧ W = w') := Lib.hid fun W hb => by
    have := rnum_any p len cap l (a + 48) 8 W (h.below hb) hlen hcap (by omega) (by omega) (by omega) hbig
    rw [show ((a + 48 : Nat) : Int) = (a : Int) + 48 by omega] at this
    exact this
  have N56 : Hid (∀ W, Below w.heap.size w W → Calls Tryz.prog 102 #[.slice p len cap, .int .i64 ((a : Int) + 56), .int .i64 8] W fun e w' => e = .returned (.int .i64 (numI l (a + 56) 8)) ∧ W = w') := Lib.hid fun W hb => by
    have := rnum_any p len cap l (a + 56) 8 W (h.below hb) hlen hcap (by omega) (by omega) (by omega) hbig
    rw [show ((a + 56 : Nat) : Int) = (a : Int) + 56 by omega] at this
    exact this
  have hbz : Below w.heap.size w (w.alloc (.cells #[.int .i64 0, .int .i64 0, .int .i64 0, .int .i64 0, .int .i64 0, .int .i64 0, .int .i64 0, .int .i64 0, .int .i64 0, .int .i64 0] 54)) := (Below.refl _ w).alloc (Nat.le_refl _) _
  have hT : tenAt l a = ⟨numI l a 4, numI l (a + 4) 4, numI l (a + 8) 8, numI l (a + 16) 8, numI l (a + 24) 8, numI l (a + 32) 8, numI l (a + 40) 4, numI l (a + 44) 4, numI l (a + 48) 8, numI l (a + 56) 8⟩ := rfl
  have hS : sectAt l a = if (tenAt l a).may then some (tenAt l a) else none := by
    unfold sectAt
    by_cases hm : (tenAt l a).may
    · rw [if_pos hm, if_pos ⟨by omega, by omega, hm⟩]; rfl
    · rw [if_neg hm, if_neg fun hc => hm hc.2.2]
  have hI0 : ¬ (a : Int) < 0 := by omega
  have hI1 : ¬ (len : Int) < (a : Int) := by omega
  have hI2 : ¬ (len : Int) - (a : Int) < 64 := by omega
  have ha9 : a ≤ 1000000000 := by omega
  clear h hlen
  generalize numI l a 4 = v0 at *
  generalize numI l (a + 4) 4 = v1 at *
  generalize numI l (a + 8) 8 = v2 at *
  generalize numI l (a + 16) 8 = v3 at *
  generalize numI l (a + 24) 8 = v4 at *
  generalize numI l (a + 32) 8 = v5 at *
  generalize numI l (a + 40) 4 = v6 at *
  generalize numI l (a + 44) 4 = v7 at *
  generalize numI l (a + 48) 8 = v8 at *
  generalize numI l (a + 56) 8 = v9 at *
  have HT := Lib.hid hT
  have HS := Lib.hid hS
  clear hT hS
  go_enter Tryz.func56, Tryz.ntmps56
  go_wp2_with fail
  refine (N0.out _ hbz).mono ?_
  rintro e w' ⟨rfl, rfl⟩
  go_wp2_with fail
  refine (N4.out _ hbz).mono ?_
  rintro e w' ⟨rfl, rfl⟩
  go_wp2_with fail
  refine (N8.out _ hbz).mono ?_
  rintro e w' ⟨rfl, rfl⟩
  go_wp2_with fail
  refine (N16.out _ hbz).mono ?_
  rintro e w' ⟨rfl, rfl⟩
  go_wp2_with fail
  refine (N24.out _ hbz).mono ?_
  rintro e w' ⟨rfl, rfl⟩
  go_wp2_with fail
  refine (N32.out _ (hbz.alloc (by simp) _)).mono ?_
  rintro e w' ⟨rfl, rfl⟩
  go_wp2_with fail
  refine (N40.out _ (hbz.alloc (by simp) _)).mono ?_
  rintro e w' ⟨rfl, rfl⟩
  go_wp2_with fail
  refine (N44.out _ (hbz.alloc (by simp) _)).mono ?_
  rintro e w' ⟨rfl, rfl⟩
  go_wp2_with fail
  refine (N48.out _ (hbz.alloc (by simp) _)).mono ?_
  rintro e w' ⟨rfl, rfl⟩
  go_wp2_with fail
  refine (N56.out _ (hbz.alloc (by simp) _)).mono ?_
  rintro e w' ⟨rfl, rfl⟩
  have hb2 : Below w.heap.size w ((w.alloc (.cells #[.int .i64 0, .int .i64 0, .int .i64 0, .int .i64 0, .int .i64 0, .int .i64 0, .int .i64 0, .int .i64 0, .int .i64 0, .int .i64 0] 54)).alloc (.cells #[.int .i64 v0, .int .i64 v1, .int .i64 v2, .int .i64 v3, .int .i64 v4, .int .i64 v5, .int .i64 v6, .int .i64 v7, .int .i64 v8, .int .i64 v9] 54)) := hbz.alloc (by simp) _
  go_wp2_with fail
  by_cases hm : (Ten.mk v0 v1 v2 v3 v4 v5 v6 v7 v8 v9).may
  · have HO : Hid (sectV (sectAt l a) = (Ten.v ⟨v0, v1, v2, v3, v4, v5, v6, v7, v8, v9⟩, true)) := Lib.hid (by rw [HS.out, HT.out, if_pos hm]; rfl)
    refine (may_yes ⟨v0, v1, v2, v3, v4, v5, v6, v7, v8, v9⟩ _ hm).mono ?_
    rintro e w3 ⟨rfl, hbb⟩
    have c0 : w3.cell? ⟨w.heap.size, 0, none⟩ = some (.int .i64 0) := by rw [hbb.cell (by simp <;> omega)]; simp
    have d0 : w3.cell? ⟨w.heap.size + 1, 0, none⟩ = some (.int .i64 v0) := by rw [hbb.cell (by simp <;> omega)]; simp
    have f0 : w3.frozen? ⟨w.heap.size, 0, none⟩ = false := by rw [hbb.frozen (by simp <;> omega)]; simp
    have c1 : w3.cell? ⟨w.heap.size, 1, none⟩ = some (.int .i64 0) := by rw [hbb.cell (by simp <;> omega)]; simp
    have d1 : w3.cell? ⟨w.heap.size + 1, 1, none⟩ = some (.int .i64 v1) := by rw [hbb.cell (by simp <;> omega)]; simp
    have f1 : w3.frozen? ⟨w.heap.size, 1, none⟩ = false := by rw [hbb.frozen (by simp <;> omega)]; simp
    have c2 : w3.cell? ⟨w.heap.size, 2, none⟩ = some (.int .i64 0) := by rw [hbb.cell (by simp <;> omega)]; simp
    have d2 : w3.cell? ⟨w.heap.size + 1, 2, none⟩ = some (.int .i64 v2) := by rw [hbb.cell (by simp <;> omega)]; simp
    have f2 : w3.frozen? ⟨w.heap.size, 2, none⟩ = false := by rw [hbb.frozen (by simp <;> omega)]; simp
    have c3 : w3.cell? ⟨w.heap.size, 3, none⟩ = some (.int .i64 0) := by rw [hbb.cell (by simp <;> omega)]; simp
    have d3 : w3.cell? ⟨w.heap.size + 1, 3, none⟩ = some (.int .i64 v3) := by rw [hbb.cell (by simp <;> omega)]; simp
    have f3 : w3.frozen? ⟨w.heap.size, 3, none⟩ = false := by rw [hbb.frozen (by simp <;> omega)]; simp
    have c4 : w3.cell? ⟨w.heap.size, 4, none⟩ = some (.int .i64 0) := by rw [hbb.cell (by simp <;> omega)]; simp
    have d4 : w3.cell? ⟨w.heap.size + 1, 4, none⟩ = some (.int .i64 v4) := by rw [hbb.cell (by simp <;> omega)]; simp
    have f4 : w3.frozen? ⟨w.heap.size, 4, none⟩ = false := by rw [hbb.frozen (by simp <;> omega)]; simp
    have c5 : w3.cell? ⟨w.heap.size, 5, none⟩ = some (.int .i64 0) := by rw [hbb.cell (by simp <;> omega)]; simp
    have d5 : w3.cell? ⟨w.heap.size + 1, 5, none⟩ = some (.int .i64 v5) := by rw [hbb.cell (by simp <;> omega)]; simp
    have f5 : w3.frozen? ⟨w.heap.size, 5, none⟩ = false := by rw [hbb.frozen (by simp <;> omega)]; simp
    have c6 : w3.cell? ⟨w.heap.size, 6, none⟩ = some (.int .i64 0) := by rw [hbb.cell (by simp <;> omega)]; simp
    have d6 : w3.cell? ⟨w.heap.size + 1, 6, none⟩ = some (.int .i64 v6) := by rw [hbb.cell (by simp <;> omega)]; simp
    have f6 : w3.frozen? ⟨w.heap.size, 6, none⟩ = false := by rw [hbb.frozen (by simp <;> omega)]; simp
    have c7 : w3.cell? ⟨w.heap.size, 7, none⟩ = some (.int .i64 0) := by rw [hbb.cell (by simp <;> omega)]; simp
    have d7 : w3.cell? ⟨w.heap.size + 1, 7, none⟩ = some (.int .i64 v7) := by rw [hbb.cell (by simp <;> omega)]; simp
    have f7 : w3.frozen? ⟨w.heap.size, 7, none⟩ = false := by rw [hbb.frozen (by simp <;> omega)]; simp
    have c8 : w3.cell? ⟨w.heap.size, 8, none⟩ = some (.int .i64 0) := by rw [hbb.cell (by simp <;> omega)]; simp
    have d8 : w3.cell? ⟨w.heap.size + 1, 8, none⟩ = some (.int .i64 v8) := by rw [hbb.cell (by simp <;> omega)]; simp
    have f8 : w3.frozen? ⟨w.heap.size, 8, none⟩ = false := by rw [hbb.frozen (by simp <;> omega)]; simp
    have c9 : w3.cell? ⟨w.heap.size, 9, none⟩ = some (.int .i64 0) := by rw [hbb.cell (by simp <;> omega)]; simp
    have d9 : w3.cell? ⟨w.heap.size + 1, 9, none⟩ = some (.int .i64 v9) := by rw [hbb.cell (by simp <;> omega)]; simp
    have f9 : w3.frozen? ⟨w.heap.size, 9, none⟩ = false := by rw [hbb.frozen (by simp <;> omega)]; simp
    have hb3 : Below w.heap.size w w3 := hb2.trans (hbb.mono (by simp <;> omega))
    clear hbb hm hb2 hbz
    go_wp2_with fail
    rw [HO.out]
    exact bodyPost_ret (v := .tuple #[Ten.v ⟨v0, v1, v2, v3, v4, v5, v6, v7, v8, v9⟩, .bool true]) (by simp [results, Tryz.results56, go_sem, c0, c1, c2, c3, c4, c5, c6, c7, c8, c9]) rfl ⟨rfl, ((((((((((hb3.setCell (Nat.le_refl _) _).setCell (Nat.le_refl _) _).setCell (Nat.le_refl _) _).setCell (Nat.le_refl _) _).setCell (Nat.le_refl _) _).setCell (Nat.le_refl _) _).setCell (Nat.le_refl _) _).setCell (Nat.le_refl _) _).setCell (Nat.le_refl _) _).setCell (Nat.le_refl _) _)⟩
  · have HO : Hid (sectV (sectAt l a) = (ten0.v, false)) := Lib.hid (by rw [HS.out, HT.out, if_neg hm]; rfl)
    refine (may_no ⟨v0, v1, v2, v3, v4, v5, v6, v7, v8, v9⟩ _ hm).mono ?_
    rintro e w3 ⟨rfl, hbb⟩
    have c0 : w3.cell? ⟨w.heap.size, 0, none⟩ = some (.int .i64 0) := by rw [hbb.cell (by simp <;> omega)]; simp
    have d0 : w3.cell? ⟨w.heap.size + 1, 0, none⟩ = some (.int .i64 v0) := by rw [hbb.cell (by simp <;> omega)]; simp
    have f0 : w3.frozen? ⟨w.heap.size, 0, none⟩ = false := by rw [hbb.frozen (by simp <;> omega)]; simp
    have c1 : w3.cell? ⟨w.heap.size, 1, none⟩ = some (.int .i64 0) := by rw [hbb.cell (by simp <;> omega)]; simp
    have d1 : w3.cell? ⟨w.heap.size + 1, 1, none⟩ = some (.int .i64 v1) := by rw [hbb.cell (by simp <;> omega)]; simp
    have f1 : w3.frozen? ⟨w.heap.size, 1, none⟩ = false := by rw [hbb.frozen (by simp <;> omega)]; simp
    have c2 : w3.cell? ⟨w.heap.size, 2, none⟩ = some (.int .i64 0) := by rw [hbb.cell (by simp <;> omega)]; simp
    have d2 : w3.cell? ⟨w.heap.size + 1, 2, none⟩ = some (.int .i64 v2) := by rw [hbb.cell (by simp <;> omega)]; simp
    have f2 : w3.frozen? ⟨w.heap.size, 2, none⟩ = false := by rw [hbb.frozen (by simp <;> omega)]; simp
    have c3 : w3.cell? ⟨w.heap.size, 3, none⟩ = some (.int .i64 0) := by rw [hbb.cell (by simp <;> omega)]; simp
    have d3 : w3.cell? ⟨w.heap.size + 1, 3, none⟩ = some (.int .i64 v3) := by rw [hbb.cell (by simp <;> omega)]; simp
    have f3 : w3.frozen? ⟨w.heap.size, 3, none⟩ = false := by rw [hbb.frozen (by simp <;> omega)]; simp
    have c4 : w3.cell? ⟨w.heap.size, 4, none⟩ = some (.int .i64 0) := by rw [hbb.cell (by simp <;> omega)]; simp
    have d4 : w3.cell? ⟨w.heap.size + 1, 4, none⟩ = some (.int .i64 v4) := by rw [hbb.cell (by simp <;> omega)]; simp
    have f4 : w3.frozen? ⟨w.heap.size, 4, none⟩ = false := by rw [hbb.frozen (by simp <;> omega)]; simp
    have c5 : w3.cell? ⟨w.heap.size, 5, none⟩ = some (.int .i64 0) := by rw [hbb.cell (by simp <;> omega)]; simp
    have d5 : w3.cell? ⟨w.heap.size + 1, 5, none⟩ = some (.int .i64 v5) := by rw [hbb.cell (by simp <;> omega)]; simp
    have f5 : w3.frozen? ⟨w.heap.size, 5, none⟩ = false := by rw [hbb.frozen (by simp <;> omega)]; simp
    have c6 : w3.cell? ⟨w.heap.size, 6, none⟩ = some (.int .i64 0) := by rw [hbb.cell (by simp <;> omega)]; simp
    have d6 : w3.cell? ⟨w.heap.size + 1, 6, none⟩ = some (.int .i64 v6) := by rw [hbb.cell (by simp <;> omega)]; simp
    have f6 : w3.frozen? ⟨w.heap.size, 6, none⟩ = false := by rw [hbb.frozen (by simp <;> omega)]; simp
    have c7 : w3.cell? ⟨w.heap.size, 7, none⟩ = some (.int .i64 0) := by rw [hbb.cell (by simp <;> omega)]; simp
    have d7 : w3.cell? ⟨w.heap.size + 1, 7, none⟩ = some (.int .i64 v7) := by rw [hbb.cell (by simp <;> omega)]; simp
    have f7 : w3.frozen? ⟨w.heap.size, 7, none⟩ = false := by rw [hbb.frozen (by simp <;> omega)]; simp
    have c8 : w3.cell? ⟨w.heap.size, 8, none⟩ = some (.int .i64 0) := by rw [hbb.cell (by simp <;> omega)]; simp
    have d8 : w3.cell? ⟨w.heap.size + 1, 8, none⟩ = some (.int .i64 v8) := by rw [hbb.cell (by simp <;> omega)]; simp
    have f8 : w3.frozen? ⟨w.heap.size, 8, none⟩ = false := by rw [hbb.frozen (by simp <;> omega)]; simp
    have c9 : w3.cell? ⟨w.heap.size, 9, none⟩ = some (.int .i64 0) := by rw [hbb.cell (by simp <;> omega)]; simp
    have d9 : w3.cell? ⟨w.heap.size + 1, 9, none⟩ = some (.int .i64 v9) := by rw [hbb.cell (by simp <;> omega)]; simp
    have f9 : w3.frozen? ⟨w.heap.size, 9, none⟩ = false := by rw [hbb.frozen (by simp <;> omega)]; simp
    have hb3 : Below w.heap.size w w3 := hb2.trans (hbb.mono (by simp <;> omega))
    clear hbb hm hb2 hbz
    go_wp2_with fail
    rw [HO.out]
    exact bodyPost_ret (v := .tuple #[ten0.v, .bool false]) (by simp [results, Tryz.results56, go_sem, ten0, c0, c1, c2, c3, c4, c5, c6, c7, c8, c9]) rfl ⟨rfl, ((((((((((hb3.setCell (Nat.le_refl _) _).setCell (Nat.le_refl _) _).setCell (Nat.le_refl _) _).setCell (Nat.le_refl _) _).setCell (Nat.le_refl _) _).setCell (Nat.le_refl _) _).setCell (Nat.le_refl _) _).setCell (Nat.le_refl _) _).setCell (Nat.le_refl _) _).setCell (Nat.le_refl _) _)⟩

end Go.Proofs.YtenmcmnhiejbgaaGreat

namespace Go.Proofs.YtenmcmnhiejbgaaGreat
open Go.RowKit

theorem win_append (l : List UInt8) (a m n : Nat) : win l a m ++ win l (a + m) n = win l a (m + n) := by
  unfold win
  rw [List.drop_take, List.drop_take, List.drop_take, ← List.drop_drop]
  have e1 : a + m - a = m := by omega
  have e2 : a + m + n - (a + m) = n := by omega
  have e3 : a + (m + n) - a = m + n := by omega
  rw [e1, e2, e3]
  exact (List.take_add (l := l.drop a) (i := m) (j := n)).symm
theorem win_win (l : List UInt8) (a n o k : Nat) (h : o + k ≤ n) : win (win l a n) o k = win l (a + o) k := by
  unfold win
  rw [List.drop_take, List.drop_take, List.drop_take, List.drop_take, List.take_take, List.drop_drop]
  congr 1
  omega

theorem leB_win {l : List UInt8} {a k : Nat} (h : a + k ≤ l.length) (hf : fitsB (numI l a k) = true) : leB k (u64n (numI l a k)) = win l a k := by
  have h2 := (fitsB_iff _).1 hf
  have hn : numI l a k = (num (win l a k) : Int) := by
    unfold numI at h2 ⊢
    split
    · rfl
    · rename_i hc
      rw [if_neg hc] at h2
      omega
  have hl : num (win l a k) < 18446744073709551616 := by rw [hn] at h2; omega
  rw [hn, u64n_nat _ hl]
  have := leB_num (win l a k)
  rwa [win_length l a k h] at this
theorem numI_of {l : List UInt8} {a k : Nat} {x : Int} (hx : fitsB x = true) (hk : 2147483647 < 256 ^ k) (h : win l a k = leB k (u64n x)) : numI l a k = x := by
  have h2 := (fitsB_iff _).1 hx
  have hu : u64n x = x.toNat := by unfold u64n; omega
  have hn : num (win l a k) = x.toNat := by
    rw [h, num_leB, hu, Nat.mod_eq_of_lt (by omega)]
  unfold numI
  rw [hn, if_pos (by omega)]
  omega

end Go.Proofs.YtenmcmnhiejbgaaGreat

namespace Go.Proofs.YtenmcmnhiejbgaaGreat
open Go.RowKit

theorem below_grow (w : World) (o : Obj) : Below w.heap.size w (w.drew.alloc o) := (Below.refl _ w).drew.alloc (by simp) o

/-- append to a row of the call's own, of a slice that came in or was made: nil or not. -/
theorem wpList_append_bytes {P : Program} (w : World) {ops : Array Oper} {rest : List Oper} {o : Oper} {a : Act} {Q : Exit → Act → World → Prop} (hgd : o.guard = none) (s x : Operand) (t : TypeId)
    (ho : o.op = .call { callee := .builtin .append, args := #[s, x], argTypes := #[t, t] })
    (base : Nat) (e : TypeId) (i : TypeInfo) (ht : P.underlying t = some (.slice e)) (hi : P.info? e = some i) (hz : i.zero = some (.int .u8 0)) (hs : i.size = 1) (hb : i.bytes = 1)
    (v : Value) (n : Nat) (l : List UInt8) (hes : a.eval s = v) (hown : w.ownsRow base e 1 v n (l.map u8v)) (q : Option Addr) (m c : Nat) (r : List UInt8) (hex : a.eval x = .slice q m c) (hq : Has w q r) (hr : r.length = m) (hcq : q = none → c = 0)
    (hbig : n + m ≤ 1000000000) (hbase : base ≤ w.heap.size)
    (h : ∀ v' w', w'.ownsRow base e 1 v' (n + m) ((l ++ r).map u8v) → w.grownBy w' v.ownBlock → (v'.ownBlock = v.ownBlock ∨ v'.ownBlock = some w.heap.size) → wpList P ops Q rest (a.put o.dst v') w') : wpList P ops Q (o :: rest) a w := by
  rcases q with _ | ad
  · have hr0 : r = [] := by
      cases r with
      | nil => rfl
      | cons y r => obtain ⟨a, e, _⟩ := hq 0 y rfl; cases e
    subst hr0
    have hm : m = 0 := hr.symm
    subst hm
    rw [hcq rfl] at hex
    exact wpList_append_own_none hgd s x t ho base e i 1 ht hi v n _ hes hown hex (h v w (by simpa using hown) (World.grownBy.refl w _) (.inl rfl))
  · exact wpList_append_own_at w hgd s x t ho base e i (.int .u8 0) 1 1 ht hi hz hs hb rfl (by decide) v n _ hes hown ad m c (r.map u8v) hex (by simp [hr]) hq.cells (map_oneCell _) (by unfold maxLen; omega) (by omega) hbase
      fun v' w' h1 h2 _ h4 => h v' w' (by rw [List.map_append]; exact h1) h2 h4

end Go.Proofs.YtenmcmnhiejbgaaGreat

namespace Go.Proofs.YtenmcmnhiejbgaaGreat
open Go.RowKit

/-- What Get tells, of any place. -/
def TGetOK : Prop := ∀ (p : Option Addr) (len cap : Nat) (l : List UInt8) (at_ : Int) (w : World), Has w p l → l.length = len → len ≤ cap → cap ≤ maxLen → len ≤ 100000 → -9223372036854775808 ≤ at_ → at_ ≤ 9223372036854775807 →
    Calls Tryz.prog 83 #[.slice p len cap, .int .i64 at_] w fun e w' => e = .returned (.tuple #[(sectV (sectAt l at_)).1, .bool (sectV (sectAt l at_)).2]) ∧ Below w.heap.size w w'
/-- What Put tells. -/
def TPutOK : Prop := ∀ (t : Ten) (w : World), (t.may → Calls Tryz.prog 70 #[t.v] w (Gives (sectB t) w)) ∧ (¬ t.may → Calls Tryz.prog 70 #[t.v] w (GivesH 0 [] w))

theorem tsection_any (p : Option Addr) (len cap : Nat) (l : List UInt8) (at_ : Int) (w : World) (h : Has w p l) (hlen : l.length = len) (hcap : len ≤ cap) (hbig : len ≤ 1000000000) (ha : at_ ≤ 9223372036854775807) :
    Calls Tryz.prog 56 #[.slice p len cap, .int .i64 at_] w fun e w' => e = .returned (.tuple #[(sectV (sectAt l at_)).1, .bool (sectV (sectAt l at_)).2]) ∧ Below w.heap.size w w' := by
  by_cases hin : 0 ≤ at_ ∧ at_ + 64 ≤ len
  · obtain ⟨a, rfl⟩ := Int.eq_ofNat_of_zero_le hin.1
    exact section_in p len cap a l w h hlen hcap (by omega) hbig
  · have e : sectAt l at_ = none := by
      unfold sectAt
      rw [if_neg fun hc => hin ⟨hc.1, by omega⟩]
    rw [e]
    exact section_out p len cap at_ w (by omega) ha hbig

end Go.Proofs.YtenmcmnhiejbgaaGreat

namespace Go.Proofs.YtenmcmnhiejbgaaGreat
open Go.RowKit

theorem isWidth_any (n : Int) (w : World) : Calls Tryz.prog 129 #[.int .i64 n] w fun e w' => e = .returned (.bool (wid n)) ∧ w = w' := by
  by_cases h1 : n = 1
  · subst h1
    go_enter Tryz.func129, Tryz.ntmps129
    go_wp2
    go_ret
    exact ⟨rfl, rfl⟩
  by_cases h2 : n = 2
  · subst h2
    go_enter Tryz.func129, Tryz.ntmps129
    go_wp2
    go_ret
    exact ⟨rfl, rfl⟩
  by_cases h4 : n = 4
  · subst h4
    go_enter Tryz.func129, Tryz.ntmps129
    go_wp2
    go_ret
    exact ⟨rfl, rfl⟩
  by_cases h8 : n = 8
  · subst h8
    go_enter Tryz.func129, Tryz.ntmps129
    go_wp2
    go_ret
    exact ⟨rfl, rfl⟩
  have hw : wid n = false := by simp [wid, h1, h2, h4, h8]
  have H := Lib.hid hw
  clear hw
  have e1 : (n == 1) = false := by simpa using h1
  have e2 : (n == 2) = false := by simpa using h2
  have e4 : (n == 4) = false := by simpa using h4
  have e8 : (n == 8) = false := by simpa using h8
  clear h1 h2 h4 h8
  go_enter Tryz.func129, Tryz.ntmps129
  go_wp2
  go_ret
  exact ⟨ret_b H.out.symm, rfl⟩

theorem hasAll_any (p : Option Addr) (len cap : Nat) (at_ n : Int) (w : World) (hl : len ≤ maxLen) :
    Calls Tryz.prog 131 #[.slice p len cap, .int .i64 at_, .int .i64 n] w fun e w' => e = .returned (.bool (fitB len at_ n)) ∧ w = w' := by
  unfold maxLen at hl
  by_cases hw : wid n = true
  · have hn := (wid_iff n).1 hw
    have hn1 : 1 ≤ n := by omega
    have hn8 : n ≤ 8 := by omega
    by_cases h0 : 0 ≤ at_
    · by_cases h1 : at_ ≤ (len : Int) - n
      · have H : Hid (fitB len at_ n = true) := Lib.hid ((fitB_iff _ _ _).2 ⟨hn, h0, h1⟩)
        clear hn
        go_enter Tryz.func131, Tryz.ntmps131
        go_wp2_with (go_at_call 129; refine (isWidth_any _ _).mono ?_; rintro e w' ⟨rfl, rfl⟩)
        go_ret
        exact ⟨ret_b H.out.symm, rfl⟩
      · have H : Hid (fitB len at_ n = false) := Lib.hid (by simp [fitB, h1])
        clear hn
        go_enter Tryz.func131, Tryz.ntmps131
        go_wp2_with (go_at_call 129; refine (isWidth_any _ _).mono ?_; rintro e w' ⟨rfl, rfl⟩)
        go_ret
        exact ⟨ret_b (by rw [H.out]; simpa using h1), rfl⟩
    · have H : Hid (fitB len at_ n = false) := Lib.hid (by simp [fitB, h0])
      clear hn
      go_enter Tryz.func131, Tryz.ntmps131
      go_wp2_with (go_at_call 129; refine (isWidth_any _ _).mono ?_; rintro e w' ⟨rfl, rfl⟩)
      go_ret
      exact ⟨ret_b H.out.symm, rfl⟩
  · have hw' : wid n = false := by simpa using hw
    have H : Hid (fitB len at_ n = false) := Lib.hid (by simp [fitB, hw'])
    clear hw
    go_enter Tryz.func131, Tryz.ntmps131
    go_wp2_with (go_at_call 129; refine (isWidth_any _ _).mono ?_; rintro e w' ⟨rfl, rfl⟩)
    go_ret
    exact ⟨ret_b H.out.symm, rfl⟩

end Go.Proofs.YtenmcmnhiejbgaaGreat

namespace Go.Proofs.YtenmcmnhiejbgaaGreat
open Go.RowKit

/-- 'v<<8 | x' where nothing is shifted out. -/
theorem or_byte (q x : Nat) (hq : q < 72057594037927936) (hx : x < 256) : bits .or .u64 ((q : Int) * 256) (x : Int) = ((x + 256 * q : Nat) : Int) := by
  rw [show (q : Int) * 256 = ((q * 256 : Nat) : Int) by omega, u64_or_nat _ _ (by omega) (by omega)]
  congr 1
  have h := Nat.two_pow_add_eq_or_of_lt (i := 8) (b := x) (by omega) q
  rw [show (2 : Nat) ^ 8 = 256 from rfl] at h
  rw [Nat.mul_comm q 256, ← h]
  omega

theorem get_any (p : Option Addr) (len cap : Nat) (l : List UInt8) (at_ n : Int) (w : World) (h : Has w p l) (hlen : l.length = len) (hcap : len ≤ cap) (hm : cap ≤ maxLen) :
    Calls Tryz.prog 118 #[.slice p len cap, .int .i64 at_, .int .i64 n] w fun e w' => e = .returned (.tuple #[.int .u64 (getB l at_ n : Int), .bool (fitB len at_ n)]) ∧ w = w' := by
  have hml : len ≤ maxLen := by omega
  unfold maxLen at hm
  by_cases hf : fitB len at_ n = true
  · obtain ⟨hn, h0, h1⟩ := (fitB_iff _ _ _).1 hf
    obtain ⟨j, rfl⟩ := Int.eq_ofNat_of_zero_le h0
    obtain ⟨k, rfl⟩ := Int.eq_ofNat_of_zero_le (show 0 ≤ n by omega)
    have hk8 : k ≤ 8 := by omega
    have hk1 : 1 ≤ k := by omega
    have hjk : j + k ≤ len := by omega
    have HG : Hid (getB l j k = num (win l j k)) := Lib.hid (by simp [getB, hlen, hf])
    have HF := Lib.hid hf
    have HW := Lib.hid (win_length l j k (by omega))
    have hw8 : (win l j k).length ≤ 8 := by rw [HW.out]; exact hk8
    obtain ⟨b, off, rfl, hcell⟩ := h.plain (by omega)
    have hg : ∀ i x, (win l j k)[i]? = some x → w.cell? ⟨b, off + (j + i), none⟩ = some (.int .u8 (x.toNat : Int)) := fun i x hx => by
      have hi : i < k := by have := (List.getElem?_eq_some_iff.1 hx).1; rw [HW.out] at this; exact this
      rw [win_get l j k i hi] at hx
      exact hcell _ _ hx
    have HC := Lib.hid hg
    generalize win l j k = u at *
    clear hn hlen h hcell hg
    go_enter Tryz.func118, Tryz.ntmps118
    go_wp2_with (go_at_call 131; refine (hasAll_any _ _ _ _ _ _ hml).mono ?_; rintro e w' ⟨rfl, rfl⟩)
    have HU := HW.out
    go_loop [8, 9] (fun v i => ∃ k : Int, -1 ≤ k ∧ k < u.length ∧ i = .int .i64 k ∧ v = .int .u64 (num (u.drop (k + 1).toNat) : Int)) (fun _ i => (intOf i + 1).toNat)
    case atStart => exact ⟨(k : Int) - 1, by omega, by omega, rfl, by simp [← HU, num]⟩
    case round =>
      obtain ⟨i, hi, hil, rfl, rfl⟩ := hrel
      clear HU
      by_cases h0 : 0 ≤ i
      · obtain ⟨m, rfl⟩ := Int.eq_ofNat_of_zero_le h0
        have hmu : m < u.length := by omega
        obtain ⟨x, hx⟩ : ∃ x, u[m]? = some x := ⟨_, List.getElem?_eq_getElem hmu⟩
        have hc := HC.out m x hx
        have hx8 := x.toNat_lt
        have e1 : ((m : Int) + 1).toNat = m + 1 := by omega
        have hd := num_drop u m x hx
        have hlt := num_drop_lt u (m + 1) hw8 (by omega)
        rw [e1]
        have HD := Lib.hid hd
        have hmk : m < k := by have := HW.out; omega
        clear hd e1 hx
        generalize num (u.drop (m + 1)) = q at *
        go_wp2
        go_round
        case rel =>
          refine ⟨(m : Int) - 1, by omega, by omega, rfl, ?_⟩
          have e2 : ((m : Int) - 1 + 1).toNat = m := by omega
          rw [e2, HD.out, or_byte _ _ hlt hx8]
        case measure => simp [intOf]
      · go_wp2
        go_ret2
        have e2 : (i + 1).toNat = 0 := by omega
        rw [e2, HG.out]
        exact ⟨rfl, rfl⟩
  · have hf' : fitB len at_ n = false := by simpa using hf
    have HG : Hid (getB l at_ n = 0) := Lib.hid (by simp [getB, hlen, hf'])
    clear hf hlen
    go_enter Tryz.func118, Tryz.ntmps118
    go_wp2_with (go_at_call 131; refine (hasAll_any _ _ _ _ _ _ hml).mono ?_; rintro e w' ⟨rfl, rfl⟩)
    go_ret2
    rw [HG.out, hf']
    exact ⟨rfl, rfl⟩

end Go.Proofs.YtenmcmnhiejbgaaGreat

namespace Go.Proofs.YtenmcmnhiejbgaaGreat
open Go.RowKit

structure PartD where
  (h : Ten) (name : ByteArray) (b : List UInt8)
/-- A part as it lies in memory: the slice of what it tells as a value. -/
structure PV where
  (h : Ten) (name : ByteArray) (v : Value)
/-- Its twelve cells: the reference's order (head, name, bytes), or name, head, bytes. -/
def PV.cells (q : Bool) (p : PV) : List Value := bif q then p.h.l.map (Value.int .i64) ++ [.string p.name, p.v] else .string p.name :: (p.h.l.map (Value.int .i64) ++ [p.v])
def pvs (q : Bool) (l : List PV) : List Value := l.flatMap (PV.cells q)
theorem PV.cells_length (q : Bool) (p : PV) : (p.cells q).length = 12 := by cases q <;> rfl
theorem pvs_length (q : Bool) : ∀ l : List PV, (pvs q l).length = l.length * 12
  | [] => rfl
  | p :: r => by
    have h := pvs_length q r
    unfold pvs at h ⊢
    rw [List.flatMap_cons, List.length_append, PV.cells_length, h, List.length_cons]
    omega
theorem pvs_append (q : Bool) (a b : List PV) : pvs q (a ++ b) = pvs q a ++ pvs q b := by unfold pvs; rw [List.flatMap_append]
theorem pvs_snoc (q : Bool) (a : List PV) (p : PV) : pvs q (a ++ [p]) = pvs q a ++ p.cells q := by rw [pvs_append]; unfold pvs; simp
theorem pvs_get (q : Bool) : ∀ (l : List PV) (i : Nat) (p : PV) (j : Nat), l[i]? = some p → j < 12 → (pvs q l)[i * 12 + j]? = (p.cells q)[j]?
  | [], i, p, j, h, _ => by simp at h
  | x :: r, 0, p, j, h, hj => by
    simp at h
    subst h
    unfold pvs
    rw [List.flatMap_cons, List.getElem?_append_left (by rw [PV.cells_length]; omega), Nat.zero_mul, Nat.zero_add]
  | x :: r, i + 1, p, j, h, hj => by
    have ih := pvs_get q r i p j (by simpa using h) hj
    unfold pvs at ih ⊢
    rw [List.flatMap_cons, List.getElem?_append_right (by rw [PV.cells_length]; omega), PV.cells_length, ← ih]
    congr 1
    omega

/-- v is a slice of the bytes l, in blocks as K tells. -/
def SlB (w : World) (K : Nat → Prop) (v : Value) (l : List UInt8) : Prop :=
  ∃ p c, v = .slice p l.length c ∧ l.length ≤ c ∧ c ≤ maxLen ∧ (p = none → c = 0) ∧ ∀ i x, l[i]? = some x → ∃ a, p = some a ∧ w.cell? (a.add i) = some (u8v x) ∧ K a.block
theorem SlB.weaken {w : World} {K K' : Nat → Prop} {v : Value} {l : List UInt8} (h : SlB w K v l) (hK : ∀ b, b < w.heap.size → K b → K' b) : SlB w K' v l := by
  obtain ⟨p, c, e, h1, h2, h3, h4⟩ := h
  refine ⟨p, c, e, h1, h2, h3, fun i x hx => ?_⟩
  obtain ⟨a, ea, hc, hk⟩ := h4 i x hx
  exact ⟨a, ea, hc, hK _ (by have := World.block_lt_of_cell? w _ hc; rwa [block_of_add] at this) hk⟩
theorem SlB.below {w w' : World} {K : Nat → Prop} {v : Value} {l : List UInt8} (h : SlB w K v l) (hb : Below w.heap.size w w') : SlB w' K v l := by
  obtain ⟨p, c, e, h1, h2, h3, h4⟩ := h
  refine ⟨p, c, e, h1, h2, h3, fun i x hx => ?_⟩
  obtain ⟨a, ea, hc, hk⟩ := h4 i x hx
  exact ⟨a, ea, cell_later hb hc, hk⟩
theorem SlB.grown {w w' : World} {row row' : Option Nat} {K : Nat → Prop} {v : Value} {l : List UInt8} (h : SlB w (fun b => K b ∧ some b ≠ row) v l) (hg : w.grownBy w' row) (hat : row' = row ∨ row' = some w.heap.size) : SlB w' (fun b => K b ∧ some b ≠ row') v l := by
  obtain ⟨p, c, e, h1, h2, h3, h4⟩ := h
  refine ⟨p, c, e, h1, h2, h3, fun i x hx => ?_⟩
  obtain ⟨a, ea, hc, hk, hr⟩ := h4 i x hx
  have hlt := World.block_lt_of_cell? w _ hc
  rw [block_of_add] at hlt
  refine ⟨a, ea, hg.cell hc (by rw [block_of_add]; exact hr), hk, ?_⟩
  rcases hat with rfl | rfl
  · exact hr
  · intro h
    have h := Option.some.inj h
    omega
theorem SlB.has {w : World} {K : Nat → Prop} {v : Value} {l : List UInt8} (h : SlB w K v l) : ∃ p c, v = .slice p l.length c ∧ l.length ≤ c ∧ c ≤ maxLen ∧ (p = none → c = 0) ∧ Has w p l := by
  obtain ⟨p, c, e, h1, h2, h3, h4⟩ := h
  refine ⟨p, c, e, h1, h2, h3, fun i x hx => ?_⟩
  obtain ⟨a, ea, hc, _⟩ := h4 i x hx
  exact ⟨a, ea, hc⟩
theorem SlB.of_owns {w : World} {base : Nat} {v : Value} {n : Nat} {l : List UInt8} {T : TypeId} {K : Nat → Prop} (h : w.ownsRow base T 1 v n (l.map u8v)) (hK : ∀ b, v.ownBlock = some b → K b) : SlB w K v l := by
  have hl : l.length = n := by have := h.1; simpa using this
  rcases h.2 with ⟨rfl, hn⟩ | ⟨g, cap, cur, rfl, _, hg, hnc, hcm, _, _⟩
  · subst hn
    have h0 : l = [] := List.eq_nil_of_length_eq_zero hl
    subst h0
    exact ⟨none, 0, rfl, Nat.le_refl _, Nat.zero_le _, fun _ => rfl, fun i x hx => by simp at hx⟩
  · refine ⟨some ⟨g, 0, none⟩, cap, by rw [hl], by omega, hcm, (fun h => by cases h), fun i x hx => ⟨_, rfl, ?_, hK g rfl⟩⟩
    have hi : i < n := by have := (List.getElem?_eq_some_iff.1 hx).1; omega
    have hc := h.cellAt i (by omega)
    rw [List.getElem?_map, hx] at hc
    have ha : (⟨g, 0, none⟩ : Addr).add i = ⟨g, i, none⟩ := by unfold Addr.add; split <;> simp_all
    rw [ha]
    simpa using hc
theorem SlB.oneCell {w : World} {K : Nat → Prop} {v : Value} {l : List UInt8} (h : SlB w K v l) : v.oneCell' = true := by
  obtain ⟨p, c, rfl, _⟩ := h
  rfl

/-- The parts pv lie in memory as pd tells. -/
def PartsAt (w : World) (K : Nat → Prop) (pv : List PV) (pd : List PartD) : Prop :=
  pv.length = pd.length ∧ ∀ (i : Nat) (x : PV) (y : PartD), pv[i]? = some x → pd[i]? = some y → x.h = y.h ∧ x.name = y.name ∧ SlB w K x.v y.b
theorem PartsAt.nil (w : World) (K : Nat → Prop) : PartsAt w K [] [] := ⟨rfl, fun i x y h => by simp at h⟩
theorem PartsAt.weaken {w : World} {K K' : Nat → Prop} {pv : List PV} {pd : List PartD} (h : PartsAt w K pv pd) (hK : ∀ b, b < w.heap.size → K b → K' b) : PartsAt w K' pv pd :=
  ⟨h.1, fun i x y h1 h2 => let ⟨a, b, c⟩ := h.2 i x y h1 h2; ⟨a, b, c.weaken hK⟩⟩
theorem PartsAt.below {w w' : World} {K : Nat → Prop} {pv : List PV} {pd : List PartD} (h : PartsAt w K pv pd) (hb : Below w.heap.size w w') : PartsAt w' K pv pd :=
  ⟨h.1, fun i x y h1 h2 => let ⟨a, b, c⟩ := h.2 i x y h1 h2; ⟨a, b, c.below hb⟩⟩
theorem PartsAt.grown {w w' : World} {row row' : Option Nat} {K : Nat → Prop} {pv : List PV} {pd : List PartD} (h : PartsAt w (fun b => K b ∧ some b ≠ row) pv pd) (hg : w.grownBy w' row) (hat : row' = row ∨ row' = some w.heap.size) : PartsAt w' (fun b => K b ∧ some b ≠ row') pv pd :=
  ⟨h.1, fun i x y h1 h2 => let ⟨a, b, c⟩ := h.2 i x y h1 h2; ⟨a, b, c.grown hg hat⟩⟩
theorem PartsAt.append {w : World} {K : Nat → Prop} {a b : List PV} {c d : List PartD} (h1 : PartsAt w K a c) (h2 : PartsAt w K b d) : PartsAt w K (a ++ b) (c ++ d) := by
  refine ⟨by simp [h1.1, h2.1], fun i x y hx hy => ?_⟩
  rw [List.getElem?_append] at hx hy
  rw [← h1.1] at hy
  split at hx <;> split at hy
  · exact h1.2 i x y hx hy
  · omega
  · omega
  · exact h2.2 _ x y hx hy
theorem PartsAt.one {w : World} {K : Nat → Prop} {h : Ten} {n : ByteArray} {v : Value} {l : List UInt8} (hs : SlB w K v l) : PartsAt w K [⟨h, n, v⟩] [⟨h, n, l⟩] :=
  ⟨rfl, fun i x y hx hy => by
    match i, hx, hy with
    | 0, hx, hy =>
      simp at hx hy
      subst hx hy
      exact ⟨rfl, rfl, hs⟩⟩
theorem PartsAt.oneCell {w : World} {K : Nat → Prop} {q : Bool} {pv : List PV} {pd : List PartD} (h : PartsAt w K pv pd) : ∀ u ∈ pvs q pv, u.oneCell' = true := fun u hu => by
  unfold pvs at hu
  obtain ⟨x, hx, hu⟩ := List.mem_flatMap.1 hu
  obtain ⟨i, hi⟩ := List.getElem?_of_mem hx
  have hil : i < pd.length := by rw [← h.1]; exact (List.getElem?_eq_some_iff.1 hi).1
  have hs := (h.2 i x _ hi (List.getElem?_eq_getElem hil)).2.2.oneCell
  unfold PV.cells at hu
  have hint : ∀ y ∈ x.h.l.map (Value.int .i64), y.oneCell' = true := fun y hy => by
    obtain ⟨z, _, rfl⟩ := List.mem_map.1 hy
    rfl
  cases q
  · simp only [cond_false, List.mem_cons, List.mem_append, List.not_mem_nil, or_false] at hu
    rcases hu with rfl | hu | rfl
    · rfl
    · exact hint _ hu
    · exact hs
  · simp only [cond_true, List.mem_cons, List.mem_append, List.not_mem_nil, or_false] at hu
    rcases hu with hu | rfl | rfl
    · exact hint _ hu
    · rfl
    · exact hs
/-- The call hands back a list of parts in memory of its own; what they tell lies in other blocks, from lo on. -/
def GivesParts (T : TypeId) (q : Bool) (lo : Nat) (pd : List PartD) (w : World) (e : Ending) (w' : World) : Prop :=
  ∃ v pv, e = .returned v ∧ w'.ownsRow w.heap.size T 12 v pd.length (pvs q pv) ∧ PartsAt w' (fun b => lo ≤ b ∧ some b ≠ v.ownBlock) pv pd ∧ Below w.heap.size w w'
/-- One part more, behind 'append(l, Part{..})'. -/
theorem push_part {wr w4 : World} {base lo : Nat} {T : TypeId} {q : Bool} {v v1 : Value} {pv : List PV} {pd : List PartD} {p : PV} {y : PartD} {o : Obj}
    (hpa : PartsAt wr (fun b => lo ≤ b ∧ some b ≠ v.ownBlock) pv pd) (hs : PartsAt wr (fun b => lo ≤ b ∧ some b ≠ v.ownBlock) [p] [y])
    (hown4 : w4.ownsRow base T 12 v1 (pd.length + 1) (pvs q pv ++ p.cells q)) (hg : (wr.alloc o).grownBy w4 v.ownBlock) (hat : v1.ownBlock = v.ownBlock ∨ v1.ownBlock = some (wr.heap.size + 1)) :
    w4.ownsRow base T 12 v1 (pd ++ [y]).length (pvs q (pv ++ [p])) ∧ PartsAt w4 (fun b => lo ≤ b ∧ some b ≠ v1.ownBlock) (pv ++ [p]) (pd ++ [y]) := by
  have hb : Below wr.heap.size wr (wr.alloc o) := (Below.refl _ wr).alloc (Nat.le_refl _) _
  exact ⟨by rw [pvs_snoc, List.length_append]; exact hown4, ((hpa.append hs).below hb).grown hg (by simpa using hat)⟩
theorem ten_cell_at (w : World) (cs : Array Value) (t : TypeId) : ∀ j z, cs.toList[j]? = some z → (w.alloc (.cells cs t)).cell? ((⟨w.heap.size, 0, none⟩ : Addr).add j) = some z := fun j z hj => by
  have ha : (⟨w.heap.size, 0, none⟩ : Addr).add j = ⟨w.heap.size, j, none⟩ := by unfold Addr.add; split <;> simp_all
  rw [ha]
  refine (cell_of_row _ w.heap.size j _ t (0, 0) (heap_alloc_new w _)).trans ?_
  simpa using hj
end Go.Proofs.YtenmcmnhiejbgaaGreat
