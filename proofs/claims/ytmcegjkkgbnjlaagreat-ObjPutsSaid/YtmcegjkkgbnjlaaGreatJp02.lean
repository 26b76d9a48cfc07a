/-
  Contracts of the reference's HeadBytes and Section.
  What is got of a header's bytes is what was put: sectAt and sectB. Nothing here walks the program.
  Words on append to a full slice of bytes (its capacity is its length): the bytes behind each other, what was there stands. They name types of the program, none of its functions.
-/
import Derived.Test.YtmcegjkkgbnjlaaGreatJp01
import Derived.Test.YtmcegjkkgbnjlaaGreatMem
import Derived.Maps.AppendAt
namespace Go.Proofs.YtmcegjkkgbnjlaaGreat
open Go.RowKit

theorem nums_wid (t : Ten) : ∀ (i : Nat) (x : Int), t.nums[2 * i + 1]? = some x → wid x = true := fun i x hx => by
  have hi : i < 10 := by have := (List.getElem?_eq_some_iff.1 hx).1; simp [Ten.nums] at this; omega
  match i, hi, hx with
  | 0, _, hx | 1, _, hx | 2, _, hx | 3, _, hx | 4, _, hx | 5, _, hx | 6, _, hx | 7, _, hx | 8, _, hx | 9, _, hx => simp [Ten.nums] at hx; subst hx; rfl
theorem nums_bd {t : Ten} (h : t.may) : ∀ (i : Nat) (x : Int), t.nums[i]? = some x → -9223372036854775808 ≤ x ∧ x ≤ 9223372036854775807 := fun i x hx => by
  have hm := List.mem_of_getElem? hx
  simp only [Ten.nums, List.mem_cons, List.not_mem_nil, or_false] at hm
  have hf : ∀ y, y ∈ t.l → 0 ≤ y ∧ y ≤ 2147483647 := fun y hy => (fitsB_iff y).1 (h y hy)
  simp only [Ten.l, List.mem_cons, List.not_mem_nil, or_false, forall_eq_or_imp, forall_eq] at hf
  omega
theorem sectB_length (t : Ten) : (sectB t).length = 64 := rfl

theorem headBytes_no (t : Ten) (w : World) (h : ¬ t.may) : Calls Tryz.prog 20 #[t.v] w (GivesH 0 [] w) := by
  have HM := Lib.hid fun W => may_no t W h
  clear h
  go_enter Tryz.func20, Tryz.ntmps20
  go_wp2_with fail
  refine (HM.out _).mono ?_
  rintro e w2 ⟨rfl, hbb⟩
  go_wp2_with fail
  go_ret
  exact ⟨none, 0, rfl, rfl, Nat.le_refl _, Nat.zero_le _, Has.none_ _ _, ((Below.refl _ w).alloc (Nat.le_refl _) _).trans (hbb.mono (by simp))⟩

set_option maxHeartbeats 2000000 in
theorem headBytes_yes (t : Ten) (w : World) (h : t.may) : Calls Tryz.prog 20 #[t.v] w (Gives (sectB t) w) := by
  have HM := Lib.hid fun W => may_yes t W h
  have HN := Lib.hid fun (W : World) (p : Option Addr) (hp : HasI W p t.nums) => nums_any p 20 20 10 t.nums W hp rfl rfl (by omega) (nums_wid t) (nums_bd h)
  clear h
  go_enter Tryz.func20, Tryz.ntmps20
  go_wp2_with fail
  refine (HM.out _).mono ?_
  rintro e w2 ⟨rfl, hbb⟩
  have c0 : w2.cell? ⟨w.heap.size, 0, none⟩ = some (.int .i64 t.a) := by rw [hbb.cell (by simp <;> omega)]; simp
  have c1 : w2.cell? ⟨w.heap.size, 1, none⟩ = some (.int .i64 t.b) := by rw [hbb.cell (by simp <;> omega)]; simp
  have c2 : w2.cell? ⟨w.heap.size, 2, none⟩ = some (.int .i64 t.c) := by rw [hbb.cell (by simp <;> omega)]; simp
  have c3 : w2.cell? ⟨w.heap.size, 3, none⟩ = some (.int .i64 t.d) := by rw [hbb.cell (by simp <;> omega)]; simp
  have c4 : w2.cell? ⟨w.heap.size, 4, none⟩ = some (.int .i64 t.e) := by rw [hbb.cell (by simp <;> omega)]; simp
  have c5 : w2.cell? ⟨w.heap.size, 5, none⟩ = some (.int .i64 t.f) := by rw [hbb.cell (by simp <;> omega)]; simp
  have c6 : w2.cell? ⟨w.heap.size, 6, none⟩ = some (.int .i64 t.g) := by rw [hbb.cell (by simp <;> omega)]; simp
  have c7 : w2.cell? ⟨w.heap.size, 7, none⟩ = some (.int .i64 t.h) := by rw [hbb.cell (by simp <;> omega)]; simp
  have c8 : w2.cell? ⟨w.heap.size, 8, none⟩ = some (.int .i64 t.i) := by rw [hbb.cell (by simp <;> omega)]; simp
  have c9 : w2.cell? ⟨w.heap.size, 9, none⟩ = some (.int .i64 t.j) := by rw [hbb.cell (by simp <;> omega)]; simp
  have hb : Below w.heap.size w w2 := ((Below.refl _ w).alloc (Nat.le_refl _) _).trans (hbb.mono (by simp))
  clear hbb
  go_wp2_with fail
  refine (HN.out _ _ (lit_hasI w2 3 t.nums #[.int .i64 t.a, .int .i64 4, .int .i64 t.b, .int .i64 4, .int .i64 t.c, .int .i64 8, .int .i64 t.d, .int .i64 8, .int .i64 t.e, .int .i64 8, .int .i64 t.f, .int .i64 8, .int .i64 t.g, .int .i64 4, .int .i64 t.h, .int .i64 4, .int .i64 t.i, .int .i64 8, .int .i64 t.j, .int .i64 8] rfl _ rfl)).mono ?_
  rintro e w3 ⟨v, rfl, ho, hbb3⟩
  have hb3 : Below w.heap.size w w3 := (hb.alloc hb.size _).trans (hbb3.mono (by have := hb.size; simp; omega))
  have ho3 := owns_lower (c := w.heap.size) ho (by have := hb.size; simp; omega)
  clear hbb3 ho
  go_wp2_with fail
  go_ret
  exact ⟨_, rfl, ho3, hb3⟩

/-- The numbers of the header at at. -/
def tenAt (l : List UInt8) (o : Nat) : Ten := ⟨numI l o 4, numI l (o + 4) 4, numI l (o + 8) 8, numI l (o + 16) 8, numI l (o + 24) 8, numI l (o + 32) 8, numI l (o + 40) 4, numI l (o + 44) 4, numI l (o + 48) 8, numI l (o + 56) 8⟩
def ten0 : Ten := ⟨0, 0, 0, 0, 0, 0, 0, 0, 0, 0⟩
/-- What Section tells. -/
def sectAt (l : List UInt8) (at_ : Int) : Option Ten := if 0 ≤ at_ ∧ at_ + 64 ≤ l.length ∧ (tenAt l at_.toNat).may then some (tenAt l at_.toNat) else none
def sectV (o : Option Ten) : Value × Bool := match o with | some t => (t.v, true) | none => (ten0.v, false)

theorem section_out (p : Option Addr) (len cap : Nat) (at_ : Int) (w : World) (h : at_ < 0 ∨ (len : Int) < at_ + 64) (hb0 : at_ ≤ 9223372036854775807) (_hbig : len ≤ 1000000000) :
    Calls Tryz.prog 56 #[.slice p len cap, .int .i64 at_] w fun e w' => e = .returned (.tuple #[ten0.v, .bool false]) ∧ Below w.heap.size w w' := by
  by_cases h0 : at_ < 0
  · clear h
    go_enter Tryz.func56, Tryz.ntmps56
    go_wp2_with fail
    exact bodyPost_ret (v := .tuple #[ten0.v, .bool false]) (by simp [results, Tryz.results56, go_sem, ten0]) rfl ⟨rfl, (Below.refl _ w).alloc (Nat.le_refl _) _⟩
  by_cases h1 : (len : Int) < at_
  · clear h
    go_enter Tryz.func56, Tryz.ntmps56
    go_wp2_with fail
    exact bodyPost_ret (v := .tuple #[ten0.v, .bool false]) (by simp [results, Tryz.results56, go_sem, ten0]) rfl ⟨rfl, (Below.refl _ w).alloc (Nat.le_refl _) _⟩
  have h2 : (len : Int) - at_ < 64 := by omega
  clear h
  go_enter Tryz.func56, Tryz.ntmps56
  go_wp2_with fail
  exact bodyPost_ret (v := .tuple #[ten0.v, .bool false]) (by simp [results, Tryz.results56, go_sem, ten0]) rfl ⟨rfl, (Below.refl _ w).alloc (Nat.le_refl _) _⟩

set_option maxRecDepth 100000 in
set_option maxHeartbeats 4000000 in
theorem section_in (p : Option Addr) (len cap a : Nat) (l : List UInt8) (w : World) (h : Has w p l) (hlen : l.length = len) (hcap : len ≤ cap) (hin : a + 64 ≤ len) (hbig : len ≤ 1000000000) :
    Calls Tryz.prog 56 #[.slice p len cap, .int .i64 a] w fun e w' => e = .returned (.tuple #[(sectV (sectAt l a)).1, .bool (sectV (sectAt l a)).2]) ∧ Below w.heap.size w w' := by
  have N0 : Hid (∀ W, Below w.heap.size w W → Calls Tryz.prog 102 #[.slice p len cap, .int .i64 (a : Int), .int .i64 4] W fun e w' => e = .returned (.int .i64 (numI l a 4)) ∧ W = w') := Lib.hid fun W hb => by
    have := rnum_any p len cap l a 4 W (h.below hb) hlen hcap (by omega) (by omega) (by omega) hbig
    exact this
  have N4 : Hid (∀ W, Below w.heap.size w W → Calls Tryz.prog 102 #[.slice p len cap, .int .i64 ((a : Int) + 4), .int .i64 4] W fun e w' => e = .returned (.int .i64 (numI l (a + 4) 4)) ∧ W = w') := Lib.hid fun W hb => by
    have := rnum_any p len cap l (a + 4) 4 W (h.below hb) hlen hcap (by omega) (by omega) (by omega) hbig
    rw [show ((a + 4 : Nat) : Int) = (a : Int) + 4 by omega] at this
    exact this
  have N8 : Hid (∀ W, Below w.heap.size w W → Calls Tryz.prog 102 #[.slice p len cap, .int .i64 ((a : Int) + 8), .int .i64 8] W fun e w' => e = .returned (.int .i64 (numI l (a + 8) 8)) ∧ W = w') := Lib.hid fun W hb => by
    have := rnum_any p len cap l (a + 8) 8 W (h.below hb) hlen hcap (by omega) (by omega) (by omega) hbig
    rw [show ((a + 8 : Nat) : Int) = (a : Int) + 8 by omega] at this
    exact this
  have N16 : Hid (∀ W, Below w.heap.size w W → Calls Tryz.prog 102 #[.slice p len cap, .int .i64 ((a : Int) + 16), .int .i64 8] W fun e w' => e = .returned (.int .i64 (numI l (a + 16) 8)) ∧ W = w') := Lib.hid fun W hb => by
    have := rnum_any p len cap l (a + 16) 8 W (h.below hb) hlen hcap (by omega) (by omega) (by omega) hbig
    rw [show ((a + 16 : Nat) : Int) = (a : Int) + 16 by omega] at this
    exact this
  have N24 : Hid (∀ W, Below w.heap.size w W → Calls Tryz.prog 102 #[.slice p len cap, .int .i64 ((a : Int) + 24), .int .i64 8] W fun e w' => e = .returned (.int .i64 (numI l (a + 24) 8)) ∧ W = w') := Lib.hid fun W hb => by
    have := rnum_any p len cap l (a + 24) 8 W (h.below hb) hlen hcap (by omega) (by omega) (by omega) hbig
    rw [show ((a + 24 : Nat) : Int) = (a : Int) + 24 by omega] at this
    exact this
  have N32 : Hid (∀ W, Below w.heap.size w W → Calls Tryz.prog 102 #[.slice p len cap, .int .i64 ((a : Int) + 32), .int .i64 8] W fun e w' => e = .returned (.int .i64 (numI l (a + 32) 8)) ∧ W = w') := Lib.hid fun W hb => by
    have := rnum_any p len cap l (a + 32) 8 W (h.below hb) hlen hcap (by omega) (by omega) (by omega) hbig
    rw [show ((a + 32 : Nat) : Int) = (a : Int) + 32 by omega] at this
    exact this
  have N40 : Hid (∀ W, Below w.heap.size w W → Calls Tryz.prog 102 #[.slice p len cap, .int .i64 ((a : Int) + 40), .int .i64 4] W fun e w' => e = .returned (.int .i64 (numI l (a + 40) 4)) ∧ W = w') := Lib.hid fun W hb => by
    have := rnum_any p len cap l (a + 40) 4 W (h.below hb) hlen hcap (by omega) (by omega) (by omega) hbig
    rw [show ((a + 40 : Nat) : Int) = (a : Int) + 40 by omega] at this
    exact this
  have N44 : Hid (∀ W, Below w.heap.size w W → Calls Tryz.prog 102 #[.slice p len cap, .int .i64 ((a : Int) + 44), .int .i64 4] W fun e w' => e = .returned (.int .i64 (numI l (a + 44) 4)) ∧ W = w') := Lib.hid fun W hb => by
    have := rnum_any p len cap l (a + 44) 4 W (h.below hb) hlen hcap (by omega) (by omega) (by omega) hbig
    rw [show ((a + 44 : Nat) : Int) = (a : Int) + 44 by omega] at this
    exact this
  have N48 : Hid (∀ W, Below w.heap.size w W → Calls Tryz.prog 102 #[.slice p len cap, .int .i64 ((a : Int) + 48), .int .i64 8] W fun e w' => e = .returned (.int .i64 (numI l (a + 48) 8)) ∧ W = w') := Lib.hid fun W hb => by
    have := rnum_any p len cap l (a + 48) 8 W (h.below hb) hlen hcap (by omega) (by omega) (by omega) hbig
    rw [show ((a + 48 : Nat) : Int) = (a : Int) + 48 by omega] at this
    exact this
  have N56 : Hid (∀ W, Below w.heap.size w W → Calls Tryz.prog 102 #[.slice p len cap, .int .i64 ((a : Int) + 56), .int .i64 8] W fun e w' => e = .returned (.int .i64 (numI l (a + 56) 8)) ∧ W = w') := Lib.hid fun W hb => by
    have := rnum_any p len cap l (a + 56) 8 W (h.below hb) hlen hcap (by omega) (by omega) (by omega) hbig
    rw [show ((a + 56 : Nat) : Int) = (a : Int) + 56 by omega] at this
    exact this
  have hbz : Below w.heap.size w (w.alloc (.cells #[.int .i64 0, .int .i64 0, .int .i64 0, .int .i64 0, .int .i64 0, .int .i64 0, .int .i64 0, .int .i64 0, .int .i64 0, .int .i64 0] 54)) := (Below.refl _ w).alloc (Nat.le_refl _) _
  have hT : tenAt l a = ⟨numI l a 4, numI l (a + 4) 4, numI l (a + 8) 8, numI l (a + 16) 8, numI l (a + 24) 8, numI l (a + 32) 8, numI l (a + 40) 4, numI l (a + 44) 4, numI l (a + 48) 8, numI l (a + 56) 8⟩ := rfl
  have hS : sectAt l a = if (tenAt l a).may then some (tenAt l a) else none := by
    unfold sectAt
    by_cases hm : (tenAt l a).may
    · rw [if_pos hm, if_pos ⟨by omega, by omega, hm⟩]; rfl
    · rw [if_neg hm, if_neg fun hc => hm hc.2.2]
  have hI0 : ¬ (a : Int) < 0 := by omega
  have hI1 : ¬ (len : Int) < (a : Int) := by omega
  have hI2 : ¬ (len : Int) - (a : Int) < 64 := by omega
  have ha9 : a ≤ 1000000000 := by omega
  clear h hlen
  generalize numI l a 4 = v0 at *
  generalize numI l (a + 4) 4 = v1 at *
  generalize numI l (a + 8) 8 = v2 at *
  generalize numI l (a + 16) 8 = v3 at *
  generalize numI l (a + 24) 8 = v4 at *
  generalize numI l (a + 32) 8 = v5 at *
  generalize numI l (a + 40) 4 = v6 at *
  generalize numI l (a + 44) 4 = v7 at *
  generalize numI l (a + 48) 8 = v8 at *
  generalize numI l (a + 56) 8 = v9 at *
  have HT := Lib.hid hT
  have HS := Lib.hid hS
  clear hT hS
  go_enter Tryz.func56, Tryz.ntmps56
  go_wp2_with fail
  refine (N0.out _ hbz).mono ?_
  rintro e w' ⟨rfl, rfl⟩
  go_wp2_with fail
  refine (N4.out _ hbz).mono ?_
  rintro e w' ⟨rfl, rfl⟩
  go_wp2_with fail
  refine (N8.out _ hbz).mono ?_
  rintro e w' ⟨rfl, rfl⟩
  go_wp2_with fail
  refine (N16.out _ hbz).mono ?_
  rintro e w' ⟨rfl, rfl⟩
  go_wp2_with fail
  refine (N24.out _ hbz).mono ?_
  rintro e w' ⟨rfl, rfl⟩
  go_wp2_with fail
  refine (N32.out _ (hbz.alloc (by simp) _)).mono ?_
  rintro e w' ⟨rfl, rfl⟩
  go_wp2_with fail
  refine (N40.out _ (hbz.alloc (by simp) _)).mono ?_
  rintro e w' ⟨rfl, rfl⟩
  go_wp2_with fail
  refine (N44.out _ (hbz.alloc (by simp) _)).mono ?_
  rintro e w' ⟨rfl, rfl⟩
  go_wp2_with fail
  refine (N48.out _ (hbz.alloc (by simp) _)).mono ?_
  rintro e w' ⟨rfl, rfl⟩
  go_wp2_with fail
  refine (N56.out _ (hbz.alloc (by simp) _)).mono ?_
  rintro e w' ⟨rfl, rfl⟩
  have hb2 : Below w.heap.size w ((w.alloc (.cells #[.int .i64 0, .int .i64 0, .int .i64 0, .int .i64 0, .int .i64 0, .int .i64 0, .int .i64 0, .int .i64 0, .int .i64 0, .int .i64 0] 54)).alloc (.cells #[.int .i64 v0, .int .i64 v1, .int .i64 v2, .int .i64 v3, .int .i64 v4, .int .i64 v5, .int .i64 v6, .int .i64 v7, .int .i64 v8, .int .i64 v9] 54)) := hbz.alloc (by simp) _
  go_wp2_with fail
  by_cases hm : (Ten.mk v0 v1 v2 v3 v4 v5 v6 v7 v8 v9).may
  · have HO : Hid (sectV (sectAt l a) = (Ten.v ⟨v0, v1, v2, v3, v4, v5, v6, v7, v8, v9⟩, true)) := Lib.hid (by rw [HS.out, HT.out, if_pos hm]; rfl)
    refine (may_yes ⟨v0, v1, v2, v3, v4, v5, v6, v7, v8, v9⟩ _ hm).mono ?_
    rintro e w3 ⟨rfl, hbb⟩
    have c0 : w3.cell? ⟨w.heap.size, 0, none⟩ = some (.int .i64 0) := by rw [hbb.cell (by simp <;> omega)]; simp
    have d0 : w3.cell? ⟨w.heap.size + 1, 0, none⟩ = some (.int .i64 v0) := by rw [hbb.cell (by simp <;> omega)]; simp
    have f0 : w3.frozen? ⟨w.heap.size, 0, none⟩ = false := by rw [hbb.frozen (by simp <;> omega)]; simp
    have c1 : w3.cell? ⟨w.heap.size, 1, none⟩ = some (.int .i64 0) := by rw [hbb.cell (by simp <;> omega)]; simp
    have d1 : w3.cell? ⟨w.heap.size + 1, 1, none⟩ = some (.int .i64 v1) := by rw [hbb.cell (by simp <;> omega)]; simp
    have f1 : w3.frozen? ⟨w.heap.size, 1, none⟩ = false := by rw [hbb.frozen (by simp <;> omega)]; simp
    have c2 : w3.cell? ⟨w.heap.size, 2, none⟩ = some (.int .i64 0) := by rw [hbb.cell (by simp <;> omega)]; simp
    have d2 : w3.cell? ⟨w.heap.size + 1, 2, none⟩ = some (.int .i64 v2) := by rw [hbb.cell (by simp <;> omega)]; simp
    have f2 : w3.frozen? ⟨w.heap.size, 2, none⟩ = false := by rw [hbb.frozen (by simp <;> omega)]; simp
    have c3 : w3.cell? ⟨w.heap.size, 3, none⟩ = some (.int .i64 0) := by rw [hbb.cell (by simp <;> omega)]; simp
    have d3 : w3.cell? ⟨w.heap.size + 1, 3, none⟩ = some (.int .i64 v3) := by rw [hbb.cell (by simp <;> omega)]; simp
    have f3 : w3.frozen? ⟨w.heap.size, 3, none⟩ = false := by rw [hbb.frozen (by simp <;> omega)]; simp
    have c4 : w3.cell? ⟨w.heap.size, 4, none⟩ = some (.int .i64 0) := by rw [hbb.cell (by simp <;> omega)]; simp
    have d4 : w3.cell? ⟨w.heap.size + 1, 4, none⟩ = some (.int .i64 v4) := by rw [hbb.cell (by simp <;> omega)]; simp
    have f4 : w3.frozen? ⟨w.heap.size, 4, none⟩ = false := by rw [hbb.frozen (by simp <;> omega)]; simp
    have c5 : w3.cell? ⟨w.heap.size, 5, none⟩ = some (.int .i64 0) := by rw [hbb.cell (by simp <;> omega)]; simp
    have d5 : w3.cell? ⟨w.heap.size + 1, 5, none⟩ = some (.int .i64 v5) := by rw [hbb.cell (by simp <;> omega)]; simp
    have f5 : w3.frozen? ⟨w.heap.size, 5, none⟩ = false := by rw [hbb.frozen (by simp <;> omega)]; simp
    have c6 : w3.cell? ⟨w.heap.size, 6, none⟩ = some (.int .i64 0) := by rw [hbb.cell (by simp <;> omega)]; simp
    have d6 : w3.cell? ⟨w.heap.size + 1, 6, none⟩ = some (.int .i64 v6) := by rw [hbb.cell (by simp <;> omega)]; simp
    have f6 : w3.frozen? ⟨w.heap.size, 6, none⟩ = false := by rw [hbb.frozen (by simp <;> omega)]; simp
    have c7 : w3.cell? ⟨w.heap.size, 7, none⟩ = some (.int .i64 0) := by rw [hbb.cell (by simp <;> omega)]; simp
    have d7 : w3.cell? ⟨w.heap.size + 1, 7, none⟩ = some (.int .i64 v7) := by rw [hbb.cell (by simp <;> omega)]; simp
    have f7 : w3.frozen? ⟨w.heap.size, 7, none⟩ = false := by rw [hbb.frozen (by simp <;> omega)]; simp
    have c8 : w3.cell? ⟨w.heap.size, 8, none⟩ = some (.int .i64 0) := by rw [hbb.cell (by simp <;> omega)]; simp
    have d8 : w3.cell? ⟨w.heap.size + 1, 8, none⟩ = some (.int .i64 v8) := by rw [hbb.cell (by simp <;> omega)]; simp
    have f8 : w3.frozen? ⟨w.heap.size, 8, none⟩ = false := by rw [hbb.frozen (by simp <;> omega)]; simp
    have c9 : w3.cell? ⟨w.heap.size, 9, none⟩ = some (.int .i64 0) := by rw [hbb.cell (by simp <;> omega)]; simp
    have d9 : w3.cell? ⟨w.heap.size + 1, 9, none⟩ = some (.int .i64 v9) := by rw [hbb.cell (by simp <;> omega)]; simp
    have f9 : w3.frozen? ⟨w.heap.size, 9, none⟩ = false := by rw [hbb.frozen (by simp <;> omega)]; simp
    have hb3 : Below w.heap.size w w3 := hb2.trans (hbb.mono (by simp <;> omega))
    clear hbb hm hb2 hbz
    go_wp2_with fail
    rw [HO.out]
    exact bodyPost_ret (v := .tuple #[Ten.v ⟨v0, v1, v2, v3, v4, v5, v6, v7, v8, v9⟩, .bool true]) (by simp [results, Tryz.results56, go_sem, c0, c1, c2, c3, c4, c5, c6, c7, c8, c9]) rfl ⟨rfl, ((((((((((hb3.setCell (Nat.le_refl _) _).setCell (Nat.le_refl _) _).setCell (Nat.le_refl _) _).setCell (Nat.le_refl _) _).setCell (Nat.le_refl _) _).setCell (Nat.le_refl _) _).setCell (Nat.le_refl _) _).setCell (Nat.le_refl _) _).setCell (Nat.le_refl _) _).setCell (Nat.le_refl _) _)⟩
  · have HO : Hid (sectV (sectAt l a) = (ten0.v, false)) := Lib.hid (by rw [HS.out, HT.out, if_neg hm]; rfl)
    refine (may_no ⟨v0, v1, v2, v3, v4, v5, v6, v7, v8, v9⟩ _ hm).mono ?_
    rintro e w3 ⟨rfl, hbb⟩
    have c0 : w3.cell? ⟨w.heap.size, 0, none⟩ = some (.int .i64 0) := by rw [hbb.cell (by simp <;> omega)]; simp
    have d0 : w3.cell? ⟨w.heap.size + 1, 0, none⟩ = some (.int .i64 v0) := by rw [hbb.cell (by simp <;> omega)]; simp
    have f0 : w3.frozen? ⟨w.heap.size, 0, none⟩ = false := by rw [hbb.frozen (by simp <;> omega)]; simp
    have c1 : w3.cell? ⟨w.heap.size, 1, none⟩ = some (.int .i64 0) := by rw [hbb.cell (by simp <;> omega)]; simp
    have d1 : w3.cell? ⟨w.heap.size + 1, 1, none⟩ = some (.int .i64 v1) := by rw [hbb.cell (by simp <;> omega)]; simp
    have f1 : w3.frozen? ⟨w.heap.size, 1, none⟩ = false := by rw [hbb.frozen (by simp <;> omega)]; simp
    have c2 : w3.cell? ⟨w.heap.size, 2, none⟩ = some (.int .i64 0) := by rw [hbb.cell (by simp <;> omega)]; simp
    have d2 : w3.cell? ⟨w.heap.size + 1, 2, none⟩ = some (.int .i64 v2) := by rw [hbb.cell (by simp <;> omega)]; simp
    have f2 : w3.frozen? ⟨w.heap.size, 2, none⟩ = false := by rw [hbb.frozen (by simp <;> omega)]; simp
    have c3 : w3.cell? ⟨w.heap.size, 3, none⟩ = some (.int .i64 0) := by rw [hbb.cell (by simp <;> omega)]; simp
    have d3 : w3.cell? ⟨w.heap.size + 1, 3, none⟩ = some (.int .i64 v3) := by rw [hbb.cell (by simp <;> omega)]; simp
    have f3 : w3.frozen? ⟨w.heap.size, 3, none⟩ = false := by rw [hbb.frozen (by simp <;> omega)]; simp
    have c4 : w3.cell? ⟨w.heap.size, 4, none⟩ = some (.int .i64 0) := by rw [hbb.cell (by simp <;> omega)]; simp
    have d4 : w3.cell? ⟨w.heap.size + 1, 4, none⟩ = some (.int .i64 v4) := by rw [hbb.cell (by simp <;> omega)]; simp
    have f4 : w3.frozen? ⟨w.heap.size, 4, none⟩ = false := by rw [hbb.frozen (by simp <;> omega)]; simp
    have c5 : w3.cell? ⟨w.heap.size, 5, none⟩ = some (.int .i64 0) := by rw [hbb.cell (by simp <;> omega)]; simp
    have d5 : w3.cell? ⟨w.heap.size + 1, 5, none⟩ = some (.int .i64 v5) := by rw [hbb.cell (by simp <;> omega)]; simp
    have f5 : w3.frozen? ⟨w.heap.size, 5, none⟩ = false := by rw [hbb.frozen (by simp <;> omega)]; simp
    have c6 : w3.cell? ⟨w.heap.size, 6, none⟩ = some (.int .i64 0) := by rw [hbb.cell (by simp <;> omega)]; simp
    have d6 : w3.cell? ⟨w.heap.size + 1, 6, none⟩ = some (.int .i64 v6) := by rw [hbb.cell (by simp <;> omega)]; simp
    have f6 : w3.frozen? ⟨w.heap.size, 6, none⟩ = false := by rw [hbb.frozen (by simp <;> omega)]; simp
    have c7 : w3.cell? ⟨w.heap.size, 7, none⟩ = some (.int .i64 0) := by rw [hbb.cell (by simp <;> omega)]; simp
    have d7 : w3.cell? ⟨w.heap.size + 1, 7, none⟩ = some (.int .i64 v7) := by rw [hbb.cell (by simp <;> omega)]; simp
    have f7 : w3.frozen? ⟨w.heap.size, 7, none⟩ = false := by rw [hbb.frozen (by simp <;> omega)]; simp
    have c8 : w3.cell? ⟨w.heap.size, 8, none⟩ = some (.int .i64 0) := by rw [hbb.cell (by simp <;> omega)]; simp
    have d8 : w3.cell? ⟨w.heap.size + 1, 8, none⟩ = some (.int .i64 v8) := by rw [hbb.cell (by simp <;> omega)]; simp
    have f8 : w3.frozen? ⟨w.heap.size, 8, none⟩ = false := by rw [hbb.frozen (by simp <;> omega)]; simp
    have c9 : w3.cell? ⟨w.heap.size, 9, none⟩ = some (.int .i64 0) := by rw [hbb.cell (by simp <;> omega)]; simp
    have d9 : w3.cell? ⟨w.heap.size + 1, 9, none⟩ = some (.int .i64 v9) := by rw [hbb.cell (by simp <;> omega)]; simp
    have f9 : w3.frozen? ⟨w.heap.size, 9, none⟩ = false := by rw [hbb.frozen (by simp <;> omega)]; simp
    have hb3 : Below w.heap.size w w3 := hb2.trans (hbb.mono (by simp <;> omega))
    clear hbb hm hb2 hbz
    go_wp2_with fail
    rw [HO.out]
    exact bodyPost_ret (v := .tuple #[ten0.v, .bool false]) (by simp [results, Tryz.results56, go_sem, ten0, c0, c1, c2, c3, c4, c5, c6, c7, c8, c9]) rfl ⟨rfl, ((((((((((hb3.setCell (Nat.le_refl _) _).setCell (Nat.le_refl _) _).setCell (Nat.le_refl _) _).setCell (Nat.le_refl _) _).setCell (Nat.le_refl _) _).setCell (Nat.le_refl _) _).setCell (Nat.le_refl _) _).setCell (Nat.le_refl _) _).setCell (Nat.le_refl _) _).setCell (Nat.le_refl _) _)⟩

end Go.Proofs.YtmcegjkkgbnjlaaGreat

namespace Go.Proofs.YtmcegjkkgbnjlaaGreat
open Go.RowKit

theorem win_append (l : List UInt8) (a m n : Nat) : win l a m ++ win l (a + m) n = win l a (m + n) := by
  unfold win
  rw [List.drop_take, List.drop_take, List.drop_take, ← List.drop_drop]
  have e1 : a + m - a = m := by omega
  have e2 : a + m + n - (a + m) = n := by omega
  have e3 : a + (m + n) - a = m + n := by omega
  rw [e1, e2, e3]
  exact (List.take_add (l := l.drop a) (i := m) (j := n)).symm
theorem win_win (l : List UInt8) (a n o k : Nat) (h : o + k ≤ n) : win (win l a n) o k = win l (a + o) k := by
  unfold win
  rw [List.drop_take, List.drop_take, List.drop_take, List.drop_take, List.take_take, List.drop_drop]
  congr 1
  omega

theorem leB_win {l : List UInt8} {a k : Nat} (h : a + k ≤ l.length) (hf : fitsB (numI l a k) = true) : leB k (u64n (numI l a k)) = win l a k := by
  have h2 := (fitsB_iff _).1 hf
  have hn : numI l a k = (num (win l a k) : Int) := by
    unfold numI at h2 ⊢
    split
    · rfl
    · rename_i hc
      rw [if_neg hc] at h2
      omega
  have hl : num (win l a k) < 18446744073709551616 := by rw [hn] at h2; omega
  rw [hn, u64n_nat _ hl]
  have := leB_num (win l a k)
  rwa [win_length l a k h] at this
theorem numI_of {l : List UInt8} {a k : Nat} {x : Int} (hx : fitsB x = true) (hk : 2147483647 < 256 ^ k) (h : win l a k = leB k (u64n x)) : numI l a k = x := by
  have h2 := (fitsB_iff _).1 hx
  have hu : u64n x = x.toNat := by unfold u64n; omega
  have hn : num (win l a k) = x.toNat := by
    rw [h, num_leB, hu, Nat.mod_eq_of_lt (by omega)]
  unfold numI
  rw [hn, if_pos (by omega)]
  omega

theorem sectAt_iff (l : List UInt8) (a : Nat) (t : Ten) : sectAt l a = some t ↔ t.may ∧ a + 64 ≤ l.length ∧ sectB t = win l a 64 := by
  constructor
  · intro h
    unfold sectAt at h
    split at h
    · rename_i hc
      obtain ⟨_, h1, h2⟩ := hc
      have ht : tenAt l a = t := by simpa using h
      have h2' : (tenAt l a).may := h2
      have h3 : a + 64 ≤ l.length := by omega
      have hf : ∀ y, y ∈ (tenAt l a).l → fitsB y = true := h2'
      simp only [Ten.l, tenAt, List.mem_cons, List.not_mem_nil, or_false, forall_eq_or_imp, forall_eq] at hf
      obtain ⟨f0, f1, f2, f3, f4, f5, f6, f7, f8, f9⟩ := hf
      refine ⟨ht ▸ h2', h3, ?_⟩
      rw [← ht]
      have e : sectB (tenAt l a) = leB 4 (u64n (numI l a 4)) ++ (leB 4 (u64n (numI l (a + 4) 4)) ++ (leB 8 (u64n (numI l (a + 8) 8)) ++ (leB 8 (u64n (numI l (a + 16) 8)) ++ (leB 8 (u64n (numI l (a + 24) 8)) ++ (leB 8 (u64n (numI l (a + 32) 8)) ++ (leB 4 (u64n (numI l (a + 40) 4)) ++ (leB 4 (u64n (numI l (a + 44) 4)) ++ (leB 8 (u64n (numI l (a + 48) 8)) ++ (leB 8 (u64n (numI l (a + 56) 8)) ++ []))))))))) := rfl
      rw [e, leB_win (by omega) f0, leB_win (by omega) f1, leB_win (by omega) f2, leB_win (by omega) f3, leB_win (by omega) f4, leB_win (by omega) f5, leB_win (by omega) f6, leB_win (by omega) f7, leB_win (by omega) f8, leB_win (by omega) f9, List.append_nil]
      rw [win_append l (a + 48) 8 8, win_append l (a + 44) 4 16, win_append l (a + 40) 4 20, win_append l (a + 32) 8 24, win_append l (a + 24) 8 32, win_append l (a + 16) 8 40, win_append l (a + 8) 8 48, win_append l (a + 4) 4 56, win_append l a 4 60]
    · cases h
  · rintro ⟨hm, hl, hb⟩
    have hf : ∀ y, y ∈ t.l → fitsB y = true := hm
    simp only [Ten.l, List.mem_cons, List.not_mem_nil, or_false, forall_eq_or_imp, forall_eq] at hf
    obtain ⟨f0, f1, f2, f3, f4, f5, f6, f7, f8, f9⟩ := hf
    have g0 := numI_of (l := l) (a := a) f0 (k := 4) (by decide) (by rw [show a = a + 0 from rfl, ← win_win l a 64 0 4 (by omega), ← hb]; rfl)
    have g1 := numI_of (l := l) (a := a + 4) f1 (k := 4) (by decide) (by rw [← win_win l a 64 4 4 (by omega), ← hb]; rfl)
    have g2 := numI_of (l := l) (a := a + 8) f2 (k := 8) (by decide) (by rw [← win_win l a 64 8 8 (by omega), ← hb]; rfl)
    have g3 := numI_of (l := l) (a := a + 16) f3 (k := 8) (by decide) (by rw [← win_win l a 64 16 8 (by omega), ← hb]; rfl)
    have g4 := numI_of (l := l) (a := a + 24) f4 (k := 8) (by decide) (by rw [← win_win l a 64 24 8 (by omega), ← hb]; rfl)
    have g5 := numI_of (l := l) (a := a + 32) f5 (k := 8) (by decide) (by rw [← win_win l a 64 32 8 (by omega), ← hb]; rfl)
    have g6 := numI_of (l := l) (a := a + 40) f6 (k := 4) (by decide) (by rw [← win_win l a 64 40 4 (by omega), ← hb]; rfl)
    have g7 := numI_of (l := l) (a := a + 44) f7 (k := 4) (by decide) (by rw [← win_win l a 64 44 4 (by omega), ← hb]; rfl)
    have g8 := numI_of (l := l) (a := a + 48) f8 (k := 8) (by decide) (by rw [← win_win l a 64 48 8 (by omega), ← hb]; rfl)
    have g9 := numI_of (l := l) (a := a + 56) f9 (k := 8) (by decide) (by rw [← win_win l a 64 56 8 (by omega), ← hb]; rfl)
    have ht : tenAt l a = t := by
      unfold tenAt
      rw [g0, g1, g2, g3, g4, g5, g6, g7, g8, g9]
    unfold sectAt
    have e : ((a : Int)).toNat = a := rfl
    rw [e, ht, if_pos ⟨by omega, by omega, hm⟩]

end Go.Proofs.YtmcegjkkgbnjlaaGreat

namespace Go.Proofs.YtmcegjkkgbnjlaaGreat
open Go.RowKit

theorem below_grow (w : World) (o : Obj) : Below w.heap.size w (w.drew.alloc o) := (Below.refl _ w).drew.alloc (by simp) o

/-- append(s, x...), s full and not empty, x nil or not. -/
theorem run_append_full {P : Program} (w : World) (t ty e : TypeId) (i : TypeInfo) (z : Value) (ht : P.underlying t = some (.slice e)) (hi : P.info? e = some i) (hz : i.zero = some z) (hs : i.size = 1) (hb : i.bytes = 1)
    (p q : Option Addr) (n m c : Nat) (l r : List UInt8) (hp : Has w p l) (hq : Has w q r) (hl : l.length = n) (hr : r.length = m) (hn : 0 < n) (hcq : q = none → c = 0 ∧ m = 0) (hbig : n + m ≤ 1000000000) :
    ∃ v' w', (Builtin.append_ #[t, t] ty #[.slice p n n, .slice q m c]).run P w = .ok v' w' ∧ (∃ p' c', v' = .slice p' (n + m) c' ∧ n + m ≤ c' ∧ Has w' p' (l ++ r) ∧ Below w.heap.size w w') := by
  obtain ⟨b, off, rfl, hcell⟩ := hp.plain (by omega)
  rcases Nat.eq_zero_or_pos m with h0 | h0
  · subst h0
    obtain rfl : r = [] := List.eq_nil_of_length_eq_zero hr
    refine ⟨.slice (some ⟨b, off, none⟩) n n, w, ?_, _, _, rfl, Nat.le_refl _, by simpa using hp, Below.refl _ _⟩
    rcases q with _ | q
    · simp [Builtin.append_, run_underlying ht, sizeOf, typeInfo, hi, Builtin.lenOf, Builtin.firstCells, storeCells]
    · simp [Builtin.append_, run_underlying ht, sizeOf, typeInfo, hi, Builtin.lenOf, Builtin.firstCells, storeCells, loadCells, loadCellsFrom]
  · obtain ⟨b2, off2, rfl, _⟩ := hq.plain (by omega)
    have hg := run_append_grow (P := P) (w := w) t ty e i z ht hi hz ⟨b, off, none⟩ n n (l.map u8v) (by simp [hs, hl]) hp.cells ⟨b2, off2, none⟩ m c (r.map u8v) (by simp [hs, hr]) hq.cells (by omega) (by omega) (by rw [hb]; have := nextslicecap_le (need := n + m) (old := n) (by omega); omega)
    refine ⟨_, _, hg, _, _, rfl, grownCap_ge w (n + m) n e, ?_, below_grow w _⟩
    refine Has.of_plain fun j x hx => ?_
    have hx' : (l.map u8v ++ r.map u8v)[j]? = some (u8v x) := by rw [← List.map_append, List.getElem?_map, hx]; rfl
    have hj : j < (l.map u8v ++ r.map u8v).length := (List.getElem?_eq_some_iff.1 hx').1
    refine (cell_of_row _ w.heap.size (0 + j) _ e (0, 0) (heap_alloc_new w.drew _)).trans ?_
    rw [Nat.zero_add, ← Array.getElem?_toList, Array.toList_append, Array.toList_append, List.getElem?_append_left (by simpa using hj)]
    exact hx'

theorem wpList_append_full {P : Program} (w : World) {ops : Array Oper} {rest : List Oper} {o : Oper} {a : Act} {Q : Exit → Act → World → Prop} (hgd : o.guard = none) (s x : Operand) (t : TypeId)
    (ho : o.op = .call { callee := .builtin .append, args := #[s, x], argTypes := #[t, t] })
    (e : TypeId) (i : TypeInfo) (z : Value) (ht : P.underlying t = some (.slice e)) (hi : P.info? e = some i) (hz : i.zero = some z) (hs : i.size = 1) (hb : i.bytes = 1)
    (p q : Option Addr) (n m c : Nat) (l r : List UInt8) (hes : a.eval s = .slice p n n) (hex : a.eval x = .slice q m c) (hp : Has w p l) (hq : Has w q r) (hl : l.length = n) (hr : r.length = m) (hn : 0 < n) (hcq : q = none → c = 0 ∧ m = 0) (hbig : n + m ≤ 1000000000)
    (h : ∀ p' c' w', n + m ≤ c' → Has w' p' (l ++ r) → Below w.heap.size w w' → wpList P ops Q rest (a.put o.dst (.slice p' (n + m) c')) w') : wpList P ops Q (o :: rest) a w := by
  refine wpList_plain hgd fun K hK => ?_
  obtain ⟨v', w', hrun, p', c', rfl, h1, h2, h3⟩ := run_append_full (P := P) w t o.type e i z ht hi hz hs hb p q n m c l r hp hq hl hr hn hcq hbig
  unfold Oper.wp execOp
  simp only [ho, resolve, invoke, builtin, Sem.run_bind, Sem.run_pure, Result.andThen_ok, List.map_toArray, List.map_cons, List.map_nil, hes, hex, hrun]
  exact hK _ _ (h p' c' w' h1 h2 h3)

/-- append to a row of the call's own, of a slice that came in or was made: nil or not. -/
theorem wpList_append_bytes {P : Program} (w : World) {ops : Array Oper} {rest : List Oper} {o : Oper} {a : Act} {Q : Exit → Act → World → Prop} (hgd : o.guard = none) (s x : Operand) (t : TypeId)
    (ho : o.op = .call { callee := .builtin .append, args := #[s, x], argTypes := #[t, t] })
    (base : Nat) (e : TypeId) (i : TypeInfo) (ht : P.underlying t = some (.slice e)) (hi : P.info? e = some i) (hz : i.zero = some (.int .u8 0)) (hs : i.size = 1) (hb : i.bytes = 1)
    (v : Value) (n : Nat) (l : List UInt8) (hes : a.eval s = v) (hown : w.ownsRow base e 1 v n (l.map u8v)) (q : Option Addr) (m c : Nat) (r : List UInt8) (hex : a.eval x = .slice q m c) (hq : Has w q r) (hr : r.length = m) (hcq : q = none → c = 0)
    (hbig : n + m ≤ 1000000000) (hbase : base ≤ w.heap.size)
    (h : ∀ v' w', w'.ownsRow base e 1 v' (n + m) ((l ++ r).map u8v) → w.grownBy w' v.ownBlock → (v'.ownBlock = v.ownBlock ∨ v'.ownBlock = some w.heap.size) → wpList P ops Q rest (a.put o.dst v') w') : wpList P ops Q (o :: rest) a w := by
  rcases q with _ | ad
  · have hr0 : r = [] := by
      cases r with
      | nil => rfl
      | cons y r => obtain ⟨a, e, _⟩ := hq 0 y rfl; cases e
    subst hr0
    have hm : m = 0 := hr.symm
    subst hm
    rw [hcq rfl] at hex
    exact wpList_append_own_none hgd s x t ho base e i 1 ht hi v n _ hes hown hex (h v w (by simpa using hown) (World.grownBy.refl w _) (.inl rfl))
  · exact wpList_append_own_at w hgd s x t ho base e i (.int .u8 0) 1 1 ht hi hz hs hb rfl (by decide) v n _ hes hown ad m c (r.map u8v) hex (by simp [hr]) hq.cells (map_oneCell _) (by unfold maxLen; omega) (by omega) hbase
      fun v' w' h1 h2 _ h4 => h v' w' (by rw [List.map_append]; exact h1) h2 h4

end Go.Proofs.YtmcegjkkgbnjlaaGreat
