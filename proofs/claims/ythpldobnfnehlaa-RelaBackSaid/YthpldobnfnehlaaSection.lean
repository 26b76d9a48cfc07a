/-
  Contracts of the reference's HeadBytes and Section.
-/
import Derived.Test.YthpldobnfnehlaaSect
namespace Go.Proofs.Ythpldobnfnehlaa
open Go.RowKit

theorem nums_wid (t : Ten) : ∀ (i : Nat) (x : Int), t.nums[2 * i + 1]? = some x → wid x = true := fun i x hx => by
  have hi : i < 10 := by have := (List.getElem?_eq_some_iff.1 hx).1; simp [Ten.nums] at this; omega
  match i, hi, hx with
  | 0, _, hx | 1, _, hx | 2, _, hx | 3, _, hx | 4, _, hx | 5, _, hx | 6, _, hx | 7, _, hx | 8, _, hx | 9, _, hx => simp [Ten.nums] at hx; subst hx; rfl
theorem nums_bd {t : Ten} (h : t.may) : ∀ (i : Nat) (x : Int), t.nums[i]? = some x → -9223372036854775808 ≤ x ∧ x ≤ 9223372036854775807 := fun i x hx => by
  have hm := List.mem_of_getElem? hx
  simp only [Ten.nums, List.mem_cons, List.not_mem_nil, or_false] at hm
  have hf : ∀ y, y ∈ t.l → 0 ≤ y ∧ y ≤ 2147483647 := fun y hy => (fitsB_iff y).1 (h y hy)
  simp only [Ten.l, List.mem_cons, List.not_mem_nil, or_false, forall_eq_or_imp, forall_eq] at hf
  omega
theorem sectB_length (t : Ten) : (sectB t).length = 64 := rfl

theorem headBytes_no (t : Ten) (w : World) (h : ¬ t.may) : Calls Try.prog 21 #[t.v] w (GivesH 0 [] w) := by
  have HM := Lib.hid fun W => may_no t W h
  clear h
  go_enter Try.func21, Try.ntmps21
  go_wp2_with fail
  refine (HM.out _).mono ?_
  rintro e w2 ⟨rfl, hbb⟩
  go_wp2_with fail
  go_ret
  exact ⟨none, 0, rfl, rfl, Nat.le_refl _, Nat.zero_le _, Has.none_ _ _, ((Below.refl _ w).alloc (Nat.le_refl _) _).trans (hbb.mono (by simp))⟩

set_option maxHeartbeats 2000000 in
theorem headBytes_yes (t : Ten) (w : World) (h : t.may) : Calls Try.prog 21 #[t.v] w (Gives (sectB t) w) := by
  have HM := Lib.hid fun W => may_yes t W h
  have HN := Lib.hid fun (W : World) (p : Option Addr) (hp : HasI W p t.nums) => nums_any p 20 20 10 t.nums W hp rfl rfl (by omega) (nums_wid t) (nums_bd h)
  clear h
  go_enter Try.func21, Try.ntmps21
  go_wp2_with fail
  refine (HM.out _).mono ?_
  rintro e w2 ⟨rfl, hbb⟩
  have c0 : w2.cell? ⟨w.heap.size, 0, none⟩ = some (.int .i64 t.a) := by rw [hbb.cell (by simp <;> omega)]; simp
  have c1 : w2.cell? ⟨w.heap.size, 1, none⟩ = some (.int .i64 t.b) := by rw [hbb.cell (by simp <;> omega)]; simp
  have c2 : w2.cell? ⟨w.heap.size, 2, none⟩ = some (.int .i64 t.c) := by rw [hbb.cell (by simp <;> omega)]; simp
  have c3 : w2.cell? ⟨w.heap.size, 3, none⟩ = some (.int .i64 t.d) := by rw [hbb.cell (by simp <;> omega)]; simp
  have c4 : w2.cell? ⟨w.heap.size, 4, none⟩ = some (.int .i64 t.e) := by rw [hbb.cell (by simp <;> omega)]; simp
  have c5 : w2.cell? ⟨w.heap.size, 5, none⟩ = some (.int .i64 t.f) := by rw [hbb.cell (by simp <;> omega)]; simp
  have c6 : w2.cell? ⟨w.heap.size, 6, none⟩ = some (.int .i64 t.g) := by rw [hbb.cell (by simp <;> omega)]; simp
  have c7 : w2.cell? ⟨w.heap.size, 7, none⟩ = some (.int .i64 t.h) := by rw [hbb.cell (by simp <;> omega)]; simp
  have c8 : w2.cell? ⟨w.heap.size, 8, none⟩ = some (.int .i64 t.i) := by rw [hbb.cell (by simp <;> omega)]; simp
  have c9 : w2.cell? ⟨w.heap.size, 9, none⟩ = some (.int .i64 t.j) := by rw [hbb.cell (by simp <;> omega)]; simp
  have hb : Below w.heap.size w w2 := ((Below.refl _ w).alloc (Nat.le_refl _) _).trans (hbb.mono (by simp))
  clear hbb
  go_wp2_with fail
  refine (HN.out _ _ (lit_hasI w2 3 t.nums #[.int .i64 t.a, .int .i64 4, .int .i64 t.b, .int .i64 4, .int .i64 t.c, .int .i64 8, .int .i64 t.d, .int .i64 8, .int .i64 t.e, .int .i64 8, .int .i64 t.f, .int .i64 8, .int .i64 t.g, .int .i64 4, .int .i64 t.h, .int .i64 4, .int .i64 t.i, .int .i64 8, .int .i64 t.j, .int .i64 8] rfl _ rfl)).mono ?_
  rintro e w3 ⟨v, rfl, ho, hbb3⟩
  have hb3 : Below w.heap.size w w3 := (hb.alloc hb.size _).trans (hbb3.mono (by have := hb.size; simp; omega))
  have ho3 := owns_lower (c := w.heap.size) ho (by have := hb.size; simp; omega)
  clear hbb3 ho
  go_wp2_with fail
  go_ret
  exact ⟨_, rfl, ho3, hb3⟩

/-- The numbers of the header at at. -/
def tenAt (l : List UInt8) (o : Nat) : Ten := ⟨numI l o 4, numI l (o + 4) 4, numI l (o + 8) 8, numI l (o + 16) 8, numI l (o + 24) 8, numI l (o + 32) 8, numI l (o + 40) 4, numI l (o + 44) 4, numI l (o + 48) 8, numI l (o + 56) 8⟩
def ten0 : Ten := ⟨0, 0, 0, 0, 0, 0, 0, 0, 0, 0⟩
/-- What Section tells. -/
def sectAt (l : List UInt8) (at_ : Int) : Option Ten := if 0 ≤ at_ ∧ at_ + 64 ≤ l.length ∧ (tenAt l at_.toNat).may then some (tenAt l at_.toNat) else none
def sectV (o : Option Ten) : Value × Bool := match o with | some t => (t.v, true) | none => (ten0.v, false)

theorem section_out (p : Option Addr) (len cap : Nat) (at_ : Int) (w : World) (h : at_ < 0 ∨ (len : Int) < at_ + 64) (hb0 : at_ ≤ 9223372036854775807) (_hbig : len ≤ 1000000000) :
    Calls Try.prog 18 #[.slice p len cap, .int .i64 at_] w fun e w' => e = .returned (.tuple #[ten0.v, .bool false]) ∧ Below w.heap.size w w' := by
  by_cases h0 : at_ < 0
  · clear h
    go_enter Try.func18, Try.ntmps18
    go_wp2_with fail
    exact bodyPost_ret (v := .tuple #[ten0.v, .bool false]) (by simp [results, Try.results18, go_sem, ten0]) rfl ⟨rfl, (Below.refl _ w).alloc (Nat.le_refl _) _⟩
  by_cases h1 : (len : Int) < at_
  · clear h
    go_enter Try.func18, Try.ntmps18
    go_wp2_with fail
    exact bodyPost_ret (v := .tuple #[ten0.v, .bool false]) (by simp [results, Try.results18, go_sem, ten0]) rfl ⟨rfl, (Below.refl _ w).alloc (Nat.le_refl _) _⟩
  have h2 : (len : Int) - at_ < 64 := by omega
  clear h
  go_enter Try.func18, Try.ntmps18
  go_wp2_with fail
  exact bodyPost_ret (v := .tuple #[ten0.v, .bool false]) (by simp [results, Try.results18, go_sem, ten0]) rfl ⟨rfl, (Below.refl _ w).alloc (Nat.le_refl _) _⟩

set_option maxRecDepth 100000 in
set_option maxHeartbeats 4000000 in
theorem section_in (p : Option Addr) (len cap a : Nat) (l : List UInt8) (w : World) (h : Has w p l) (hlen : l.length = len) (hcap : len ≤ cap) (hin : a + 64 ≤ len) (hbig : len ≤ 1000000000) :
    Calls Try.prog 18 #[.slice p len cap, .int .i64 a] w fun e w' => e = .returned (.tuple #[(sectV (sectAt l a)).1, .bool (sectV (sectAt l a)).2]) ∧ Below w.heap.size w w' := by
  have N0 : Hid (∀ W, Below w.heap.size w W → Calls Try.prog 45 #[.slice p len cap, .int .i64 (a : Int), .int .i64 4] W fun e w' => e = .returned (.int .i64 (numI l a 4)) ∧ W = w') := Lib.hid fun W hb => by
    have := rnum_any p len cap l a 4 W (h.below hb) hlen hcap (by omega) (by omega) (by omega) hbig
    exact this
  have N4 : Hid (∀ W, Below w.heap.size w W → Calls Try.prog 45 #[.slice p len cap, .int .i64 ((a : Int) + 4), .int .i64 4] W fun e w' => e = .returned (.int .i64 (numI l (a + 4) 4)) ∧ W = w') := Lib.hid fun W hb => by
    have := rnum_any p len cap l (a + 4) 4 W (h.below hb) hlen hcap (by omega) (by omega) (by omega) hbig
    rw [show ((a + 4 : Nat) : Int) = (a : Int) + 4 by omega] at this
    exact this
  have N8 : Hid (∀ W, Below w.heap.size w W → Calls Try.prog 45 #[.slice p len cap, .int .i64 ((a : Int) + 8), .int .i64 8] W fun e w' => e = .returned (.int .i64 (numI l (a + 8) 8)) ∧ W = w') := Lib.hid fun W hb => by
    have := rnum_any p len cap l (a + 8) 8 W (h.below hb) hlen hcap (by omega) (by omega) (by omega) hbig
    rw [show ((a + 8 : Nat) : Int) = (a : Int) + 8 by omega] at this
    exact this
  have N16 : Hid (∀ W, Below w.heap.size w W → Calls Try.prog 45 #[.slice p len cap, .int .i64 ((a : Int) + 16), .int .i64 8] W fun e w' => e = .returned (.int .i64 (numI l (a + 16) 8)) ∧ W = w') := Lib.hid fun W hb => by
    have := rnum_any p len cap l (a + 16) 8 W (h.below hb) hlen hcap (by omega) (by omega) (by omega) hbig
    rw [show ((a + 16 : Nat) : Int) = (a : Int) + 16 by omega] at this
    exact this
  have N24 : Hid (∀ W, Below w.heap.size w W → Calls Try.prog 45 #[.slice p len cap, .int .i64 ((a : Int) + 24), .int .i64 8] W fun e w' => e = .returned (.int .i64 (numI l (a + 24) 8)) ∧ W = w') := Lib.hid fun W hb => by
    have := rnum_any p len cap l (a + 24) 8 W (h.below hb) hlen hcap (by omega) (by omega) (by omega) hbig
    rw [show ((a + 24 : Nat) : Int) = (a : Int) + 24 by omega] at this
    exact this
  have N32 : Hid (∀ W, Below w.heap.size w W → Calls Try.prog 45 #[.slice p len cap, .int .i64 ((a : Int) + 32), .int .i64 8] W fun e w' => e = .returned (.int .i64 (numI l (a + 32) 8)) ∧ W = w') := Lib.hid fun W hb => by
    have := rnum_any p len cap l (a + 32) 8 W (h.below hb) hlen hcap (by omega) (by omega) (by omega) hbig
    rw [show ((a + 32 : Nat) : Int) = (a : Int) + 32 by omega] at this
    exact this
  have N40 : Hid (∀ W, Below w.heap.size w W → Calls Try.prog 45 #[.slice p len cap, .int .i64 ((a : Int) + 40), .int .i64 4] W fun e w' => e = .returned (.int .i64 (numI l (a + 40) 4)) ∧ W = w') := Lib.hid fun W hb => by
    have := rnum_any p len cap l (a + 40) 4 W (h.below hb) hlen hcap (by omega) (by omega) (by omega) hbig
    rw [show ((a + 40 : Nat) : Int) = (a : Int) + 40 by omega] at this
    exact this
  have N44 : Hid (∀ W, Below w.heap.size w W → Calls Try.prog 45 #[.slice p len cap, .int .i64 ((a : Int) + 44), .int .i64 4] W fun e w' => e = .returned (.int .i64 (numI l (a + 44) 4)) ∧ W = w') := Lib.hid fun W hb => by
    have := rnum_any p len cap l (a + 44) 4 W (h.below hb) hlen hcap (by omega) (by omega) (by omega) hbig
    rw [show ((a + 44 : Nat) : Int) = (a : Int) + 44 by omega] at this
    exact this
  have N48 : Hid (∀ W, Below w.heap.size w W → Calls Try.prog 45 #[.slice p len cap, .int .i64 ((a : Int) + 48), .int .i64 8] W fun e w' => e = .returned (.int .i64 (numI l (a + 48) 8)) ∧ W = w') := Lib.hid fun W hb => by
    have := rnum_any p len cap l (a + 48) 8 W (h.below hb) hlen hcap (by omega) (by omega) (by omega) hbig
    rw [show ((a + 48 : Nat) : Int) = (a : Int) + 48 by omega] at this
    exact this
  have N56 : Hid (∀ W, Below w.heap.size w W → Calls Try.prog 45 #[.slice p len cap, .int .i64 ((a : Int) + 56), .int .i64 8] W fun e w' => e = .returned (.int .i64 (numI l (a + 56) 8)) ∧ W = w') := Lib.hid fun W hb => by
    have := rnum_any p len cap l (a + 56) 8 W (h.below hb) hlen hcap (by omega) (by omega) (by omega) hbig
    rw [show ((a + 56 : Nat) : Int) = (a : Int) + 56 by omega] at this
    exact this
  have hbz : Below w.heap.size w (w.alloc (.cells #[.int .i64 0, .int .i64 0, .int .i64 0, .int .i64 0, .int .i64 0, .int .i64 0, .int .i64 0, .int .i64 0, .int .i64 0, .int .i64 0] 38)) := (Below.refl _ w).alloc (Nat.le_refl _) _
  have hT : tenAt l a = ⟨numI l a 4, numI l (a + 4) 4, numI l (a + 8) 8, numI l (a + 16) 8, numI l (a + 24) 8, numI l (a + 32) 8, numI l (a + 40) 4, numI l (a + 44) 4, numI l (a + 48) 8, numI l (a + 56) 8⟩ := rfl
  have hS : sectAt l a = if (tenAt l a).may then some (tenAt l a) else none := by
    unfold sectAt
    by_cases hm : (tenAt l a).may
    · rw [if_pos hm, if_pos ⟨by omega, by omega, hm⟩]; rfl
    · rw [if_neg hm, if_neg fun hc => hm hc.2.2]
  have hI0 : ¬ (a : Int) < 0 := by omega
  have hI1 : ¬ (len : Int) < (a : Int) := by omega
  have hI2 : ¬ (len : Int) - (a : Int) < 64 := by omega
  have ha9 : a ≤ 1000000000 := by omega
  clear h hlen
  generalize numI l a 4 = v0 at *
  generalize numI l (a + 4) 4 = v1 at *
  generalize numI l (a + 8) 8 = v2 at *
  generalize numI l (a + 16) 8 = v3 at *
  generalize numI l (a + 24) 8 = v4 at *
  generalize numI l (a + 32) 8 = v5 at *
  generalize numI l (a + 40) 4 = v6 at *
  generalize numI l (a + 44) 4 = v7 at *
  generalize numI l (a + 48) 8 = v8 at *
  generalize numI l (a + 56) 8 = v9 at *
  have HT := Lib.hid hT
  have HS := Lib.hid hS
  clear hT hS
  go_enter Try.func18, Try.ntmps18
  go_wp2_with fail
  refine (N0.out _ hbz).mono ?_
  rintro e w' ⟨rfl, rfl⟩
  go_wp2_with fail
  refine (N4.out _ hbz).mono ?_
  rintro e w' ⟨rfl, rfl⟩
  go_wp2_with fail
  refine (N8.out _ hbz).mono ?_
  rintro e w' ⟨rfl, rfl⟩
  go_wp2_with fail
  refine (N16.out _ hbz).mono ?_
  rintro e w' ⟨rfl, rfl⟩
  go_wp2_with fail
  refine (N24.out _ hbz).mono ?_
  rintro e w' ⟨rfl, rfl⟩
  go_wp2_with fail
  refine (N32.out _ (hbz.alloc (by simp) _)).mono ?_
  rintro e w' ⟨rfl, rfl⟩
  go_wp2_with fail
  refine (N40.out _ (hbz.alloc (by simp) _)).mono ?_
  rintro e w' ⟨rfl, rfl⟩
  go_wp2_with fail
  refine (N44.out _ (hbz.alloc (by simp) _)).mono ?_
  rintro e w' ⟨rfl, rfl⟩
  go_wp2_with fail
  refine (N48.out _ (hbz.alloc (by simp) _)).mono ?_
  rintro e w' ⟨rfl, rfl⟩
  go_wp2_with fail
  refine (N56.out _ (hbz.alloc (by simp) _)).mono ?_
  rintro e w' ⟨rfl, rfl⟩
  have hb2 : Below w.heap.size w ((w.alloc (.cells #[.int .i64 0, .int .i64 0, .int .i64 0, .int .i64 0, .int .i64 0, .int .i64 0, .int .i64 0, .int .i64 0, .int .i64 0, .int .i64 0] 38)).alloc (.cells #[.int .i64 v0, .int .i64 v1, .int .i64 v2, .int .i64 v3, .int .i64 v4, .int .i64 v5, .int .i64 v6, .int .i64 v7, .int .i64 v8, .int .i64 v9] 38)) := hbz.alloc (by simp) _
  go_wp2_with fail
  by_cases hm : (Ten.mk v0 v1 v2 v3 v4 v5 v6 v7 v8 v9).may
  · have HO : Hid (sectV (sectAt l a) = (Ten.v ⟨v0, v1, v2, v3, v4, v5, v6, v7, v8, v9⟩, true)) := Lib.hid (by rw [HS.out, HT.out, if_pos hm]; rfl)
    refine (may_yes ⟨v0, v1, v2, v3, v4, v5, v6, v7, v8, v9⟩ _ hm).mono ?_
    rintro e w3 ⟨rfl, hbb⟩
    have c0 : w3.cell? ⟨w.heap.size, 0, none⟩ = some (.int .i64 0) := by rw [hbb.cell (by simp <;> omega)]; simp
    have d0 : w3.cell? ⟨w.heap.size + 1, 0, none⟩ = some (.int .i64 v0) := by rw [hbb.cell (by simp <;> omega)]; simp
    have f0 : w3.frozen? ⟨w.heap.size, 0, none⟩ = false := by rw [hbb.frozen (by simp <;> omega)]; simp
    have c1 : w3.cell? ⟨w.heap.size, 1, none⟩ = some (.int .i64 0) := by rw [hbb.cell (by simp <;> omega)]; simp
    have d1 : w3.cell? ⟨w.heap.size + 1, 1, none⟩ = some (.int .i64 v1) := by rw [hbb.cell (by simp <;> omega)]; simp
    have f1 : w3.frozen? ⟨w.heap.size, 1, none⟩ = false := by rw [hbb.frozen (by simp <;> omega)]; simp
    have c2 : w3.cell? ⟨w.heap.size, 2, none⟩ = some (.int .i64 0) := by rw [hbb.cell (by simp <;> omega)]; simp
    have d2 : w3.cell? ⟨w.heap.size + 1, 2, none⟩ = some (.int .i64 v2) := by rw [hbb.cell (by simp <;> omega)]; simp
    have f2 : w3.frozen? ⟨w.heap.size, 2, none⟩ = false := by rw [hbb.frozen (by simp <;> omega)]; simp
    have c3 : w3.cell? ⟨w.heap.size, 3, none⟩ = some (.int .i64 0) := by rw [hbb.cell (by simp <;> omega)]; simp
    have d3 : w3.cell? ⟨w.heap.size + 1, 3, none⟩ = some (.int .i64 v3) := by rw [hbb.cell (by simp <;> omega)]; simp
    have f3 : w3.frozen? ⟨w.heap.size, 3, none⟩ = false := by rw [hbb.frozen (by simp <;> omega)]; simp
    have c4 : w3.cell? ⟨w.heap.size, 4, none⟩ = some (.int .i64 0) := by rw [hbb.cell (by simp <;> omega)]; simp
    have d4 : w3.cell? ⟨w.heap.size + 1, 4, none⟩ = some (.int .i64 v4) := by rw [hbb.cell (by simp <;> omega)]; simp
    have f4 : w3.frozen? ⟨w.heap.size, 4, none⟩ = false := by rw [hbb.frozen (by simp <;> omega)]; simp
    have c5 : w3.cell? ⟨w.heap.size, 5, none⟩ = some (.int .i64 0) := by rw [hbb.cell (by simp <;> omega)]; simp
    have d5 : w3.cell? ⟨w.heap.size + 1, 5, none⟩ = some (.int .i64 v5) := by rw [hbb.cell (by simp <;> omega)]; simp
    have f5 : w3.frozen? ⟨w.heap.size, 5, none⟩ = false := by rw [hbb.frozen (by simp <;> omega)]; simp
    have c6 : w3.cell? ⟨w.heap.size, 6, none⟩ = some (.int .i64 0) := by rw [hbb.cell (by simp <;> omega)]; simp
    have d6 : w3.cell? ⟨w.heap.size + 1, 6, none⟩ = some (.int .i64 v6) := by rw [hbb.cell (by simp <;> omega)]; simp
    have f6 : w3.frozen? ⟨w.heap.size, 6, none⟩ = false := by rw [hbb.frozen (by simp <;> omega)]; simp
    have c7 : w3.cell? ⟨w.heap.size, 7, none⟩ = some (.int .i64 0) := by rw [hbb.cell (by simp <;> omega)]; simp
    have d7 : w3.cell? ⟨w.heap.size + 1, 7, none⟩ = some (.int .i64 v7) := by rw [hbb.cell (by simp <;> omega)]; simp
    have f7 : w3.frozen? ⟨w.heap.size, 7, none⟩ = false := by rw [hbb.frozen (by simp <;> omega)]; simp
    have c8 : w3.cell? ⟨w.heap.size, 8, none⟩ = some (.int .i64 0) := by rw [hbb.cell (by simp <;> omega)]; simp
    have d8 : w3.cell? ⟨w.heap.size + 1, 8, none⟩ = some (.int .i64 v8) := by rw [hbb.cell (by simp <;> omega)]; simp
    have f8 : w3.frozen? ⟨w.heap.size, 8, none⟩ = false := by rw [hbb.frozen (by simp <;> omega)]; simp
    have c9 : w3.cell? ⟨w.heap.size, 9, none⟩ = some (.int .i64 0) := by rw [hbb.cell (by simp <;> omega)]; simp
    have d9 : w3.cell? ⟨w.heap.size + 1, 9, none⟩ = some (.int .i64 v9) := by rw [hbb.cell (by simp <;> omega)]; simp
    have f9 : w3.frozen? ⟨w.heap.size, 9, none⟩ = false := by rw [hbb.frozen (by simp <;> omega)]; simp
    have hb3 : Below w.heap.size w w3 := hb2.trans (hbb.mono (by simp <;> omega))
    clear hbb hm hb2 hbz
    go_wp2_with fail
    rw [HO.out]
    exact bodyPost_ret (v := .tuple #[Ten.v ⟨v0, v1, v2, v3, v4, v5, v6, v7, v8, v9⟩, .bool true]) (by simp [results, Try.results18, go_sem, c0, c1, c2, c3, c4, c5, c6, c7, c8, c9]) rfl ⟨rfl, ((((((((((hb3.setCell (Nat.le_refl _) _).setCell (Nat.le_refl _) _).setCell (Nat.le_refl _) _).setCell (Nat.le_refl _) _).setCell (Nat.le_refl _) _).setCell (Nat.le_refl _) _).setCell (Nat.le_refl _) _).setCell (Nat.le_refl _) _).setCell (Nat.le_refl _) _).setCell (Nat.le_refl _) _)⟩
  · have HO : Hid (sectV (sectAt l a) = (ten0.v, false)) := Lib.hid (by rw [HS.out, HT.out, if_neg hm]; rfl)
    refine (may_no ⟨v0, v1, v2, v3, v4, v5, v6, v7, v8, v9⟩ _ hm).mono ?_
    rintro e w3 ⟨rfl, hbb⟩
    have c0 : w3.cell? ⟨w.heap.size, 0, none⟩ = some (.int .i64 0) := by rw [hbb.cell (by simp <;> omega)]; simp
    have d0 : w3.cell? ⟨w.heap.size + 1, 0, none⟩ = some (.int .i64 v0) := by rw [hbb.cell (by simp <;> omega)]; simp
    have f0 : w3.frozen? ⟨w.heap.size, 0, none⟩ = false := by rw [hbb.frozen (by simp <;> omega)]; simp
    have c1 : w3.cell? ⟨w.heap.size, 1, none⟩ = some (.int .i64 0) := by rw [hbb.cell (by simp <;> omega)]; simp
    have d1 : w3.cell? ⟨w.heap.size + 1, 1, none⟩ = some (.int .i64 v1) := by rw [hbb.cell (by simp <;> omega)]; simp
    have f1 : w3.frozen? ⟨w.heap.size, 1, none⟩ = false := by rw [hbb.frozen (by simp <;> omega)]; simp
    have c2 : w3.cell? ⟨w.heap.size, 2, none⟩ = some (.int .i64 0) := by rw [hbb.cell (by simp <;> omega)]; simp
    have d2 : w3.cell? ⟨w.heap.size + 1, 2, none⟩ = some (.int .i64 v2) := by rw [hbb.cell (by simp <;> omega)]; simp
    have f2 : w3.frozen? ⟨w.heap.size, 2, none⟩ = false := by rw [hbb.frozen (by simp <;> omega)]; simp
    have c3 : w3.cell? ⟨w.heap.size, 3, none⟩ = some (.int .i64 0) := by rw [hbb.cell (by simp <;> omega)]; simp
    have d3 : w3.cell? ⟨w.heap.size + 1, 3, none⟩ = some (.int .i64 v3) := by rw [hbb.cell (by simp <;> omega)]; simp
    have f3 : w3.frozen? ⟨w.heap.size, 3, none⟩ = false := by rw [hbb.frozen (by simp <;> omega)]; simp
    have c4 : w3.cell? ⟨w.heap.size, 4, none⟩ = some (.int .i64 0) := by rw [hbb.cell (by simp <;> omega)]; simp
    have d4 : w3.cell? ⟨w.heap.size + 1, 4, none⟩ = some (.int .i64 v4) := by rw [hbb.cell (by simp <;> omega)]; simp
    have f4 : w3.frozen? ⟨w.heap.size, 4, none⟩ = false := by rw [hbb.frozen (by simp <;> omega)]; simp
    have c5 : w3.cell? ⟨w.heap.size, 5, none⟩ = some (.int .i64 0) := by rw [hbb.cell (by simp <;> omega)]; simp
    have d5 : w3.cell? ⟨w.heap.size + 1, 5, none⟩ = some (.int .i64 v5) := by rw [hbb.cell (by simp <;> omega)]; simp
    have f5 : w3.frozen? ⟨w.heap.size, 5, none⟩ = false := by rw [hbb.frozen (by simp <;> omega)]; simp
    have c6 : w3.cell? ⟨w.heap.size, 6, none⟩ = some (.int .i64 0) := by rw [hbb.cell (by simp <;> omega)]; simp
    have d6 : w3.cell? ⟨w.heap.size + 1, 6, none⟩ = some (.int .i64 v6) := by rw [hbb.cell (by simp <;> omega)]; simp
    have f6 : w3.frozen? ⟨w.heap.size, 6, none⟩ = false := by rw [hbb.frozen (by simp <;> omega)]; simp
    have c7 : w3.cell? ⟨w.heap.size, 7, none⟩ = some (.int .i64 0) := by rw [hbb.cell (by simp <;> omega)]; simp
    have d7 : w3.cell? ⟨w.heap.size + 1, 7, none⟩ = some (.int .i64 v7) := by rw [hbb.cell (by simp <;> omega)]; simp
    have f7 : w3.frozen? ⟨w.heap.size, 7, none⟩ = false := by rw [hbb.frozen (by simp <;> omega)]; simp
    have c8 : w3.cell? ⟨w.heap.size, 8, none⟩ = some (.int .i64 0) := by rw [hbb.cell (by simp <;> omega)]; simp
    have d8 : w3.cell? ⟨w.heap.size + 1, 8, none⟩ = some (.int .i64 v8) := by rw [hbb.cell (by simp <;> omega)]; simp
    have f8 : w3.frozen? ⟨w.heap.size, 8, none⟩ = false := by rw [hbb.frozen (by simp <;> omega)]; simp
    have c9 : w3.cell? ⟨w.heap.size, 9, none⟩ = some (.int .i64 0) := by rw [hbb.cell (by simp <;> omega)]; simp
    have d9 : w3.cell? ⟨w.heap.size + 1, 9, none⟩ = some (.int .i64 v9) := by rw [hbb.cell (by simp <;> omega)]; simp
    have f9 : w3.frozen? ⟨w.heap.size, 9, none⟩ = false := by rw [hbb.frozen (by simp <;> omega)]; simp
    have hb3 : Below w.heap.size w w3 := hb2.trans (hbb.mono (by simp <;> omega))
    clear hbb hm hb2 hbz
    go_wp2_with fail
    rw [HO.out]
    exact bodyPost_ret (v := .tuple #[ten0.v, .bool false]) (by simp [results, Try.results18, go_sem, ten0, c0, c1, c2, c3, c4, c5, c6, c7, c8, c9]) rfl ⟨rfl, ((((((((((hb3.setCell (Nat.le_refl _) _).setCell (Nat.le_refl _) _).setCell (Nat.le_refl _) _).setCell (Nat.le_refl _) _).setCell (Nat.le_refl _) _).setCell (Nat.le_refl _) _).setCell (Nat.le_refl _) _).setCell (Nat.le_refl _) _).setCell (Nat.le_refl _) _).setCell (Nat.le_refl _) _)⟩

end Go.Proofs.Ythpldobnfnehlaa
