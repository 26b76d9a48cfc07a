/-
  Relocations: words, and the contracts of the reference's Width, MayRel and RelBytes.
-/
import Derived.Test.YtmcegjkkgbnjlaaEnt
namespace Go.Proofs.Ytmcegjkkgbnjlaa
open Go.RowKit

def widthI (n : Int) : Int := if n = 1 then 8 else if n = 2 ∨ n = 4 ∨ n = 10 ∨ n = 11 then 4 else 0
theorem width_any (n : Int) (w : World) : Calls Try.prog 58 #[.int .i64 n] w fun e w' => e = .returned (.int .i64 (widthI n)) ∧ w = w' := by
  by_cases h1 : n = 1
  · subst h1
    go_enter Try.func58, Try.ntmps58
    go_wp2
    go_ret
    exact ⟨rfl, rfl⟩
  by_cases h2 : n = 2
  · subst h2
    go_enter Try.func58, Try.ntmps58
    go_wp2
    go_ret
    exact ⟨rfl, rfl⟩
  by_cases h4 : n = 4
  · subst h4
    go_enter Try.func58, Try.ntmps58
    go_wp2
    go_ret
    exact ⟨rfl, rfl⟩
  by_cases h10 : n = 10
  · subst h10
    go_enter Try.func58, Try.ntmps58
    go_wp2
    go_ret
    exact ⟨rfl, rfl⟩
  by_cases h11 : n = 11
  · subst h11
    go_enter Try.func58, Try.ntmps58
    go_wp2
    go_ret
    exact ⟨rfl, rfl⟩
  have HW : Hid (widthI n = 0) := Lib.hid (by simp [widthI, h1, h2, h4, h10, h11])
  have e1 : (n == 1) = false := by simpa using h1
  have e2 : (n == 2) = false := by simpa using h2
  have e4 : (n == 4) = false := by simpa using h4
  have e10 : (n == 10) = false := by simpa using h10
  have e11 : (n == 11) = false := by simpa using h11
  clear h1 h2 h4 h10 h11
  go_enter Try.func58, Try.ntmps58
  go_wp2
  go_ret
  rw [HW.out]
  exact ⟨rfl, rfl⟩

/-- Four numbers: a relocation: place, type, symbol, what is added. -/
structure Fou where
  (a b c d : Int)
abbrev Fou.v (t : Fou) : Value := .agg #[.int .i64 t.a, .int .i64 t.b, .int .i64 t.c, .int .i64 t.d]
def Fou.nums (t : Fou) : List Int := [t.a, 8, t.b, 4, t.c, 4, t.d, 8]
def relB (t : Fou) : List UInt8 := numsB t.nums
def Fou.may (t : Fou) : Prop := fitsB t.a = true ∧ fitsB t.c = true ∧ 0 < widthI t.b
instance (t : Fou) : Decidable t.may := by unfold Fou.may; infer_instance
theorem relB_length (t : Fou) : (relB t).length = 24 := rfl
theorem widthI_pos {n : Int} (h : 0 < widthI n) : n = 1 ∨ n = 2 ∨ n = 4 ∨ n = 10 ∨ n = 11 := by
  unfold widthI at h
  split at h
  · omega
  · split at h
    · omega
    · omega

theorem mayR_yes (t : Fou) (w : World) (h : t.may) : Calls Try.prog 97 #[t.v] w fun e w' => e = .returned (.bool true) ∧ Below w.heap.size w w' := by
  obtain ⟨h1, h2, h3⟩ := h
  have HA := Lib.hid (fits_true h1)
  have HB := Lib.hid (fits_true h2)
  have HW := Lib.hid (width_any t.b)
  have hb0 : Below w.heap.size w (w.alloc (.cells #[.int .i64 t.a, .int .i64 t.b, .int .i64 t.c, .int .i64 t.d] 80)) := (Below.refl _ w).alloc (Nat.le_refl _) _
  clear h1 h2
  generalize widthI t.b = q at *
  go_enter Try.func97, Try.ntmps97
  go_wp2_with fail
  refine (HA.out _).mono ?_
  rintro e w' ⟨rfl, rfl⟩
  go_wp2_with fail
  refine (HB.out _).mono ?_
  rintro e w' ⟨rfl, rfl⟩
  go_wp2_with fail
  refine (HW.out _).mono ?_
  rintro e w' ⟨rfl, rfl⟩
  go_wp2_with fail
  go_ret
  exact ⟨by simp, hb0⟩
theorem mayR_no (t : Fou) (w : World) (h : ¬ t.may) : Calls Try.prog 97 #[t.v] w fun e w' => e = .returned (.bool false) ∧ Below w.heap.size w w' := by
  have HB0 := Lib.hid (fits_b t.c)
  have HW := Lib.hid (width_any t.b)
  have hb0 : Below w.heap.size w (w.alloc (.cells #[.int .i64 t.a, .int .i64 t.b, .int .i64 t.c, .int .i64 t.d] 80)) := (Below.refl _ w).alloc (Nat.le_refl _) _
  by_cases h1 : fitsB t.a = true
  · have HA := Lib.hid (fits_true h1)
    by_cases h2 : fitsB t.c = true
    · have HB := Lib.hid (fits_true h2)
      have h3 : ¬ 0 < widthI t.b := fun h3 => h ⟨h1, h2, h3⟩
      clear h1 h2 h HB0
      generalize widthI t.b = q at *
      go_enter Try.func97, Try.ntmps97
      go_wp2_with fail
      refine (HA.out _).mono ?_
      rintro e w' ⟨rfl, rfl⟩
      go_wp2_with fail
      refine (HB.out _).mono ?_
      rintro e w' ⟨rfl, rfl⟩
      go_wp2_with fail
      refine (HW.out _).mono ?_
      rintro e w' ⟨rfl, rfl⟩
      go_wp2_with fail
      go_ret
      exact ⟨by simp; omega, hb0⟩
    · have HB := Lib.hid (fits_false h2)
      clear h1 h2 h HB0
      go_enter Try.func97, Try.ntmps97
      go_wp2_with fail
      refine (HA.out _).mono ?_
      rintro e w' ⟨rfl, rfl⟩
      go_wp2_with fail
      refine (HB.out _).mono ?_
      rintro e w' ⟨rfl, rfl⟩
      go_wp2_with fail
      go_ret
      exact ⟨rfl, hb0⟩
  · have HA := Lib.hid (fits_false h1)
    clear h1 h
    go_enter Try.func97, Try.ntmps97
    go_wp2_with fail
    refine (HA.out _).mono ?_
    rintro e w' ⟨rfl, rfl⟩
    go_wp2_with fail
    refine (HB0.out _).mono ?_
    rintro e w' ⟨rfl, rfl⟩
    go_wp2_with fail
    go_ret
    exact ⟨rfl, hb0⟩

theorem rel_wid (t : Fou) : ∀ (i : Nat) (x : Int), t.nums[2 * i + 1]? = some x → wid x = true := fun i x hx => by
  have hi : i < 4 := by have := (List.getElem?_eq_some_iff.1 hx).1; simp [Fou.nums] at this; omega
  match i, hi, hx with
  | 0, _, hx | 1, _, hx | 2, _, hx | 3, _, hx => simp [Fou.nums] at hx; subst hx; rfl
theorem rel_bd {t : Fou} (h : t.may) (hd : -9223372036854775808 ≤ t.d ∧ t.d ≤ 9223372036854775807) : ∀ (i : Nat) (x : Int), t.nums[i]? = some x → -9223372036854775808 ≤ x ∧ x ≤ 9223372036854775807 := fun i x hx => by
  have hm := List.mem_of_getElem? hx
  simp only [Fou.nums, List.mem_cons, List.not_mem_nil, or_false] at hm
  obtain ⟨h1, h2, h3⟩ := h
  have g1 := (fitsB_iff _).1 h1
  have g2 := (fitsB_iff _).1 h2
  have g3 := widthI_pos h3
  omega

theorem relBytes_no (t : Fou) (w : World) (h : ¬ t.may) : Calls Try.prog 60 #[t.v] w (GivesH 0 [] w) := by
  have HM := Lib.hid fun W => mayR_no t W h
  clear h
  go_enter Try.func60, Try.ntmps60
  go_wp2_with fail
  refine (HM.out _).mono ?_
  rintro e w2 ⟨rfl, hbb⟩
  go_wp2_with fail
  go_ret
  exact ⟨none, 0, rfl, rfl, Nat.le_refl _, Nat.zero_le _, Has.none_ _ _, ((Below.refl _ w).alloc (Nat.le_refl _) _).trans (hbb.mono (by simp))⟩

set_option maxHeartbeats 2000000 in
theorem relBytes_yes (t : Fou) (w : World) (h : t.may) (hd : -9223372036854775808 ≤ t.d ∧ t.d ≤ 9223372036854775807) : Calls Try.prog 60 #[t.v] w (Gives (relB t) w) := by
  have HM := Lib.hid fun W => mayR_yes t W h
  have HN := Lib.hid fun (W : World) (p : Option Addr) (hp : HasI W p t.nums) => nums_any p 8 8 4 t.nums W hp rfl rfl (by omega) (rel_wid t) (rel_bd h hd)
  clear h
  go_enter Try.func60, Try.ntmps60
  go_wp2_with fail
  refine (HM.out _).mono ?_
  rintro e w2 ⟨rfl, hbb⟩
  have c0 : w2.cell? ⟨w.heap.size, 0, none⟩ = some (.int .i64 t.a) := by rw [hbb.cell (by simp)]; simp
  have c1 : w2.cell? ⟨w.heap.size, 1, none⟩ = some (.int .i64 t.b) := by rw [hbb.cell (by simp)]; simp
  have c2 : w2.cell? ⟨w.heap.size, 2, none⟩ = some (.int .i64 t.c) := by rw [hbb.cell (by simp)]; simp
  have c3 : w2.cell? ⟨w.heap.size, 3, none⟩ = some (.int .i64 t.d) := by rw [hbb.cell (by simp)]; simp
  have hb : Below w.heap.size w w2 := ((Below.refl _ w).alloc (Nat.le_refl _) _).trans (hbb.mono (by simp))
  clear hbb
  go_wp2_with fail
  refine (HN.out _ _ (lit_hasI w2 3 t.nums #[.int .i64 t.a, .int .i64 8, .int .i64 t.b, .int .i64 4, .int .i64 t.c, .int .i64 4, .int .i64 t.d, .int .i64 8] rfl _ rfl)).mono ?_
  rintro e w3 ⟨v, rfl, ho, hbb3⟩
  have hb3 : Below w.heap.size w w3 := (hb.alloc hb.size _).trans (hbb3.mono (by have := hb.size; simp; omega))
  have ho3 := owns_lower (c := w.heap.size) ho (by have := hb.size; simp; omega)
  clear hbb3 ho
  go_wp2_with fail
  go_ret
  exact ⟨_, rfl, ho3, hb3⟩

end Go.Proofs.Ytmcegjkkgbnjlaa
