/-
  Symbols' entries: words, and the contracts of the reference's MayEntry and EntryBytes.
  Relocations: words, and the contracts of the reference's Width, MayRel and RelBytes.
-/
import Derived.Test.YthnkehdcolnegaaGreatNR17
namespace Go.Proofs.YthnkehdcolnegaaGreat
open Go.RowKit

/-- Six numbers: a symbol's entry: name, bind, type, index, value, size. -/
structure Six where
  (a b c d e f : Int)
abbrev Six.v (t : Six) : Value := .agg #[.int .i64 t.a, .int .i64 t.b, .int .i64 t.c, .int .i64 t.d, .int .i64 t.e, .int .i64 t.f]
def Six.nums (t : Six) : List Int := [t.a, 4, 16 * t.b + t.c, 1, 0, 1, t.d, 2, t.e, 8, t.f, 8]
def entB (t : Six) : List UInt8 := numsB t.nums
def Six.may (t : Six) : Prop := fitsB t.a = true ∧ fitsB t.e = true ∧ fitsB t.f = true ∧ 0 ≤ t.b ∧ t.b ≤ 2 ∧ 0 ≤ t.c ∧ t.c ≤ 3 ∧ 0 ≤ t.d ∧ t.d ≤ 65535
instance (t : Six) : Decidable t.may := by unfold Six.may; infer_instance
theorem entB_length (t : Six) : (entB t).length = 24 := rfl

theorem fits_true {x : Int} (h : fitsB x = true) (W : World) : Calls Tryz.prog 86 #[.int .i64 x] W fun e w' => e = .returned (.bool true) ∧ W = w' := h ▸ fits_any x W
theorem fits_false {x : Int} (h : ¬ fitsB x = true) (W : World) : Calls Tryz.prog 86 #[.int .i64 x] W fun e w' => e = .returned (.bool false) ∧ W = w' := by
  have h2 : fitsB x = false := by simpa using h
  exact h2 ▸ fits_any x W
theorem fits_b (x : Int) (W : World) : Calls Tryz.prog 86 #[.int .i64 x] W fun e w' => e = .returned (.bool (fitsB x)) ∧ W = w' := fits_any x W

theorem mayE_any (t : Six) (w : World) (A B C : Bool) (hA : fitsB t.a = A) (hB : fitsB t.e = B) (hC : fitsB t.f = C) (r : Bool) (hr : (A && B && C && decide (0 ≤ t.b) && decide (t.b ≤ 2) && decide (0 ≤ t.c) && decide (t.c ≤ 3) && decide (0 ≤ t.d) && decide (t.d ≤ 65535)) = r) :
    Calls Tryz.prog 137 #[t.v] w fun e w' => e = .returned (.bool r) ∧ Below w.heap.size w w' := by
  have HA : Hid (∀ W, Calls Tryz.prog 86 #[.int .i64 t.a] W fun e w' => e = .returned (.bool A) ∧ W = w') := Lib.hid (hA ▸ fits_any t.a)
  have HB : Hid (∀ W, Calls Tryz.prog 86 #[.int .i64 t.e] W fun e w' => e = .returned (.bool B) ∧ W = w') := Lib.hid (hB ▸ fits_any t.e)
  have HC : Hid (∀ W, Calls Tryz.prog 86 #[.int .i64 t.f] W fun e w' => e = .returned (.bool C) ∧ W = w') := Lib.hid (hC ▸ fits_any t.f)
  have HR := Lib.hid hr
  have hb0 : Below w.heap.size w (w.alloc (.cells #[.int .i64 t.a, .int .i64 t.b, .int .i64 t.c, .int .i64 t.d, .int .i64 t.e, .int .i64 t.f] 173)) := (Below.refl _ w).alloc (Nat.le_refl _) _
  clear hA hB hC hr
  cases A with
  | false =>
    go_enter Tryz.func137, Tryz.ntmps137
    go_wp2_with fail
    refine (HA.out _).mono ?_
    rintro e w' ⟨rfl, rfl⟩
    go_wp2_with fail
    refine (HB.out _).mono ?_
    rintro e w' ⟨rfl, rfl⟩
    go_wp2_with fail
    refine (HC.out _).mono ?_
    rintro e w' ⟨rfl, rfl⟩
    go_wp2_with fail
    go_ret
    exact ⟨ret_b (by rw [← HR.out]; rfl), hb0⟩
  | true =>
  cases B with
  | false =>
    go_enter Tryz.func137, Tryz.ntmps137
    go_wp2_with fail
    refine (HA.out _).mono ?_
    rintro e w' ⟨rfl, rfl⟩
    go_wp2_with fail
    refine (HB.out _).mono ?_
    rintro e w' ⟨rfl, rfl⟩
    go_wp2_with fail
    refine (HC.out _).mono ?_
    rintro e w' ⟨rfl, rfl⟩
    go_wp2_with fail
    go_ret
    exact ⟨ret_b (by rw [← HR.out]; rfl), hb0⟩
  | true =>
  cases C with
  | false =>
    go_enter Tryz.func137, Tryz.ntmps137
    go_wp2_with fail
    refine (HA.out _).mono ?_
    rintro e w' ⟨rfl, rfl⟩
    go_wp2_with fail
    refine (HB.out _).mono ?_
    rintro e w' ⟨rfl, rfl⟩
    go_wp2_with fail
    refine (HC.out _).mono ?_
    rintro e w' ⟨rfl, rfl⟩
    go_wp2_with fail
    go_ret
    exact ⟨ret_b (by rw [← HR.out]; rfl), hb0⟩
  | true =>
  by_cases q0 : 0 ≤ t.b
  case neg =>
    have HR0 : Hid (r = false) := Lib.hid (by rw [← HR.out, decide_eq_false q0]; simp)
    go_enter Tryz.func137, Tryz.ntmps137
    go_wp2_with fail
    refine (HA.out _).mono ?_
    rintro e w' ⟨rfl, rfl⟩
    go_wp2_with fail
    refine (HB.out _).mono ?_
    rintro e w' ⟨rfl, rfl⟩
    go_wp2_with fail
    refine (HC.out _).mono ?_
    rintro e w' ⟨rfl, rfl⟩
    go_wp2_with fail
    go_ret
    exact ⟨ret_b (by first | exact HR0.out.symm | (rw [HR0.out]; simp; omega)), hb0⟩
  case pos =>
    by_cases q1 : t.b ≤ 2
    case neg =>
      have HR0 : Hid (r = false) := Lib.hid (by rw [← HR.out, decide_eq_false q1]; simp)
      go_enter Tryz.func137, Tryz.ntmps137
      go_wp2_with fail
      refine (HA.out _).mono ?_
      rintro e w' ⟨rfl, rfl⟩
      go_wp2_with fail
      refine (HB.out _).mono ?_
      rintro e w' ⟨rfl, rfl⟩
      go_wp2_with fail
      refine (HC.out _).mono ?_
      rintro e w' ⟨rfl, rfl⟩
      go_wp2_with fail
      go_ret
      exact ⟨ret_b (by first | exact HR0.out.symm | (rw [HR0.out]; simp; omega)), hb0⟩
    case pos =>
      by_cases q2 : 0 ≤ t.c
      case neg =>
        have HR0 : Hid (r = false) := Lib.hid (by rw [← HR.out, decide_eq_false q2]; simp)
        go_enter Tryz.func137, Tryz.ntmps137
        go_wp2_with fail
        refine (HA.out _).mono ?_
        rintro e w' ⟨rfl, rfl⟩
        go_wp2_with fail
        refine (HB.out _).mono ?_
        rintro e w' ⟨rfl, rfl⟩
        go_wp2_with fail
        refine (HC.out _).mono ?_
        rintro e w' ⟨rfl, rfl⟩
        go_wp2_with fail
        go_ret
        exact ⟨ret_b (by first | exact HR0.out.symm | (rw [HR0.out]; simp; omega)), hb0⟩
      case pos =>
        by_cases q3 : t.c ≤ 3
        case neg =>
          have HR0 : Hid (r = false) := Lib.hid (by rw [← HR.out, decide_eq_false q3]; simp)
          go_enter Tryz.func137, Tryz.ntmps137
          go_wp2_with fail
          refine (HA.out _).mono ?_
          rintro e w' ⟨rfl, rfl⟩
          go_wp2_with fail
          refine (HB.out _).mono ?_
          rintro e w' ⟨rfl, rfl⟩
          go_wp2_with fail
          refine (HC.out _).mono ?_
          rintro e w' ⟨rfl, rfl⟩
          go_wp2_with fail
          go_ret
          exact ⟨ret_b (by first | exact HR0.out.symm | (rw [HR0.out]; simp; omega)), hb0⟩
        case pos =>
          by_cases q4 : 0 ≤ t.d
          case neg =>
            have HR0 : Hid (r = false) := Lib.hid (by rw [← HR.out, decide_eq_false q4]; simp)
            go_enter Tryz.func137, Tryz.ntmps137
            go_wp2_with fail
            refine (HA.out _).mono ?_
            rintro e w' ⟨rfl, rfl⟩
            go_wp2_with fail
            refine (HB.out _).mono ?_
            rintro e w' ⟨rfl, rfl⟩
            go_wp2_with fail
            refine (HC.out _).mono ?_
            rintro e w' ⟨rfl, rfl⟩
            go_wp2_with fail
            go_ret
            exact ⟨ret_b (by first | exact HR0.out.symm | (rw [HR0.out]; simp; omega)), hb0⟩
          case pos =>
            by_cases q5 : t.d ≤ 65535
            case neg =>
              have HR0 : Hid (r = false) := Lib.hid (by rw [← HR.out, decide_eq_false q5]; simp)
              go_enter Tryz.func137, Tryz.ntmps137
              go_wp2_with fail
              refine (HA.out _).mono ?_
              rintro e w' ⟨rfl, rfl⟩
              go_wp2_with fail
              refine (HB.out _).mono ?_
              rintro e w' ⟨rfl, rfl⟩
              go_wp2_with fail
              refine (HC.out _).mono ?_
              rintro e w' ⟨rfl, rfl⟩
              go_wp2_with fail
              go_ret
              exact ⟨ret_b (by first | exact HR0.out.symm | (rw [HR0.out]; simp; omega)), hb0⟩
            case pos =>
              have HR0 : Hid (r = true) := Lib.hid (by rw [← HR.out, decide_eq_true q0, decide_eq_true q1, decide_eq_true q2, decide_eq_true q3, decide_eq_true q4, decide_eq_true q5]; rfl)
              go_enter Tryz.func137, Tryz.ntmps137
              go_wp2_with fail
              refine (HA.out _).mono ?_
              rintro e w' ⟨rfl, rfl⟩
              go_wp2_with fail
              refine (HB.out _).mono ?_
              rintro e w' ⟨rfl, rfl⟩
              go_wp2_with fail
              refine (HC.out _).mono ?_
              rintro e w' ⟨rfl, rfl⟩
              go_wp2_with fail
              go_ret
              exact ⟨ret_b (by first | exact HR0.out.symm | (rw [HR0.out]; simp; omega)), hb0⟩

theorem mayE_yes (t : Six) (w : World) (h : t.may) : Calls Tryz.prog 137 #[t.v] w fun e w' => e = .returned (.bool true) ∧ Below w.heap.size w w' := by
  obtain ⟨h1, h2, h3, h4, h5, h6, h7, h8, h9⟩ := h
  exact mayE_any t w true true true h1 h2 h3 true (by simp [h4, h5, h6, h7, h8, h9])
theorem ent_wid (t : Six) : ∀ (i : Nat) (x : Int), t.nums[2 * i + 1]? = some x → wid x = true := fun i x hx => by
  have hi : i < 6 := by have := (List.getElem?_eq_some_iff.1 hx).1; simp [Six.nums] at this; omega
  match i, hi, hx with
  | 0, _, hx | 1, _, hx | 2, _, hx | 3, _, hx | 4, _, hx | 5, _, hx => simp [Six.nums] at hx; subst hx; rfl
theorem ent_bd {t : Six} (h : t.may) : ∀ (i : Nat) (x : Int), t.nums[i]? = some x → -9223372036854775808 ≤ x ∧ x ≤ 9223372036854775807 := fun i x hx => by
  have hm := List.mem_of_getElem? hx
  simp only [Six.nums, List.mem_cons, List.not_mem_nil, or_false] at hm
  obtain ⟨h1, h2, h3, h4, h5, h6, h7, h8, h9⟩ := h
  have g1 := (fitsB_iff _).1 h1
  have g2 := (fitsB_iff _).1 h2
  have g3 := (fitsB_iff _).1 h3
  omega

set_option maxHeartbeats 2000000 in
theorem entryBytes_yes (t : Six) (w : World) (h : t.may) : Calls Tryz.prog 83 #[t.v] w (Gives (entB t) w) := by
  have HM := Lib.hid fun W => mayE_yes t W h
  have HN := Lib.hid fun (W : World) (p : Option Addr) (hp : HasI W p t.nums) => nums_any p 12 12 6 t.nums W hp rfl rfl (by omega) (ent_wid t) (ent_bd h)
  obtain ⟨_, _, _, h4, h5, h6, h7, h8, h9⟩ := h
  go_enter Tryz.func83, Tryz.ntmps83
  go_wp2_with fail
  refine (HM.out _).mono ?_
  rintro e w2 ⟨rfl, hbb⟩
  have c0 : w2.cell? ⟨w.heap.size, 0, none⟩ = some (.int .i64 t.a) := by rw [hbb.cell (by simp)]; simp
  have c1 : w2.cell? ⟨w.heap.size, 1, none⟩ = some (.int .i64 t.b) := by rw [hbb.cell (by simp)]; simp
  have c2 : w2.cell? ⟨w.heap.size, 2, none⟩ = some (.int .i64 t.c) := by rw [hbb.cell (by simp)]; simp
  have c3 : w2.cell? ⟨w.heap.size, 3, none⟩ = some (.int .i64 t.d) := by rw [hbb.cell (by simp)]; simp
  have c4 : w2.cell? ⟨w.heap.size, 4, none⟩ = some (.int .i64 t.e) := by rw [hbb.cell (by simp)]; simp
  have c5 : w2.cell? ⟨w.heap.size, 5, none⟩ = some (.int .i64 t.f) := by rw [hbb.cell (by simp)]; simp
  have hb : Below w.heap.size w w2 := ((Below.refl _ w).alloc (Nat.le_refl _) _).trans (hbb.mono (by simp))
  clear hbb
  go_wp2_with fail
  refine (HN.out _ _ (lit_hasI w2 3 t.nums #[.int .i64 t.a, .int .i64 4, .int .i64 (16 * t.b + t.c), .int .i64 1, .int .i64 0, .int .i64 1, .int .i64 t.d, .int .i64 2, .int .i64 t.e, .int .i64 8, .int .i64 t.f, .int .i64 8] rfl _ rfl)).mono ?_
  rintro e w3 ⟨v, rfl, ho, hbb3⟩
  have hb3 : Below w.heap.size w w3 := (hb.alloc hb.size _).trans (hbb3.mono (by have := hb.size; simp; omega))
  have ho3 := owns_lower (c := w.heap.size) ho (by have := hb.size; simp; omega)
  clear hbb3 ho
  go_wp2_with fail
  go_ret
  exact ⟨_, rfl, ho3, hb3⟩

end Go.Proofs.YthnkehdcolnegaaGreat

namespace Go.Proofs.YthnkehdcolnegaaGreat
open Go.RowKit

def widthI (n : Int) : Int := if n = 1 then 8 else if n = 2 ∨ n = 4 ∨ n = 10 ∨ n = 11 then 4 else 0
theorem width_any (n : Int) (w : World) : Calls Tryz.prog 169 #[.int .i64 n] w fun e w' => e = .returned (.int .i64 (widthI n)) ∧ w = w' := by
  by_cases h1 : n = 1
  · subst h1
    go_enter Tryz.func169, Tryz.ntmps169
    go_wp2
    go_ret
    exact ⟨rfl, rfl⟩
  by_cases h2 : n = 2
  · subst h2
    go_enter Tryz.func169, Tryz.ntmps169
    go_wp2
    go_ret
    exact ⟨rfl, rfl⟩
  by_cases h4 : n = 4
  · subst h4
    go_enter Tryz.func169, Tryz.ntmps169
    go_wp2
    go_ret
    exact ⟨rfl, rfl⟩
  by_cases h10 : n = 10
  · subst h10
    go_enter Tryz.func169, Tryz.ntmps169
    go_wp2
    go_ret
    exact ⟨rfl, rfl⟩
  by_cases h11 : n = 11
  · subst h11
    go_enter Tryz.func169, Tryz.ntmps169
    go_wp2
    go_ret
    exact ⟨rfl, rfl⟩
  have HW : Hid (widthI n = 0) := Lib.hid (by simp [widthI, h1, h2, h4, h10, h11])
  have e1 : (n == 1) = false := by simpa using h1
  have e2 : (n == 2) = false := by simpa using h2
  have e4 : (n == 4) = false := by simpa using h4
  have e10 : (n == 10) = false := by simpa using h10
  have e11 : (n == 11) = false := by simpa using h11
  clear h1 h2 h4 h10 h11
  go_enter Tryz.func169, Tryz.ntmps169
  go_wp2
  go_ret
  rw [HW.out]
  exact ⟨rfl, rfl⟩

/-- Four numbers: a relocation: place, type, symbol, what is added. -/
structure Fou where
  (a b c d : Int)
abbrev Fou.v (t : Fou) : Value := .agg #[.int .i64 t.a, .int .i64 t.b, .int .i64 t.c, .int .i64 t.d]
def Fou.nums (t : Fou) : List Int := [t.a, 8, t.b, 4, t.c, 4, t.d, 8]
def relB (t : Fou) : List UInt8 := numsB t.nums
def Fou.may (t : Fou) : Prop := fitsB t.a = true ∧ fitsB t.c = true ∧ 0 < widthI t.b
instance (t : Fou) : Decidable t.may := by unfold Fou.may; infer_instance
theorem relB_length (t : Fou) : (relB t).length = 24 := rfl
theorem widthI_pos {n : Int} (h : 0 < widthI n) : n = 1 ∨ n = 2 ∨ n = 4 ∨ n = 10 ∨ n = 11 := by
  unfold widthI at h
  split at h
  · omega
  · split at h
    · omega
    · omega

theorem mayR_yes (t : Fou) (w : World) (h : t.may) : Calls Tryz.prog 135 #[t.v] w fun e w' => e = .returned (.bool true) ∧ Below w.heap.size w w' := by
  obtain ⟨h1, h2, h3⟩ := h
  have HA := Lib.hid (fits_true h1)
  have HB := Lib.hid (fits_true h2)
  have HW := Lib.hid (width_any t.b)
  have hb0 : Below w.heap.size w (w.alloc (.cells #[.int .i64 t.a, .int .i64 t.b, .int .i64 t.c, .int .i64 t.d] 94)) := (Below.refl _ w).alloc (Nat.le_refl _) _
  clear h1 h2
  generalize widthI t.b = q at *
  go_enter Tryz.func135, Tryz.ntmps135
  go_wp2_with fail
  refine (HA.out _).mono ?_
  rintro e w' ⟨rfl, rfl⟩
  go_wp2_with fail
  refine (HB.out _).mono ?_
  rintro e w' ⟨rfl, rfl⟩
  go_wp2_with fail
  refine (HW.out _).mono ?_
  rintro e w' ⟨rfl, rfl⟩
  go_wp2_with fail
  go_ret
  exact ⟨by simp, hb0⟩
theorem mayR_no (t : Fou) (w : World) (h : ¬ t.may) : Calls Tryz.prog 135 #[t.v] w fun e w' => e = .returned (.bool false) ∧ Below w.heap.size w w' := by
  have HB0 := Lib.hid (fits_b t.c)
  have HW := Lib.hid (width_any t.b)
  have hb0 : Below w.heap.size w (w.alloc (.cells #[.int .i64 t.a, .int .i64 t.b, .int .i64 t.c, .int .i64 t.d] 94)) := (Below.refl _ w).alloc (Nat.le_refl _) _
  by_cases h1 : fitsB t.a = true
  · have HA := Lib.hid (fits_true h1)
    by_cases h2 : fitsB t.c = true
    · have HB := Lib.hid (fits_true h2)
      have h3 : ¬ 0 < widthI t.b := fun h3 => h ⟨h1, h2, h3⟩
      clear h1 h2 h HB0
      generalize widthI t.b = q at *
      go_enter Tryz.func135, Tryz.ntmps135
      go_wp2_with fail
      refine (HA.out _).mono ?_
      rintro e w' ⟨rfl, rfl⟩
      go_wp2_with fail
      refine (HB.out _).mono ?_
      rintro e w' ⟨rfl, rfl⟩
      go_wp2_with fail
      refine (HW.out _).mono ?_
      rintro e w' ⟨rfl, rfl⟩
      go_wp2_with fail
      go_ret
      exact ⟨by simp; omega, hb0⟩
    · have HB := Lib.hid (fits_false h2)
      clear h1 h2 h HB0
      go_enter Tryz.func135, Tryz.ntmps135
      go_wp2_with fail
      refine (HA.out _).mono ?_
      rintro e w' ⟨rfl, rfl⟩
      go_wp2_with fail
      refine (HB.out _).mono ?_
      rintro e w' ⟨rfl, rfl⟩
      go_wp2_with fail
      go_ret
      exact ⟨rfl, hb0⟩
  · have HA := Lib.hid (fits_false h1)
    clear h1 h
    go_enter Tryz.func135, Tryz.ntmps135
    go_wp2_with fail
    refine (HA.out _).mono ?_
    rintro e w' ⟨rfl, rfl⟩
    go_wp2_with fail
    refine (HB0.out _).mono ?_
    rintro e w' ⟨rfl, rfl⟩
    go_wp2_with fail
    go_ret
    exact ⟨rfl, hb0⟩

theorem rel_wid (t : Fou) : ∀ (i : Nat) (x : Int), t.nums[2 * i + 1]? = some x → wid x = true := fun i x hx => by
  have hi : i < 4 := by have := (List.getElem?_eq_some_iff.1 hx).1; simp [Fou.nums] at this; omega
  match i, hi, hx with
  | 0, _, hx | 1, _, hx | 2, _, hx | 3, _, hx => simp [Fou.nums] at hx; subst hx; rfl
theorem rel_bd {t : Fou} (h : t.may) (hd : -9223372036854775808 ≤ t.d ∧ t.d ≤ 9223372036854775807) : ∀ (i : Nat) (x : Int), t.nums[i]? = some x → -9223372036854775808 ≤ x ∧ x ≤ 9223372036854775807 := fun i x hx => by
  have hm := List.mem_of_getElem? hx
  simp only [Fou.nums, List.mem_cons, List.not_mem_nil, or_false] at hm
  obtain ⟨h1, h2, h3⟩ := h
  have g1 := (fitsB_iff _).1 h1
  have g2 := (fitsB_iff _).1 h2
  have g3 := widthI_pos h3
  omega

set_option maxHeartbeats 2000000 in
theorem relBytes_yes (t : Fou) (w : World) (h : t.may) (hd : -9223372036854775808 ≤ t.d ∧ t.d ≤ 9223372036854775807) : Calls Tryz.prog 80 #[t.v] w (Gives (relB t) w) := by
  have HM := Lib.hid fun W => mayR_yes t W h
  have HN := Lib.hid fun (W : World) (p : Option Addr) (hp : HasI W p t.nums) => nums_any p 8 8 4 t.nums W hp rfl rfl (by omega) (rel_wid t) (rel_bd h hd)
  clear h
  go_enter Tryz.func80, Tryz.ntmps80
  go_wp2_with fail
  refine (HM.out _).mono ?_
  rintro e w2 ⟨rfl, hbb⟩
  have c0 : w2.cell? ⟨w.heap.size, 0, none⟩ = some (.int .i64 t.a) := by rw [hbb.cell (by simp)]; simp
  have c1 : w2.cell? ⟨w.heap.size, 1, none⟩ = some (.int .i64 t.b) := by rw [hbb.cell (by simp)]; simp
  have c2 : w2.cell? ⟨w.heap.size, 2, none⟩ = some (.int .i64 t.c) := by rw [hbb.cell (by simp)]; simp
  have c3 : w2.cell? ⟨w.heap.size, 3, none⟩ = some (.int .i64 t.d) := by rw [hbb.cell (by simp)]; simp
  have hb : Below w.heap.size w w2 := ((Below.refl _ w).alloc (Nat.le_refl _) _).trans (hbb.mono (by simp))
  clear hbb
  go_wp2_with fail
  refine (HN.out _ _ (lit_hasI w2 3 t.nums #[.int .i64 t.a, .int .i64 8, .int .i64 t.b, .int .i64 4, .int .i64 t.c, .int .i64 4, .int .i64 t.d, .int .i64 8] rfl _ rfl)).mono ?_
  rintro e w3 ⟨v, rfl, ho, hbb3⟩
  have hb3 : Below w.heap.size w w3 := (hb.alloc hb.size _).trans (hbb3.mono (by have := hb.size; simp; omega))
  have ho3 := owns_lower (c := w.heap.size) ho (by have := hb.size; simp; omega)
  clear hbb3 ho
  go_wp2_with fail
  go_ret
  exact ⟨_, rfl, ho3, hb3⟩

end Go.Proofs.YthnkehdcolnegaaGreat
