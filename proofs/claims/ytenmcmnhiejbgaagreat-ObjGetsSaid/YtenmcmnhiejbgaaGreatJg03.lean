/-
  Symbols' entries: words, and the contracts of the reference's MayEntry and EntryBytes.
  Relocations: words, and the contracts of the reference's Width, MayRel and RelBytes.
  Tables of names: what the document's own functions tell, as functions on lists of bytes. Nothing here speaks of the program.
  Contracts: the reference's Name and At: whether a text may be a name; the name at a place.
  Words on slices of strings, and on two rows of unlike elements.
  Tables of names in memory.
  Numbers by digits of seven bits: what the documents' own functions tell, as functions on lists of bytes. Nothing here speaks of the program.
-/
import Derived.Test.YtenmcmnhiejbgaaGreatJg01
import Derived.Test.YtenmcmnhiejbgaaGreatWords
import Derived.Test.YtenmcmnhiejbgaaGreatMem
import Derived.Deep.DeepCutAuto
import Derived.Test.YtenmcmnhiejbgaaGreatMem0
import Derived.Lib.AppendStr
import Derived.Deep.QuietTactic
import Derived.BigQuiet
namespace Go.Proofs.YtenmcmnhiejbgaaGreat
open Go.RowKit

/-- Six numbers: a symbol's entry: name, bind, type, index, value, size. -/
structure Six where
  (a b c d e f : Int)
abbrev Six.v (t : Six) : Value := .agg #[.int .i64 t.a, .int .i64 t.b, .int .i64 t.c, .int .i64 t.d, .int .i64 t.e, .int .i64 t.f]
def Six.nums (t : Six) : List Int := [t.a, 4, 16 * t.b + t.c, 1, 0, 1, t.d, 2, t.e, 8, t.f, 8]
def entB (t : Six) : List UInt8 := numsB t.nums
def Six.may (t : Six) : Prop := fitsB t.a = true ∧ fitsB t.e = true ∧ fitsB t.f = true ∧ 0 ≤ t.b ∧ t.b ≤ 2 ∧ 0 ≤ t.c ∧ t.c ≤ 3 ∧ 0 ≤ t.d ∧ t.d ≤ 65535
instance (t : Six) : Decidable t.may := by unfold Six.may; infer_instance
theorem entB_length (t : Six) : (entB t).length = 24 := rfl

theorem fits_true {x : Int} (h : fitsB x = true) (W : World) : Calls Tryz.prog 44 #[.int .i64 x] W fun e w' => e = .returned (.bool true) ∧ W = w' := h ▸ fits_any x W
theorem fits_false {x : Int} (h : ¬ fitsB x = true) (W : World) : Calls Tryz.prog 44 #[.int .i64 x] W fun e w' => e = .returned (.bool false) ∧ W = w' := by
  have h2 : fitsB x = false := by simpa using h
  exact h2 ▸ fits_any x W
theorem fits_b (x : Int) (W : World) : Calls Tryz.prog 44 #[.int .i64 x] W fun e w' => e = .returned (.bool (fitsB x)) ∧ W = w' := fits_any x W

theorem mayE_any (t : Six) (w : World) (A B C : Bool) (hA : fitsB t.a = A) (hB : fitsB t.e = B) (hC : fitsB t.f = C) (r : Bool) (hr : (A && B && C && decide (0 ≤ t.b) && decide (t.b ≤ 2) && decide (0 ≤ t.c) && decide (t.c ≤ 3) && decide (0 ≤ t.d) && decide (t.d ≤ 65535)) = r) :
    Calls Tryz.prog 81 #[t.v] w fun e w' => e = .returned (.bool r) ∧ Below w.heap.size w w' := by
  have HA : Hid (∀ W, Calls Tryz.prog 44 #[.int .i64 t.a] W fun e w' => e = .returned (.bool A) ∧ W = w') := Lib.hid (hA ▸ fits_any t.a)
  have HB : Hid (∀ W, Calls Tryz.prog 44 #[.int .i64 t.e] W fun e w' => e = .returned (.bool B) ∧ W = w') := Lib.hid (hB ▸ fits_any t.e)
  have HC : Hid (∀ W, Calls Tryz.prog 44 #[.int .i64 t.f] W fun e w' => e = .returned (.bool C) ∧ W = w') := Lib.hid (hC ▸ fits_any t.f)
  have HR := Lib.hid hr
  have hb0 : Below w.heap.size w (w.alloc (.cells #[.int .i64 t.a, .int .i64 t.b, .int .i64 t.c, .int .i64 t.d, .int .i64 t.e, .int .i64 t.f] 93)) := (Below.refl _ w).alloc (Nat.le_refl _) _
  clear hA hB hC hr
  cases A with
  | false =>
    go_enter Tryz.func81, Tryz.ntmps81
    go_wp2_with fail
    refine (HA.out _).mono ?_
    rintro e w' ⟨rfl, rfl⟩
    go_wp2_with fail
    refine (HB.out _).mono ?_
    rintro e w' ⟨rfl, rfl⟩
    go_wp2_with fail
    refine (HC.out _).mono ?_
    rintro e w' ⟨rfl, rfl⟩
    go_wp2_with fail
    go_ret
    exact ⟨ret_b (by rw [← HR.out]; rfl), hb0⟩
  | true =>
  cases B with
  | false =>
    go_enter Tryz.func81, Tryz.ntmps81
    go_wp2_with fail
    refine (HA.out _).mono ?_
    rintro e w' ⟨rfl, rfl⟩
    go_wp2_with fail
    refine (HB.out _).mono ?_
    rintro e w' ⟨rfl, rfl⟩
    go_wp2_with fail
    refine (HC.out _).mono ?_
    rintro e w' ⟨rfl, rfl⟩
    go_wp2_with fail
    go_ret
    exact ⟨ret_b (by rw [← HR.out]; rfl), hb0⟩
  | true =>
  cases C with
  | false =>
    go_enter Tryz.func81, Tryz.ntmps81
    go_wp2_with fail
    refine (HA.out _).mono ?_
    rintro e w' ⟨rfl, rfl⟩
    go_wp2_with fail
    refine (HB.out _).mono ?_
    rintro e w' ⟨rfl, rfl⟩
    go_wp2_with fail
    refine (HC.out _).mono ?_
    rintro e w' ⟨rfl, rfl⟩
    go_wp2_with fail
    go_ret
    exact ⟨ret_b (by rw [← HR.out]; rfl), hb0⟩
  | true =>
  by_cases q0 : 0 ≤ t.b
  case neg =>
    have HR0 : Hid (r = false) := Lib.hid (by rw [← HR.out, decide_eq_false q0]; simp)
    go_enter Tryz.func81, Tryz.ntmps81
    go_wp2_with fail
    refine (HA.out _).mono ?_
    rintro e w' ⟨rfl, rfl⟩
    go_wp2_with fail
    refine (HB.out _).mono ?_
    rintro e w' ⟨rfl, rfl⟩
    go_wp2_with fail
    refine (HC.out _).mono ?_
    rintro e w' ⟨rfl, rfl⟩
    go_wp2_with fail
    go_ret
    exact ⟨ret_b (by first | exact HR0.out.symm | (rw [HR0.out]; simp; omega)), hb0⟩
  case pos =>
    by_cases q1 : t.b ≤ 2
    case neg =>
      have HR0 : Hid (r = false) := Lib.hid (by rw [← HR.out, decide_eq_false q1]; simp)
      go_enter Tryz.func81, Tryz.ntmps81
      go_wp2_with fail
      refine (HA.out _).mono ?_
      rintro e w' ⟨rfl, rfl⟩
      go_wp2_with fail
      refine (HB.out _).mono ?_
      rintro e w' ⟨rfl, rfl⟩
      go_wp2_with fail
      refine (HC.out _).mono ?_
      rintro e w' ⟨rfl, rfl⟩
      go_wp2_with fail
      go_ret
      exact ⟨ret_b (by first | exact HR0.out.symm | (rw [HR0.out]; simp; omega)), hb0⟩
    case pos =>
      by_cases q2 : 0 ≤ t.c
      case neg =>
        have HR0 : Hid (r = false) := Lib.hid (by rw [← HR.out, decide_eq_false q2]; simp)
        go_enter Tryz.func81, Tryz.ntmps81
        go_wp2_with fail
        refine (HA.out _).mono ?_
        rintro e w' ⟨rfl, rfl⟩
        go_wp2_with fail
        refine (HB.out _).mono ?_
        rintro e w' ⟨rfl, rfl⟩
        go_wp2_with fail
        refine (HC.out _).mono ?_
        rintro e w' ⟨rfl, rfl⟩
        go_wp2_with fail
        go_ret
        exact ⟨ret_b (by first | exact HR0.out.symm | (rw [HR0.out]; simp; omega)), hb0⟩
      case pos =>
        by_cases q3 : t.c ≤ 3
        case neg =>
          have HR0 : Hid (r = false) := Lib.hid (by rw [← HR.out, decide_eq_false q3]; simp)
          go_enter Tryz.func81, Tryz.ntmps81
          go_wp2_with fail
          refine (HA.out _).mono ?_
          rintro e w' ⟨rfl, rfl⟩
          go_wp2_with fail
          refine (HB.out _).mono ?_
          rintro e w' ⟨rfl, rfl⟩
          go_wp2_with fail
          refine (HC.out _).mono ?_
          rintro e w' ⟨rfl, rfl⟩
          go_wp2_with fail
          go_ret
          exact ⟨ret_b (by first | exact HR0.out.symm | (rw [HR0.out]; simp; omega)), hb0⟩
        case pos =>
          by_cases q4 : 0 ≤ t.d
          case neg =>
            have HR0 : Hid (r = false) := Lib.hid (by rw [← HR.out, decide_eq_false q4]; simp)
            go_enter Tryz.func81, Tryz.ntmps81
            go_wp2_with fail
            refine (HA.out _).mono ?_
            rintro e w' ⟨rfl, rfl⟩
            go_wp2_with fail
            refine (HB.out _).mono ?_
            rintro e w' ⟨rfl, rfl⟩
            go_wp2_with fail
            refine (HC.out _).mono ?_
            rintro e w' ⟨rfl, rfl⟩
            go_wp2_with fail
            go_ret
            exact ⟨ret_b (by first | exact HR0.out.symm | (rw [HR0.out]; simp; omega)), hb0⟩
          case pos =>
            by_cases q5 : t.d ≤ 65535
            case neg =>
              have HR0 : Hid (r = false) := Lib.hid (by rw [← HR.out, decide_eq_false q5]; simp)
              go_enter Tryz.func81, Tryz.ntmps81
              go_wp2_with fail
              refine (HA.out _).mono ?_
              rintro e w' ⟨rfl, rfl⟩
              go_wp2_with fail
              refine (HB.out _).mono ?_
              rintro e w' ⟨rfl, rfl⟩
              go_wp2_with fail
              refine (HC.out _).mono ?_
              rintro e w' ⟨rfl, rfl⟩
              go_wp2_with fail
              go_ret
              exact ⟨ret_b (by first | exact HR0.out.symm | (rw [HR0.out]; simp; omega)), hb0⟩
            case pos =>
              have HR0 : Hid (r = true) := Lib.hid (by rw [← HR.out, decide_eq_true q0, decide_eq_true q1, decide_eq_true q2, decide_eq_true q3, decide_eq_true q4, decide_eq_true q5]; rfl)
              go_enter Tryz.func81, Tryz.ntmps81
              go_wp2_with fail
              refine (HA.out _).mono ?_
              rintro e w' ⟨rfl, rfl⟩
              go_wp2_with fail
              refine (HB.out _).mono ?_
              rintro e w' ⟨rfl, rfl⟩
              go_wp2_with fail
              refine (HC.out _).mono ?_
              rintro e w' ⟨rfl, rfl⟩
              go_wp2_with fail
              go_ret
              exact ⟨ret_b (by first | exact HR0.out.symm | (rw [HR0.out]; simp; omega)), hb0⟩

theorem mayE_yes (t : Six) (w : World) (h : t.may) : Calls Tryz.prog 81 #[t.v] w fun e w' => e = .returned (.bool true) ∧ Below w.heap.size w w' := by
  obtain ⟨h1, h2, h3, h4, h5, h6, h7, h8, h9⟩ := h
  exact mayE_any t w true true true h1 h2 h3 true (by simp [h4, h5, h6, h7, h8, h9])
theorem mayE_no (t : Six) (w : World) (h : ¬ t.may) : Calls Tryz.prog 81 #[t.v] w fun e w' => e = .returned (.bool false) ∧ Below w.heap.size w w' := by
  refine mayE_any t w _ _ _ rfl rfl rfl false ?_
  rw [Bool.eq_false_iff]
  intro hc
  simp only [Bool.and_eq_true, decide_eq_true_eq] at hc
  exact h ⟨hc.1.1.1.1.1.1.1.1, hc.1.1.1.1.1.1.1.2, hc.1.1.1.1.1.1.2, hc.1.1.1.1.1.2, hc.1.1.1.1.2, hc.1.1.1.2, hc.1.1.2, hc.1.2, hc.2⟩

end Go.Proofs.YtenmcmnhiejbgaaGreat

namespace Go.Proofs.YtenmcmnhiejbgaaGreat
open Go.RowKit

def widthI (n : Int) : Int := if n = 1 then 8 else if n = 2 ∨ n = 4 ∨ n = 10 ∨ n = 11 then 4 else 0
theorem width_any (n : Int) (w : World) : Calls Tryz.prog 105 #[.int .i64 n] w fun e w' => e = .returned (.int .i64 (widthI n)) ∧ w = w' := by
  by_cases h1 : n = 1
  · subst h1
    go_enter Tryz.func105, Tryz.ntmps105
    go_wp2
    go_ret
    exact ⟨rfl, rfl⟩
  by_cases h2 : n = 2
  · subst h2
    go_enter Tryz.func105, Tryz.ntmps105
    go_wp2
    go_ret
    exact ⟨rfl, rfl⟩
  by_cases h4 : n = 4
  · subst h4
    go_enter Tryz.func105, Tryz.ntmps105
    go_wp2
    go_ret
    exact ⟨rfl, rfl⟩
  by_cases h10 : n = 10
  · subst h10
    go_enter Tryz.func105, Tryz.ntmps105
    go_wp2
    go_ret
    exact ⟨rfl, rfl⟩
  by_cases h11 : n = 11
  · subst h11
    go_enter Tryz.func105, Tryz.ntmps105
    go_wp2
    go_ret
    exact ⟨rfl, rfl⟩
  have HW : Hid (widthI n = 0) := Lib.hid (by simp [widthI, h1, h2, h4, h10, h11])
  have e1 : (n == 1) = false := by simpa using h1
  have e2 : (n == 2) = false := by simpa using h2
  have e4 : (n == 4) = false := by simpa using h4
  have e10 : (n == 10) = false := by simpa using h10
  have e11 : (n == 11) = false := by simpa using h11
  clear h1 h2 h4 h10 h11
  go_enter Tryz.func105, Tryz.ntmps105
  go_wp2
  go_ret
  rw [HW.out]
  exact ⟨rfl, rfl⟩

/-- Four numbers: a relocation: place, type, symbol, what is added. -/
structure Fou where
  (a b c d : Int)
abbrev Fou.v (t : Fou) : Value := .agg #[.int .i64 t.a, .int .i64 t.b, .int .i64 t.c, .int .i64 t.d]
def Fou.nums (t : Fou) : List Int := [t.a, 8, t.b, 4, t.c, 4, t.d, 8]
def relB (t : Fou) : List UInt8 := numsB t.nums
def Fou.may (t : Fou) : Prop := fitsB t.a = true ∧ fitsB t.c = true ∧ 0 < widthI t.b
instance (t : Fou) : Decidable t.may := by unfold Fou.may; infer_instance
theorem relB_length (t : Fou) : (relB t).length = 24 := rfl
theorem widthI_pos {n : Int} (h : 0 < widthI n) : n = 1 ∨ n = 2 ∨ n = 4 ∨ n = 10 ∨ n = 11 := by
  unfold widthI at h
  split at h
  · omega
  · split at h
    · omega
    · omega

theorem mayR_yes (t : Fou) (w : World) (h : t.may) : Calls Tryz.prog 79 #[t.v] w fun e w' => e = .returned (.bool true) ∧ Below w.heap.size w w' := by
  obtain ⟨h1, h2, h3⟩ := h
  have HA := Lib.hid (fits_true h1)
  have HB := Lib.hid (fits_true h2)
  have HW := Lib.hid (width_any t.b)
  have hb0 : Below w.heap.size w (w.alloc (.cells #[.int .i64 t.a, .int .i64 t.b, .int .i64 t.c, .int .i64 t.d] 89)) := (Below.refl _ w).alloc (Nat.le_refl _) _
  clear h1 h2
  generalize widthI t.b = q at *
  go_enter Tryz.func79, Tryz.ntmps79
  go_wp2_with fail
  refine (HA.out _).mono ?_
  rintro e w' ⟨rfl, rfl⟩
  go_wp2_with fail
  refine (HB.out _).mono ?_
  rintro e w' ⟨rfl, rfl⟩
  go_wp2_with fail
  refine (HW.out _).mono ?_
  rintro e w' ⟨rfl, rfl⟩
  go_wp2_with fail
  go_ret
  exact ⟨by simp, hb0⟩
theorem mayR_no (t : Fou) (w : World) (h : ¬ t.may) : Calls Tryz.prog 79 #[t.v] w fun e w' => e = .returned (.bool false) ∧ Below w.heap.size w w' := by
  have HB0 := Lib.hid (fits_b t.c)
  have HW := Lib.hid (width_any t.b)
  have hb0 : Below w.heap.size w (w.alloc (.cells #[.int .i64 t.a, .int .i64 t.b, .int .i64 t.c, .int .i64 t.d] 89)) := (Below.refl _ w).alloc (Nat.le_refl _) _
  by_cases h1 : fitsB t.a = true
  · have HA := Lib.hid (fits_true h1)
    by_cases h2 : fitsB t.c = true
    · have HB := Lib.hid (fits_true h2)
      have h3 : ¬ 0 < widthI t.b := fun h3 => h ⟨h1, h2, h3⟩
      clear h1 h2 h HB0
      generalize widthI t.b = q at *
      go_enter Tryz.func79, Tryz.ntmps79
      go_wp2_with fail
      refine (HA.out _).mono ?_
      rintro e w' ⟨rfl, rfl⟩
      go_wp2_with fail
      refine (HB.out _).mono ?_
      rintro e w' ⟨rfl, rfl⟩
      go_wp2_with fail
      refine (HW.out _).mono ?_
      rintro e w' ⟨rfl, rfl⟩
      go_wp2_with fail
      go_ret
      exact ⟨by simp; omega, hb0⟩
    · have HB := Lib.hid (fits_false h2)
      clear h1 h2 h HB0
      go_enter Tryz.func79, Tryz.ntmps79
      go_wp2_with fail
      refine (HA.out _).mono ?_
      rintro e w' ⟨rfl, rfl⟩
      go_wp2_with fail
      refine (HB.out _).mono ?_
      rintro e w' ⟨rfl, rfl⟩
      go_wp2_with fail
      go_ret
      exact ⟨rfl, hb0⟩
  · have HA := Lib.hid (fits_false h1)
    clear h1 h
    go_enter Tryz.func79, Tryz.ntmps79
    go_wp2_with fail
    refine (HA.out _).mono ?_
    rintro e w' ⟨rfl, rfl⟩
    go_wp2_with fail
    refine (HB0.out _).mono ?_
    rintro e w' ⟨rfl, rfl⟩
    go_wp2_with fail
    go_ret
    exact ⟨rfl, hb0⟩

end Go.Proofs.YtenmcmnhiejbgaaGreat

namespace Go.Proofs.YtenmcmnhiejbgaaGreat
open Go.RowKit

abbrev Nm := List UInt8

/-- May the bytes be a name? -/
def mayB (l : Nm) : Bool := decide (l.length ≤ 32) && l.all (fun x => x != 0)

/-- The name with which the bytes begin. -/
def nameB (l : List UInt8) : Option Nm :=
  if (l.takeWhile fun x => x != 0).length < l.length ∧ (l.takeWhile fun x => x != 0).length ≤ 32 then some (l.takeWhile fun x => x != 0) else none

theorem takeWhile_hit : ∀ (k : Nat) (l : List UInt8), (∀ i y, i < k → l[i]? = some y → y ≠ 0) → l[k]? = some 0 → (l.takeWhile fun x => x != 0) = l.take k
  | _, [], _, h => by simp at h
  | 0, x :: r, _, h => by
    simp at h
    subst h
    simp
  | k + 1, x :: r, hb, h => by
    have hx := hb 0 x (by omega) rfl
    have ih := takeWhile_hit k r (fun i y hi hy => hb (i + 1) y (by omega) (by simpa using hy)) (by simpa using h)
    simp [hx, ih]
theorem takeWhile_long : ∀ (k : Nat) (l : List UInt8), (∀ i y, i < k → l[i]? = some y → y ≠ 0) → k ≤ l.length → k ≤ (l.takeWhile fun x => x != 0).length
  | 0, _, _, _ => Nat.zero_le _
  | _ + 1, [], _, h => by simp at h
  | k + 1, x :: r, hb, h => by
    have hx := hb 0 x (by omega) rfl
    have ih := takeWhile_long k r (fun i y hi hy => hb (i + 1) y (by omega) (by simpa using hy)) (by simpa using h)
    simp [hx, ih]
theorem takeWhile_le (l : List UInt8) : (l.takeWhile fun x => x != 0).length ≤ l.length := (List.takeWhile_sublist _).length_le

/-- k bytes that are not 0, then a 0: that is the name. -/
theorem nameB_hit {k : Nat} {l : List UInt8} (hb : ∀ i y, i < k → l[i]? = some y → y ≠ 0) (h : l[k]? = some 0) (hk : k ≤ 32) : nameB l = some (l.take k) := by
  have hl : k < l.length := (List.getElem?_eq_some_iff.1 h).1
  unfold nameB
  rw [takeWhile_hit k l hb h, List.length_take, Nat.min_eq_left (by omega), if_pos ⟨hl, hk⟩]
/-- No 0 at all, or none among the first 33. -/
theorem nameB_miss {k : Nat} {l : List UInt8} (hb : ∀ i y, i < k → l[i]? = some y → y ≠ 0) (h : k = l.length ∨ 32 < k ∧ k ≤ l.length) : nameB l = none := by
  have h1 := takeWhile_long k l hb (by omega)
  have h2 := takeWhile_le l
  unfold nameB
  rw [if_neg (by omega)]

/-! ## The table -/
/-- Where a name stands, as far as the table has it. -/
def look (e : List (Nm × Nat)) (n : Nm) : Option Nat := (e.find? fun x => x.1 == n).map (·.2)
/-- The table, and who stands in it. -/
structure Tab where
  tb : List UInt8
  env : List (Nm × Nat)
def tab0 : Tab := ⟨[0], [([], 0)]⟩
def tabStep (t : Tab) (n : Nm) : Tab :=
  match look t.env n with
  | some _ => t
  | none => ⟨t.tb ++ (n ++ [0]), t.env ++ [(n, t.tb.length)]⟩
def tabOf (ns : List Nm) : Tab := ns.foldl tabStep tab0
def placeOf (ns : List Nm) (n : Nm) : Nat := (look (tabOf ns).env n).getD 0
/-- The places of the names. -/
def placesOf (ns : List Nm) : List Nat := ns.map (placeOf ns)

theorem tabOf_snoc (ns : List Nm) (n : Nm) : tabOf (ns ++ [n]) = tabStep (tabOf ns) n := by simp [tabOf]
theorem look_append (e f : List (Nm × Nat)) (n : Nm) : look (e ++ f) n = (look e n).or (look f n) := by
  unfold look
  rw [List.find?_append]
  cases List.find? (fun x => x.1 == n) e <;> simp
theorem look_step_some {t : Tab} {n m : Nm} {p : Nat} (h : look t.env m = some p) : look (tabStep t n).env m = some p := by
  unfold tabStep
  split
  · exact h
  · simp only [look_append, h, Option.some_or]
theorem look_step_self (t : Tab) (n : Nm) : look (tabStep t n).env n = some ((look t.env n).getD t.tb.length) := by
  unfold tabStep
  split
  · rename_i p hp
    rw [hp]
    rfl
  · rename_i hp
    simp only [look_append, hp, Option.none_or]
    simp [look]
theorem look_step_other {t : Tab} {n m : Nm} (hm : m ≠ n) : look (tabStep t n).env m = look t.env m := by
  unfold tabStep
  split
  · rfl
  · rw [look_append]
    have : look [(n, t.tb.length)] m = none := by
      have : (n == m) = false := by simpa using Ne.symm hm
      simp [look, List.find?, this]
    rw [this, Option.or_none]

theorem snoc_ind {α : Type} {P : List α → Prop} (h0 : P []) (hs : ∀ l x, P l → P (l ++ [x])) (l : List α) : P l := by
  have h : ∀ r : List α, P r.reverse := fun r => by
    induction r with
    | nil => exact h0
    | cons x r ih => rw [List.reverse_cons]; exact hs _ _ ih
  simpa using h l.reverse

/-- Who has a place: the empty name, and who was handed in. -/
theorem look_iff (ns : List Nm) (m : Nm) : look (tabOf ns).env m = none ↔ m ≠ [] ∧ m ∉ ns := by
  induction ns using snoc_ind with
  | h0 =>
    cases m with
    | nil => simp [tabOf, tab0, look]
    | cons x r => simp [tabOf, tab0, look, List.find?]
  | hs ns n ih =>
    rw [tabOf_snoc]
    by_cases hm : m = n
    · subst hm
      rw [look_step_self]
      simp
    · rw [look_step_other hm, ih]
      simp [hm]
theorem look_mem {ns : List Nm} {m : Nm} (h : m = [] ∨ m ∈ ns) : ∃ p, look (tabOf ns).env m = some p := by
  cases hl : look (tabOf ns).env m with
  | some p => exact ⟨p, rfl⟩
  | none =>
    have := (look_iff ns m).1 hl
    rcases h with h | h
    · exact absurd h this.1
    · exact absurd h this.2
theorem placeOf_old {ns : List Nm} {m : Nm} (n : Nm) (h : m = [] ∨ m ∈ ns) : placeOf (ns ++ [n]) m = placeOf ns m := by
  obtain ⟨p, hp⟩ := look_mem h
  unfold placeOf
  rw [tabOf_snoc, look_step_some hp, hp]
theorem placesOf_snoc (ns : List Nm) (n : Nm) : placesOf (ns ++ [n]) = placesOf ns ++ [placeOf (ns ++ [n]) n] := by
  unfold placesOf
  rw [List.map_append]
  congr 1
  exact List.map_congr_left fun m hm => placeOf_old n (.inr hm)
/-- An old name. -/
theorem tab_old {ns : List Nm} {n : Nm} (h : n = [] ∨ n ∈ ns) : tabOf (ns ++ [n]) = tabOf ns ∧ placeOf (ns ++ [n]) n = placeOf ns n := by
  obtain ⟨p, hp⟩ := look_mem h
  refine ⟨?_, placeOf_old n h⟩
  rw [tabOf_snoc]
  simp only [tabStep, hp]
/-- A new name. -/
theorem tab_new {ns : List Nm} {n : Nm} (h0 : n ≠ []) (h : n ∉ ns) : (tabOf (ns ++ [n])).tb = (tabOf ns).tb ++ (n ++ [0]) ∧ placeOf (ns ++ [n]) n = (tabOf ns).tb.length := by
  have hp := (look_iff ns n).2 ⟨h0, h⟩
  constructor
  · rw [tabOf_snoc]
    simp only [tabStep, hp]
  · unfold placeOf
    rw [tabOf_snoc, look_step_self, hp]
    rfl
theorem placeOf_nil (ns : List Nm) : placeOf ns [] = 0 := by
  induction ns using snoc_ind with
  | h0 => rfl
  | hs ns n ih => rw [placeOf_old n (.inl rfl), ih]

/-- Each name stands at its place, a 0 behind it. -/
theorem stands (ns : List Nm) (m : Nm) (h : m = [] ∨ m ∈ ns) : ∃ r, (tabOf ns).tb.drop (placeOf ns m) = m ++ 0 :: r := by
  induction ns using snoc_ind with
  | h0 =>
    rcases h with rfl | h
    · exact ⟨[], rfl⟩
    · simp at h
  | hs ns n ih =>
    by_cases ho : m = [] ∨ m ∈ ns
    · obtain ⟨r, hr⟩ := ih ho
      rw [placeOf_old n ho]
      have hl : placeOf ns m < (tabOf ns).tb.length := by
        have := congrArg List.length hr
        simp at this
        omega
      by_cases hn : n = [] ∨ n ∈ ns
      · rw [(tab_old hn).1]
        exact ⟨r, hr⟩
      · obtain ⟨h1, h2⟩ := not_or.1 hn
        rw [(tab_new h1 h2).1, List.drop_append_of_le_length (by omega), hr]
        exact ⟨r ++ (n ++ [0]), by simp⟩
    · obtain ⟨h1, h2⟩ := not_or.1 ho
      have hmn : m = n := by
        rcases h with h | h
        · exact absurd h h1
        · rcases List.mem_append.1 h with h | h
          · exact absurd h h2
          · simpa using h
      subst hmn
      rw [(tab_new h1 h2).1, (tab_new h1 h2).2, List.drop_left]
      exact ⟨[], rfl⟩
theorem all_ne {n : Nm} (h : mayB n = true) : n.length ≤ 32 ∧ ∀ x ∈ n, x ≠ 0 := by
  simp only [mayB, Bool.and_eq_true, decide_eq_true_eq, List.all_eq_true, bne_iff_ne] at h
  exact h
/-- The table's length: a 0, and of each new name its bytes and a 0. -/
theorem tab_length (ns : List Nm) : (tabOf ns).tb.length ≤ 33 * ns.length + 1 ∨ ∃ n ∈ ns, mayB n = false := by
  induction ns using snoc_ind with
  | h0 => exact .inl (Nat.le_refl _)
  | hs ns n ih =>
    rcases ih with ih | ⟨m, hm, h⟩
    · cases hn : mayB n with
      | false => exact .inr ⟨n, by simp, hn⟩
      | true =>
        have h32 := (all_ne hn).1
        by_cases ho : n = [] ∨ n ∈ ns
        · rw [(tab_old ho).1]
          exact .inl (by simp; omega)
        · obtain ⟨h1, h2⟩ := not_or.1 ho
          rw [(tab_new h1 h2).1]
          exact .inl (by simp; omega)
    · exact .inr ⟨m, by simp [hm], h⟩

end Go.Proofs.YtenmcmnhiejbgaaGreat

namespace Go.Proofs.YtenmcmnhiejbgaaGreat
open Go.RowKit

theorem ret_bool {a b : Bool} (h : a = b) : Ending.returned (.bool a) = .returned (.bool b) := by rw [h]

theorem mayB_long {l : Nm} (h : 32 < l.length) : mayB l = false := by simp [mayB]; omega
theorem mayB_zero {l : Nm} {k : Nat} (h : l[k]? = some 0) : mayB l = false := by
  have := List.mem_of_getElem? h
  simp only [mayB, Bool.and_eq_false_iff]
  exact .inr (by rw [List.all_eq_false]; exact ⟨0, this, by simp⟩)
theorem mayB_yes {l : Nm} (h : l.length ≤ 32) (hb : ∀ i y, i < l.length → l[i]? = some y → y ≠ 0) : mayB l = true := by
  simp only [mayB, Bool.and_eq_true, decide_eq_true_eq, List.all_eq_true, bne_iff_ne]
  exact ⟨h, fun x hx => by
    obtain ⟨i, hi⟩ := List.getElem?_of_mem hx
    exact hb i x (List.getElem?_eq_some_iff.1 hi).1 hi⟩

theorem refName_any (s : ByteArray) (w : World) : Calls Tryz.prog 64 #[.string s] w fun e w' => e = .returned (.bool (mayB s.data.toList)) ∧ w = w' := by
  have hz : s.data.toList.length = s.size := by simp
  have HZ := Lib.hid hz
  clear hz
  go_enter Tryz.func64, Tryz.ntmps64
  go_wp2
  go_loop [3] (fun i => ∃ k : Nat, k ≤ s.size ∧ k ≤ 32 ∧ i = .int .i64 (k : Int) ∧ (∀ j y, j < k → s.data.toList[j]? = some y → y ≠ 0)) (fun i => s.size - (intOf i).toNat)
  case atStart => exact ⟨0, Nat.zero_le _, Nat.zero_le _, rfl, fun j y hj => absurd hj (by omega)⟩
  case round =>
    obtain ⟨k, hk, hk32, rfl, hb⟩ := hrel
    have HB := Lib.hid hb
    clear hb
    by_cases hlt : k < s.size
    · have hx : s.data.toList[k]? = some s[k] := by
        rw [List.getElem?_eq_getElem (by simpa using hlt)]
        rfl
      have HX := Lib.hid hx
      clear hx
      by_cases h32 : k = 32
      · have HV : Hid (mayB s.data.toList = false) := Lib.hid (mayB_long (by rw [HZ.out]; omega))
        have hI : ((k : Int) == 32) = true := by simp; omega
        clear h32
        go_wp2
        go_ret
        exact ⟨ret_bool HV.out.symm, rfl⟩
      · have hI : ((k : Int) == 32) = false := by simp; omega
        by_cases h0 : s[k] = 0
        · have HV : Hid (mayB s.data.toList = false) := Lib.hid (mayB_zero (k := k) (by rw [HX.out, h0]))
          have hJ : ((s[k].toNat : Int) == 0) = true := by rw [h0]; rfl
          clear h0 h32
          go_wp2
          go_ret
          exact ⟨ret_bool HV.out.symm, rfl⟩
        · have hJ : ((s[k].toNat : Int) == 0) = false := by
            have : s[k].toNat ≠ 0 := fun h => h0 (UInt8.toNat_inj.1 h)
            simp
            omega
          have HB2 : Hid (∀ j y, j < k + 1 → s.data.toList[j]? = some y → y ≠ 0) := Lib.hid fun j y hj hy => by
            by_cases e : j = k
            · subst e
              rw [HX.out] at hy
              cases hy
              exact h0
            · exact HB.out j y (by omega) hy
          clear h0
          go_wp2
          go_round
          case rel => exact ⟨k + 1, by omega, by omega, by go_num, HB2.out⟩
          case measure => simp [intOf]; omega
    · have HV : Hid (mayB s.data.toList = true) := Lib.hid (mayB_yes (by rw [HZ.out]; omega) fun i y hi => HB.out i y (by rw [HZ.out] at hi; omega))
      go_wp2
      go_ret
      exact ⟨ret_bool HV.out.symm, rfl⟩

/-- What At tells of the bytes d from the place on. -/
def atOut (d : List UInt8) : Ending :=
  match nameB d with
  | some n => .returned (.tuple #[.string (str n), .bool true])
  | none => .returned (.tuple #[.string (str []), .bool false])

theorem atOut_hit {k : Nat} {l : List UInt8} (hb : ∀ i y, i < k → l[i]? = some y → y ≠ 0) (h : l[k]? = some 0) (hk : k ≤ 32) : atOut l = .returned (.tuple #[.string (str (l.take k)), .bool true]) := by
  simp only [atOut, nameB_hit hb h hk]
theorem atOut_miss {k : Nat} {l : List UInt8} (hb : ∀ i y, i < k → l[i]? = some y → y ≠ 0) (h : k = l.length ∨ 32 < k ∧ k ≤ l.length) : atOut l = .returned (.tuple #[.string (str []), .bool false]) := by
  simp only [atOut, nameB_miss hb h]

theorem refAt_out (p : Option Addr) (len cap : Nat) (at_ : Int) (w : World) (h : at_ < 0 ∨ (len : Int) ≤ at_) :
    Calls Tryz.prog 58 #[.slice p len cap, .int .i64 at_] w fun e w' => e = .returned (.tuple #[.string (str []), .bool false]) ∧ w = w' := by
  by_cases h0 : at_ < 0
  · clear h
    go_enter Tryz.func58, Tryz.ntmps58
    go_wp2
    go_ret2
    exact ⟨rfl, rfl⟩
  · have h1 : (len : Int) ≤ at_ := h.resolve_left h0
    clear h
    go_enter Tryz.func58, Tryz.ntmps58
    go_wp2
    go_ret2
    exact ⟨rfl, rfl⟩

set_option maxHeartbeats 1000000 in
theorem refAt_in (p : Option Addr) (len cap : Nat) (l : List UInt8) (a : Nat) (w : World) (h : Has w p l) (hlen : l.length = len) (ha : a < len) (hcap : len ≤ cap) (hbig : len ≤ 1000000000) :
    Calls Tryz.prog 58 #[.slice p len cap, .int .i64 a] w fun e w' => e = atOut (l.drop a) ∧ w = w' := by
  have hcv : ∀ e, a ≤ e → e ≤ len → (convert 31 9 (.slice (if cap = a then p else p.map (·.add a)) (e - a) (cap - a))).run Tryz.prog w = .ok (.string (str ((l.drop a).take (e - a)))) w := fun e h1 h2 => by
    have := h.cut a e cap (by omega) (by omega)
    rw [List.drop_take] at this
    exact conv_now this (by simp; omega)
  obtain ⟨b, off, rfl, hcell⟩ := h.plain (by omega)
  have hca : ¬ cap = a := by omega
  simp only [if_neg hca, Option.map_some] at hcv
  have hadd : (⟨b, off, none⟩ : Addr).add a = ⟨b, off + a, none⟩ := by unfold Addr.add; split <;> simp_all
  rw [hadd] at hcv
  have HV := Lib.hid hcv
  obtain ⟨d, hd⟩ : ∃ d, d = l.drop a := ⟨_, rfl⟩
  rw [← hd] at HV ⊢
  have HC : Hid (∀ i x, d[i]? = some x → w.cell? ⟨b, off + (a + i), none⟩ = some (.int .u8 (x.toNat : Int))) := Lib.hid fun i x hx => by
    rw [hd, List.getElem?_drop] at hx
    exact hcell _ _ hx
  have HD : Hid (d.length = len - a) := Lib.hid (by rw [hd, List.length_drop, hlen])
  clear h hcell hlen hcv hadd hd
  go_enter Tryz.func58, Tryz.ntmps58
  go_wp2
  go_loop [6] (fun i => ∃ e : Nat, a ≤ e ∧ e ≤ len ∧ e ≤ a + 33 ∧ i = .int .i64 (e : Int) ∧ (∀ j y, j < e - a → d[j]? = some y → y ≠ 0)) (fun i => len - (intOf i).toNat)
  case atStart => exact ⟨a, Nat.le_refl _, by omega, by omega, rfl, fun j y hj => absurd hj (by omega)⟩
  case round =>
    obtain ⟨e, h1, h2, h3, rfl, hb⟩ := hrel
    have HB := Lib.hid hb
    clear hb
    by_cases hlt : e < len ∧ e ≤ a + 32
    · obtain ⟨hlt, h32⟩ := hlt
      obtain ⟨x, hx⟩ : ∃ x, d[e - a]? = some x := ⟨_, List.getElem?_eq_getElem (by have := HD.out; omega)⟩
      have hc := HC.out _ _ hx
      rw [show a + (e - a) = e by omega] at hc
      have HX := Lib.hid hx
      have hI1 : (e : Int) < (len : Int) := by omega
      have hI2 : (e : Int) ≤ (a : Int) + 32 := by omega
      clear hx
      by_cases h0 : x = 0
      · subst h0
        have HO := Lib.hid (atOut_hit HB.out HX.out (by omega))
        have hcv := HV.out e h1 h2
        go_wp2
        go_ret2
        exact ⟨HO.out.symm, rfl⟩
      · have hJ : ((x.toNat : Int) == 0) = false := by
          have : x.toNat ≠ 0 := fun h => h0 (UInt8.toNat_inj.1 h)
          simp
          omega
        have HB2 : Hid (∀ j y, j < e + 1 - a → d[j]? = some y → y ≠ 0) := Lib.hid fun j y hj hy => by
          by_cases q : j = e - a
          · subst q
            rw [HX.out] at hy
            cases hy
            exact h0
          · exact HB.out j y (by omega) hy
        clear h0
        go_wp2
        go_round
        case rel => exact ⟨e + 1, by omega, by omega, by omega, by go_num, HB2.out⟩
        case measure => simp [intOf]; omega
    · have HO := Lib.hid (atOut_miss (k := e - a) HB.out (by have := HD.out; omega))
      by_cases hlt1 : e < len
      · have hI1 : (e : Int) < (len : Int) := by omega
        have hI2 : ¬ (e : Int) ≤ (a : Int) + 32 := by omega
        clear hlt
        go_wp2
        go_ret2
        exact ⟨HO.out.symm, rfl⟩
      · have hI1 : ¬ (e : Int) < (len : Int) := by omega
        clear hlt
        go_wp2
        go_ret2
        exact ⟨HO.out.symm, rfl⟩

/-- What At tells, of any place. -/
def atAny (l : List UInt8) (at_ : Int) : Ending := if 0 ≤ at_ ∧ at_ < l.length then atOut (l.drop at_.toNat) else .returned (.tuple #[.string (str []), .bool false])
theorem refAt_any (p : Option Addr) (len cap : Nat) (l : List UInt8) (at_ : Int) (w : World) (h : Has w p l) (hlen : l.length = len) (hcap : len ≤ cap) (hbig : len ≤ 1000000000) :
    Calls Tryz.prog 58 #[.slice p len cap, .int .i64 at_] w fun e w' => e = atAny l at_ ∧ w = w' := by
  by_cases hin : 0 ≤ at_ ∧ at_ < len
  · obtain ⟨a, rfl⟩ := Int.eq_ofNat_of_zero_le hin.1
    have := refAt_in p len cap l a w h hlen (by omega) hcap hbig
    have e : atAny l a = atOut (l.drop a) := by unfold atAny; rw [if_pos (by omega)]; rfl
    rwa [e]
  · have := refAt_out p len cap at_ w (by omega)
    have e : atAny l at_ = .returned (.tuple #[.string (str []), .bool false]) := by unfold atAny; rw [if_neg (by omega)]
    rwa [e]

end Go.Proofs.YtenmcmnhiejbgaaGreat

namespace Go.Proofs.YtenmcmnhiejbgaaGreat
open Go.RowKit

/-- Behind the address p lie the strings ss. -/
def HasS (w : World) (p : Option Addr) (ss : List ByteArray) : Prop :=
  ∀ i x, ss[i]? = some x → ∃ a, p = some a ∧ w.cell? (a.add i) = some (.string x)
theorem HasS.below {w w' : World} {p : Option Addr} {ss : List ByteArray} (h : HasS w p ss) (hb : Below w.heap.size w w') : HasS w' p ss := fun i x hx => by
  obtain ⟨a, e, hc⟩ := h i x hx
  exact ⟨a, e, (hb.cell (World.block_lt_of_cell? w _ hc)).trans hc⟩
theorem HasS.at_ {w : World} {p : Option Addr} {ss : List ByteArray} (h : HasS w p ss) {i : Nat} (hi : i < ss.length) :
    ∃ b off x, p = some ⟨b, off, none⟩ ∧ ss[i]? = some x ∧ w.cell? ⟨b, off + i, none⟩ = some (.string x) := by
  obtain ⟨⟨b, off, spot⟩, e, hc⟩ := h i ss[i] (List.getElem?_eq_getElem hi)
  have hs : spot = none := by
    obtain ⟨a0, e0, hc0⟩ := h 0 ss[0] (List.getElem?_eq_getElem (by omega))
    rw [e] at e0
    cases e0
    simpa [Addr.add] using World.cell?_spot hc0
  subst hs
  refine ⟨b, off, ss[i], e, List.getElem?_eq_getElem hi, ?_⟩
  have ha : (⟨b, off, none⟩ : Addr).add i = ⟨b, off + i, none⟩ := by unfold Addr.add; split <;> simp_all
  rwa [ha] at hc
theorem HasS.plain {w : World} {p : Option Addr} {ss : List ByteArray} (h : HasS w p ss) (hl : 0 < ss.length) :
    ∃ b off, p = some ⟨b, off, none⟩ ∧ ∀ i x, ss[i]? = some x → w.cell? ⟨b, off + i, none⟩ = some (.string x) := by
  obtain ⟨b, off, x, e, _, _⟩ := h.at_ hl
  refine ⟨b, off, e, fun i y hy => ?_⟩
  obtain ⟨b', off', y', e', hy', hc⟩ := h.at_ (List.getElem?_eq_some_iff.1 hy).1
  rw [e] at e'
  simp only [Option.some.injEq, Addr.mk.injEq, and_true] at e'
  obtain ⟨rfl, rfl⟩ := e'
  rw [hy] at hy'
  cases hy'
  exact hc

/-- A string's bytes. -/
abbrev lst (s : ByteArray) : Nm := s.data.toList
theorem strCells_lst (s : ByteArray) : Lib.strCells s = (lst s).map u8v := by simp [Lib.strCells, u8v]

theorem owns_apart {w : World} {b1 b2 : Nat} {e1 e2 : TypeId} {s1 s2 : Nat} {v1 v2 : Value} {n1 n2 : Nat} {xs1 xs2 : List Value} (h1 : w.ownsRow b1 e1 s1 v1 n1 xs1) (h2 : w.ownsRow b2 e2 s2 v2 n2 xs2) (he : e1 ≠ e2) :
    v1.ownBlock = none ∨ v1.ownBlock ≠ v2.ownBlock := by
  rcases h1.2 with ⟨rfl, _⟩ | ⟨g, cap, cur, rfl, _, hg, _⟩
  · exact .inl rfl
  · right
    rcases h2.2 with ⟨rfl, _⟩ | ⟨g', cap', cur', rfl, _, hg', _⟩
    · simp [Value.ownBlock]
    · simp only [Value.ownBlock, ne_eq, Option.some.injEq]
      intro e
      subst e
      rw [hg] at hg'
      simp only [Option.some.injEq, Obj.cells.injEq] at hg'
      exact he hg'.2.1

end Go.Proofs.YtenmcmnhiejbgaaGreat

namespace Go.Proofs.YtenmcmnhiejbgaaGreat
open Go.RowKit

end Go.Proofs.YtenmcmnhiejbgaaGreat

namespace Go.Proofs.YtenmcmnhiejbgaaGreat
open Go.RowKit

/-- The digits, the lowest first, as a number. -/
def dval : List UInt8 → Nat
  | [] => 0
  | x :: r => x.toNat % 128 + 128 * dval r

/-- The number with which the bytes begin, of at most so many digits, and how many it has. -/
def digs : Nat → List UInt8 → Option (Nat × Nat)
  | 0, _ => none
  | _ + 1, [] => none
  | k + 1, x :: r => if x.toNat < 128 then some (x.toNat, 1) else (digs k r).map fun y => (x.toNat % 128 + 128 * y.1, y.2 + 1)

/-- At most MaxAddr. -/
def digs5 (l : List UInt8) : Option (Nat × Nat) :=
  match digs 5 l with
  | some (v, u) => if v ≤ 2147483647 then some (v, u) else none
  | none => none

theorem dval_lt : ∀ l : List UInt8, dval l < 128 ^ l.length
  | [] => by simp [dval]
  | x :: r => by
    have h := dval_lt r
    simp only [dval, List.length_cons, Nat.pow_succ]
    omega

theorem dval_drop (l : List UInt8) (j : Nat) (x : UInt8) (h : l[j]? = some x) : dval (l.drop j) = x.toNat % 128 + 128 * dval (l.drop (j + 1)) := by
  have hj : j < l.length := (List.getElem?_eq_some_iff.1 h).1
  rw [List.drop_eq_getElem_cons hj, (List.getElem?_eq_some_iff.1 h).2]
  rfl

/-- k bytes above 127, then one below 128: that is the number. -/
theorem digs_hit : ∀ (f k : Nat) (l : List UInt8) (x : UInt8), k < f → (∀ i y, i < k → l[i]? = some y → 128 ≤ y.toNat) → l[k]? = some x → x.toNat < 128 → digs f l = some (dval (l.take (k + 1)), k + 1)
  | 0, _, _, _, h, _, _, _ => absurd h (by omega)
  | f + 1, k, [], x, _, _, h, _ => by simp at h
  | f + 1, 0, y :: r, x, _, _, h, hx => by
    simp at h
    subst h
    simp [digs, hx, dval, Nat.mod_eq_of_lt hx]
  | f + 1, k + 1, y :: r, x, hk, hb, h, hx => by
    have hy := hb 0 y (by omega) rfl
    have ih := digs_hit f k r x (by omega) (fun i z hi hz => hb (i + 1) z (by omega) (by simpa using hz)) (by simpa using h) hx
    simp [digs, show ¬ y.toNat < 128 by omega, ih, dval]

/-- k bytes above 127, and there are no more, or no more digits are let in: no number. -/
theorem digs_miss : ∀ (f k : Nat) (l : List UInt8), (k = f ∨ l.length = k) → k ≤ f → (∀ i y, i < k → l[i]? = some y → 128 ≤ y.toNat) → digs f l = none
  | 0, _, _, _, _, _ => rfl
  | f + 1, k, [], _, _, _ => rfl
  | f + 1, 0, y :: r, h, _, _ => by simp at h
  | f + 1, k + 1, y :: r, h, hk, hb => by
    have hy := hb 0 y (by omega) rfl
    have ih := digs_miss f k r (by simpa using h) (by omega) (fun i z hi hz => hb (i + 1) z (by omega) (by simpa using hz))
    simp [digs, show ¬ y.toNat < 128 by omega, ih]

theorem digs_used : ∀ (f : Nat) (l : List UInt8) (v u : Nat), digs f l = some (v, u) → 1 ≤ u ∧ u ≤ f ∧ u ≤ l.length
  | 0, _, _, _, h => by simp [digs] at h
  | f + 1, [], _, _, h => by simp [digs] at h
  | f + 1, x :: r, v, u, h => by
    unfold digs at h
    split at h
    · simp at h
      obtain ⟨_, rfl⟩ := h
      simp
    · obtain ⟨⟨v', u'⟩, hy, e⟩ := Option.map_eq_some_iff.1 h
      simp at e
      obtain ⟨_, rfl⟩ := e
      have := digs_used f r v' u' hy
      simp
      omega

theorem digs5_used (l : List UInt8) (v u : Nat) (h : digs5 l = some (v, u)) : 1 ≤ u ∧ u ≤ 5 ∧ u ≤ l.length ∧ v ≤ 2147483647 := by
  unfold digs5 at h
  split at h
  · rename_i v' u' hd
    split at h
    · simp at h
      obtain ⟨rfl, rfl⟩ := h
      have := digs_used 5 l _ _ hd
      omega
    · cases h
  · cases h

/-- A number's bytes. -/
def ulebB : Nat → Nat → List UInt8
  | 0, _ => []
  | f + 1, n => if n < 128 then [UInt8.ofNat n] else UInt8.ofNat (128 + n % 128) :: ulebB f (n / 128)

theorem ulebB_length : ∀ f n, (ulebB f n).length ≤ f
  | 0, _ => Nat.le_refl _
  | f + 1, n => by
    unfold ulebB
    split
    · simp
    · have := ulebB_length f (n / 128)
      simp
      omega

/-- All numbers, one behind the other. -/
def listB : Nat → List UInt8 → Option (List Nat)
  | _, [] => some []
  | 0, _ :: _ => none
  | f + 1, x :: r => match digs5 (x :: r) with
    | none => none
    | some (v, u) => (listB f ((x :: r).drop u)).map (v :: ·)

end Go.Proofs.YtenmcmnhiejbgaaGreat
