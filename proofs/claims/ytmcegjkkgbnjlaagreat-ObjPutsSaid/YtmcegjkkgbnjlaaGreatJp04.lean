/-
  Relocations: words, and the contracts of the reference's Width, MayRel and RelBytes.
  Tables of names: what the document's own functions tell, as functions on lists of bytes. Nothing here speaks of the program.
  Contracts: the reference's Name and At: whether a text may be a name; the name at a place.
  Words on slices of strings, and on two rows of unlike elements.
  Tables of names in memory.
  Numbers by digits of seven bits: what the documents' own functions tell, as functions on lists of bytes. Nothing here speaks of the program.
  An object's bytes, by definition: its parts, in order, and how they are laid. (Nothing here speaks of the program.)
  Rows of strings in a call's own memory; structs of six numbers in a block.
  Laws on rows of parts and of bytes that grow side by side. (Nothing here speaks of the program's functions.)
-/
import Derived.Test.YtmcegjkkgbnjlaaGreatJp03
import Derived.Test.YtmcegjkkgbnjlaaGreatWords
import Derived.Test.YtmcegjkkgbnjlaaGreatMem
import Derived.Deep.DeepCutAuto
import Derived.Test.YtmcegjkkgbnjlaaGreatMem0
import Derived.Lib.AppendStr
import Derived.Deep.QuietTactic
import Derived.BigQuiet
import Derived.Test.YtmcegjkkgbnjlaaGreatObjMem
namespace Go.Proofs.YtmcegjkkgbnjlaaGreat
open Go.RowKit

def widthI (n : Int) : Int := if n = 1 then 8 else if n = 2 ∨ n = 4 ∨ n = 10 ∨ n = 11 then 4 else 0
theorem width_any (n : Int) (w : World) : Calls Tryz.prog 105 #[.int .i64 n] w fun e w' => e = .returned (.int .i64 (widthI n)) ∧ w = w' := by
  by_cases h1 : n = 1
  · subst h1
    go_enter Tryz.func105, Tryz.ntmps105
    go_wp2
    go_ret
    exact ⟨rfl, rfl⟩
  by_cases h2 : n = 2
  · subst h2
    go_enter Tryz.func105, Tryz.ntmps105
    go_wp2
    go_ret
    exact ⟨rfl, rfl⟩
  by_cases h4 : n = 4
  · subst h4
    go_enter Tryz.func105, Tryz.ntmps105
    go_wp2
    go_ret
    exact ⟨rfl, rfl⟩
  by_cases h10 : n = 10
  · subst h10
    go_enter Tryz.func105, Tryz.ntmps105
    go_wp2
    go_ret
    exact ⟨rfl, rfl⟩
  by_cases h11 : n = 11
  · subst h11
    go_enter Tryz.func105, Tryz.ntmps105
    go_wp2
    go_ret
    exact ⟨rfl, rfl⟩
  have HW : Hid (widthI n = 0) := Lib.hid (by simp [widthI, h1, h2, h4, h10, h11])
  have e1 : (n == 1) = false := by simpa using h1
  have e2 : (n == 2) = false := by simpa using h2
  have e4 : (n == 4) = false := by simpa using h4
  have e10 : (n == 10) = false := by simpa using h10
  have e11 : (n == 11) = false := by simpa using h11
  clear h1 h2 h4 h10 h11
  go_enter Tryz.func105, Tryz.ntmps105
  go_wp2
  go_ret
  rw [HW.out]
  exact ⟨rfl, rfl⟩

/-- Four numbers: a relocation: place, type, symbol, what is added. -/
structure Fou where
  (a b c d : Int)
abbrev Fou.v (t : Fou) : Value := .agg #[.int .i64 t.a, .int .i64 t.b, .int .i64 t.c, .int .i64 t.d]
def Fou.nums (t : Fou) : List Int := [t.a, 8, t.b, 4, t.c, 4, t.d, 8]
def relB (t : Fou) : List UInt8 := numsB t.nums
def Fou.may (t : Fou) : Prop := fitsB t.a = true ∧ fitsB t.c = true ∧ 0 < widthI t.b
instance (t : Fou) : Decidable t.may := by unfold Fou.may; infer_instance
theorem relB_length (t : Fou) : (relB t).length = 24 := rfl
theorem widthI_pos {n : Int} (h : 0 < widthI n) : n = 1 ∨ n = 2 ∨ n = 4 ∨ n = 10 ∨ n = 11 := by
  unfold widthI at h
  split at h
  · omega
  · split at h
    · omega
    · omega

theorem mayR_yes (t : Fou) (w : World) (h : t.may) : Calls Tryz.prog 79 #[t.v] w fun e w' => e = .returned (.bool true) ∧ Below w.heap.size w w' := by
  obtain ⟨h1, h2, h3⟩ := h
  have HA := Lib.hid (fits_true h1)
  have HB := Lib.hid (fits_true h2)
  have HW := Lib.hid (width_any t.b)
  have hb0 : Below w.heap.size w (w.alloc (.cells #[.int .i64 t.a, .int .i64 t.b, .int .i64 t.c, .int .i64 t.d] 89)) := (Below.refl _ w).alloc (Nat.le_refl _) _
  clear h1 h2
  generalize widthI t.b = q at *
  go_enter Tryz.func79, Tryz.ntmps79
  go_wp2_with fail
  refine (HA.out _).mono ?_
  rintro e w' ⟨rfl, rfl⟩
  go_wp2_with fail
  refine (HB.out _).mono ?_
  rintro e w' ⟨rfl, rfl⟩
  go_wp2_with fail
  refine (HW.out _).mono ?_
  rintro e w' ⟨rfl, rfl⟩
  go_wp2_with fail
  go_ret
  exact ⟨by simp, hb0⟩
theorem mayR_no (t : Fou) (w : World) (h : ¬ t.may) : Calls Tryz.prog 79 #[t.v] w fun e w' => e = .returned (.bool false) ∧ Below w.heap.size w w' := by
  have HB0 := Lib.hid (fits_b t.c)
  have HW := Lib.hid (width_any t.b)
  have hb0 : Below w.heap.size w (w.alloc (.cells #[.int .i64 t.a, .int .i64 t.b, .int .i64 t.c, .int .i64 t.d] 89)) := (Below.refl _ w).alloc (Nat.le_refl _) _
  by_cases h1 : fitsB t.a = true
  · have HA := Lib.hid (fits_true h1)
    by_cases h2 : fitsB t.c = true
    · have HB := Lib.hid (fits_true h2)
      have h3 : ¬ 0 < widthI t.b := fun h3 => h ⟨h1, h2, h3⟩
      clear h1 h2 h HB0
      generalize widthI t.b = q at *
      go_enter Tryz.func79, Tryz.ntmps79
      go_wp2_with fail
      refine (HA.out _).mono ?_
      rintro e w' ⟨rfl, rfl⟩
      go_wp2_with fail
      refine (HB.out _).mono ?_
      rintro e w' ⟨rfl, rfl⟩
      go_wp2_with fail
      refine (HW.out _).mono ?_
      rintro e w' ⟨rfl, rfl⟩
      go_wp2_with fail
      go_ret
      exact ⟨by simp; omega, hb0⟩
    · have HB := Lib.hid (fits_false h2)
      clear h1 h2 h HB0
      go_enter Tryz.func79, Tryz.ntmps79
      go_wp2_with fail
      refine (HA.out _).mono ?_
      rintro e w' ⟨rfl, rfl⟩
      go_wp2_with fail
      refine (HB.out _).mono ?_
      rintro e w' ⟨rfl, rfl⟩
      go_wp2_with fail
      go_ret
      exact ⟨rfl, hb0⟩
  · have HA := Lib.hid (fits_false h1)
    clear h1 h
    go_enter Tryz.func79, Tryz.ntmps79
    go_wp2_with fail
    refine (HA.out _).mono ?_
    rintro e w' ⟨rfl, rfl⟩
    go_wp2_with fail
    refine (HB0.out _).mono ?_
    rintro e w' ⟨rfl, rfl⟩
    go_wp2_with fail
    go_ret
    exact ⟨rfl, hb0⟩

theorem rel_wid (t : Fou) : ∀ (i : Nat) (x : Int), t.nums[2 * i + 1]? = some x → wid x = true := fun i x hx => by
  have hi : i < 4 := by have := (List.getElem?_eq_some_iff.1 hx).1; simp [Fou.nums] at this; omega
  match i, hi, hx with
  | 0, _, hx | 1, _, hx | 2, _, hx | 3, _, hx => simp [Fou.nums] at hx; subst hx; rfl
theorem rel_bd {t : Fou} (h : t.may) (hd : -9223372036854775808 ≤ t.d ∧ t.d ≤ 9223372036854775807) : ∀ (i : Nat) (x : Int), t.nums[i]? = some x → -9223372036854775808 ≤ x ∧ x ≤ 9223372036854775807 := fun i x hx => by
  have hm := List.mem_of_getElem? hx
  simp only [Fou.nums, List.mem_cons, List.not_mem_nil, or_false] at hm
  obtain ⟨h1, h2, h3⟩ := h
  have g1 := (fitsB_iff _).1 h1
  have g2 := (fitsB_iff _).1 h2
  have g3 := widthI_pos h3
  omega

theorem relBytes_no (t : Fou) (w : World) (h : ¬ t.may) : Calls Tryz.prog 38 #[t.v] w (GivesH 0 [] w) := by
  have HM := Lib.hid fun W => mayR_no t W h
  clear h
  go_enter Tryz.func38, Tryz.ntmps38
  go_wp2_with fail
  refine (HM.out _).mono ?_
  rintro e w2 ⟨rfl, hbb⟩
  go_wp2_with fail
  go_ret
  exact ⟨none, 0, rfl, rfl, Nat.le_refl _, Nat.zero_le _, Has.none_ _ _, ((Below.refl _ w).alloc (Nat.le_refl _) _).trans (hbb.mono (by simp))⟩

set_option maxHeartbeats 2000000 in
theorem relBytes_yes (t : Fou) (w : World) (h : t.may) (hd : -9223372036854775808 ≤ t.d ∧ t.d ≤ 9223372036854775807) : Calls Tryz.prog 38 #[t.v] w (Gives (relB t) w) := by
  have HM := Lib.hid fun W => mayR_yes t W h
  have HN := Lib.hid fun (W : World) (p : Option Addr) (hp : HasI W p t.nums) => nums_any p 8 8 4 t.nums W hp rfl rfl (by omega) (rel_wid t) (rel_bd h hd)
  clear h
  go_enter Tryz.func38, Tryz.ntmps38
  go_wp2_with fail
  refine (HM.out _).mono ?_
  rintro e w2 ⟨rfl, hbb⟩
  have c0 : w2.cell? ⟨w.heap.size, 0, none⟩ = some (.int .i64 t.a) := by rw [hbb.cell (by simp)]; simp
  have c1 : w2.cell? ⟨w.heap.size, 1, none⟩ = some (.int .i64 t.b) := by rw [hbb.cell (by simp)]; simp
  have c2 : w2.cell? ⟨w.heap.size, 2, none⟩ = some (.int .i64 t.c) := by rw [hbb.cell (by simp)]; simp
  have c3 : w2.cell? ⟨w.heap.size, 3, none⟩ = some (.int .i64 t.d) := by rw [hbb.cell (by simp)]; simp
  have hb : Below w.heap.size w w2 := ((Below.refl _ w).alloc (Nat.le_refl _) _).trans (hbb.mono (by simp))
  clear hbb
  go_wp2_with fail
  refine (HN.out _ _ (lit_hasI w2 3 t.nums #[.int .i64 t.a, .int .i64 8, .int .i64 t.b, .int .i64 4, .int .i64 t.c, .int .i64 4, .int .i64 t.d, .int .i64 8] rfl _ rfl)).mono ?_
  rintro e w3 ⟨v, rfl, ho, hbb3⟩
  have hb3 : Below w.heap.size w w3 := (hb.alloc hb.size _).trans (hbb3.mono (by have := hb.size; simp; omega))
  have ho3 := owns_lower (c := w.heap.size) ho (by have := hb.size; simp; omega)
  clear hbb3 ho
  go_wp2_with fail
  go_ret
  exact ⟨_, rfl, ho3, hb3⟩

end Go.Proofs.YtmcegjkkgbnjlaaGreat

namespace Go.Proofs.YtmcegjkkgbnjlaaGreat
open Go.RowKit

abbrev Nm := List UInt8

/-- May the bytes be a name? -/
def mayB (l : Nm) : Bool := decide (l.length ≤ 32) && l.all (fun x => x != 0)

/-- The name with which the bytes begin. -/
def nameB (l : List UInt8) : Option Nm :=
  if (l.takeWhile fun x => x != 0).length < l.length ∧ (l.takeWhile fun x => x != 0).length ≤ 32 then some (l.takeWhile fun x => x != 0) else none

theorem takeWhile_hit : ∀ (k : Nat) (l : List UInt8), (∀ i y, i < k → l[i]? = some y → y ≠ 0) → l[k]? = some 0 → (l.takeWhile fun x => x != 0) = l.take k
  | _, [], _, h => by simp at h
  | 0, x :: r, _, h => by
    simp at h
    subst h
    simp
  | k + 1, x :: r, hb, h => by
    have hx := hb 0 x (by omega) rfl
    have ih := takeWhile_hit k r (fun i y hi hy => hb (i + 1) y (by omega) (by simpa using hy)) (by simpa using h)
    simp [hx, ih]
theorem takeWhile_long : ∀ (k : Nat) (l : List UInt8), (∀ i y, i < k → l[i]? = some y → y ≠ 0) → k ≤ l.length → k ≤ (l.takeWhile fun x => x != 0).length
  | 0, _, _, _ => Nat.zero_le _
  | _ + 1, [], _, h => by simp at h
  | k + 1, x :: r, hb, h => by
    have hx := hb 0 x (by omega) rfl
    have ih := takeWhile_long k r (fun i y hi hy => hb (i + 1) y (by omega) (by simpa using hy)) (by simpa using h)
    simp [hx, ih]
theorem takeWhile_le (l : List UInt8) : (l.takeWhile fun x => x != 0).length ≤ l.length := (List.takeWhile_sublist _).length_le

/-- k bytes that are not 0, then a 0: that is the name. -/
theorem nameB_hit {k : Nat} {l : List UInt8} (hb : ∀ i y, i < k → l[i]? = some y → y ≠ 0) (h : l[k]? = some 0) (hk : k ≤ 32) : nameB l = some (l.take k) := by
  have hl : k < l.length := (List.getElem?_eq_some_iff.1 h).1
  unfold nameB
  rw [takeWhile_hit k l hb h, List.length_take, Nat.min_eq_left (by omega), if_pos ⟨hl, hk⟩]
/-- No 0 at all, or none among the first 33. -/
theorem nameB_miss {k : Nat} {l : List UInt8} (hb : ∀ i y, i < k → l[i]? = some y → y ≠ 0) (h : k = l.length ∨ 32 < k ∧ k ≤ l.length) : nameB l = none := by
  have h1 := takeWhile_long k l hb (by omega)
  have h2 := takeWhile_le l
  unfold nameB
  rw [if_neg (by omega)]

/-! ## The table -/
/-- Where a name stands, as far as the table has it. -/
def look (e : List (Nm × Nat)) (n : Nm) : Option Nat := (e.find? fun x => x.1 == n).map (·.2)
/-- The table, and who stands in it. -/
structure Tab where
  tb : List UInt8
  env : List (Nm × Nat)
def tab0 : Tab := ⟨[0], [([], 0)]⟩
def tabStep (t : Tab) (n : Nm) : Tab :=
  match look t.env n with
  | some _ => t
  | none => ⟨t.tb ++ (n ++ [0]), t.env ++ [(n, t.tb.length)]⟩
def tabOf (ns : List Nm) : Tab := ns.foldl tabStep tab0
def placeOf (ns : List Nm) (n : Nm) : Nat := (look (tabOf ns).env n).getD 0
/-- The places of the names. -/
def placesOf (ns : List Nm) : List Nat := ns.map (placeOf ns)

theorem tabOf_snoc (ns : List Nm) (n : Nm) : tabOf (ns ++ [n]) = tabStep (tabOf ns) n := by simp [tabOf]
theorem look_append (e f : List (Nm × Nat)) (n : Nm) : look (e ++ f) n = (look e n).or (look f n) := by
  unfold look
  rw [List.find?_append]
  cases List.find? (fun x => x.1 == n) e <;> simp
theorem look_step_some {t : Tab} {n m : Nm} {p : Nat} (h : look t.env m = some p) : look (tabStep t n).env m = some p := by
  unfold tabStep
  split
  · exact h
  · simp only [look_append, h, Option.some_or]
theorem look_step_self (t : Tab) (n : Nm) : look (tabStep t n).env n = some ((look t.env n).getD t.tb.length) := by
  unfold tabStep
  split
  · rename_i p hp
    rw [hp]
    rfl
  · rename_i hp
    simp only [look_append, hp, Option.none_or]
    simp [look]
theorem look_step_none {t : Tab} {n m : Nm} (h : look (tabStep t n).env m = none) : look t.env m = none ∧ m ≠ n := by
  constructor
  · cases hl : look t.env m with
    | none => rfl
    | some p => rw [look_step_some hl] at h; cases h
  · intro e
    subst e
    rw [look_step_self] at h
    cases h
theorem look_step_other {t : Tab} {n m : Nm} (hm : m ≠ n) : look (tabStep t n).env m = look t.env m := by
  unfold tabStep
  split
  · rfl
  · rw [look_append]
    have : look [(n, t.tb.length)] m = none := by
      have : (n == m) = false := by simpa using Ne.symm hm
      simp [look, List.find?, this]
    rw [this, Option.or_none]

theorem snoc_ind {α : Type} {P : List α → Prop} (h0 : P []) (hs : ∀ l x, P l → P (l ++ [x])) (l : List α) : P l := by
  have h : ∀ r : List α, P r.reverse := fun r => by
    induction r with
    | nil => exact h0
    | cons x r ih => rw [List.reverse_cons]; exact hs _ _ ih
  simpa using h l.reverse

/-- Who has a place: the empty name, and who was handed in. -/
theorem look_iff (ns : List Nm) (m : Nm) : look (tabOf ns).env m = none ↔ m ≠ [] ∧ m ∉ ns := by
  induction ns using snoc_ind with
  | h0 =>
    cases m with
    | nil => simp [tabOf, tab0, look]
    | cons x r => simp [tabOf, tab0, look, List.find?]
  | hs ns n ih =>
    rw [tabOf_snoc]
    by_cases hm : m = n
    · subst hm
      rw [look_step_self]
      simp
    · rw [look_step_other hm, ih]
      simp [hm]
theorem look_mem {ns : List Nm} {m : Nm} (h : m = [] ∨ m ∈ ns) : ∃ p, look (tabOf ns).env m = some p := by
  cases hl : look (tabOf ns).env m with
  | some p => exact ⟨p, rfl⟩
  | none =>
    have := (look_iff ns m).1 hl
    rcases h with h | h
    · exact absurd h this.1
    · exact absurd h this.2
theorem placeOf_old {ns : List Nm} {m : Nm} (n : Nm) (h : m = [] ∨ m ∈ ns) : placeOf (ns ++ [n]) m = placeOf ns m := by
  obtain ⟨p, hp⟩ := look_mem h
  unfold placeOf
  rw [tabOf_snoc, look_step_some hp, hp]
theorem placesOf_snoc (ns : List Nm) (n : Nm) : placesOf (ns ++ [n]) = placesOf ns ++ [placeOf (ns ++ [n]) n] := by
  unfold placesOf
  rw [List.map_append]
  congr 1
  exact List.map_congr_left fun m hm => placeOf_old n (.inr hm)
/-- An old name. -/
theorem tab_old {ns : List Nm} {n : Nm} (h : n = [] ∨ n ∈ ns) : tabOf (ns ++ [n]) = tabOf ns ∧ placeOf (ns ++ [n]) n = placeOf ns n := by
  obtain ⟨p, hp⟩ := look_mem h
  refine ⟨?_, placeOf_old n h⟩
  rw [tabOf_snoc]
  simp only [tabStep, hp]
/-- A new name. -/
theorem tab_new {ns : List Nm} {n : Nm} (h0 : n ≠ []) (h : n ∉ ns) : (tabOf (ns ++ [n])).tb = (tabOf ns).tb ++ (n ++ [0]) ∧ placeOf (ns ++ [n]) n = (tabOf ns).tb.length := by
  have hp := (look_iff ns n).2 ⟨h0, h⟩
  constructor
  · rw [tabOf_snoc]
    simp only [tabStep, hp]
  · unfold placeOf
    rw [tabOf_snoc, look_step_self, hp]
    rfl
theorem placeOf_nil (ns : List Nm) : placeOf ns [] = 0 := by
  induction ns using snoc_ind with
  | h0 => rfl
  | hs ns n ih => rw [placeOf_old n (.inl rfl), ih]

/-- Each name stands at its place, a 0 behind it. -/
theorem stands (ns : List Nm) (m : Nm) (h : m = [] ∨ m ∈ ns) : ∃ r, (tabOf ns).tb.drop (placeOf ns m) = m ++ 0 :: r := by
  induction ns using snoc_ind with
  | h0 =>
    rcases h with rfl | h
    · exact ⟨[], rfl⟩
    · simp at h
  | hs ns n ih =>
    by_cases ho : m = [] ∨ m ∈ ns
    · obtain ⟨r, hr⟩ := ih ho
      rw [placeOf_old n ho]
      have hl : placeOf ns m < (tabOf ns).tb.length := by
        have := congrArg List.length hr
        simp at this
        omega
      by_cases hn : n = [] ∨ n ∈ ns
      · rw [(tab_old hn).1]
        exact ⟨r, hr⟩
      · obtain ⟨h1, h2⟩ := not_or.1 hn
        rw [(tab_new h1 h2).1, List.drop_append_of_le_length (by omega), hr]
        exact ⟨r ++ (n ++ [0]), by simp⟩
    · obtain ⟨h1, h2⟩ := not_or.1 ho
      have hmn : m = n := by
        rcases h with h | h
        · exact absurd h h1
        · rcases List.mem_append.1 h with h | h
          · exact absurd h h2
          · simpa using h
      subst hmn
      rw [(tab_new h1 h2).1, (tab_new h1 h2).2, List.drop_left]
      exact ⟨[], rfl⟩
theorem all_ne {n : Nm} (h : mayB n = true) : n.length ≤ 32 ∧ ∀ x ∈ n, x ≠ 0 := by
  simp only [mayB, Bool.and_eq_true, decide_eq_true_eq, List.all_eq_true, bne_iff_ne] at h
  exact h
theorem nameB_stands {n : Nm} {r : List UInt8} (h : mayB n = true) : nameB (n ++ 0 :: r) = some n := by
  obtain ⟨h1, h2⟩ := all_ne h
  have := nameB_hit (k := n.length) (l := n ++ 0 :: r) (fun i y hi hy => by
    rw [List.getElem?_append_left hi] at hy
    exact h2 y (List.mem_of_getElem? hy)) (by simp) h1
  rw [this, List.take_left]
/-- The table's length: a 0, and of each new name its bytes and a 0. -/
theorem tab_length (ns : List Nm) : (tabOf ns).tb.length ≤ 33 * ns.length + 1 ∨ ∃ n ∈ ns, mayB n = false := by
  induction ns using snoc_ind with
  | h0 => exact .inl (Nat.le_refl _)
  | hs ns n ih =>
    rcases ih with ih | ⟨m, hm, h⟩
    · cases hn : mayB n with
      | false => exact .inr ⟨n, by simp, hn⟩
      | true =>
        have h32 := (all_ne hn).1
        by_cases ho : n = [] ∨ n ∈ ns
        · rw [(tab_old ho).1]
          exact .inl (by simp; omega)
        · obtain ⟨h1, h2⟩ := not_or.1 ho
          rw [(tab_new h1 h2).1]
          exact .inl (by simp; omega)
    · exact .inr ⟨m, by simp [hm], h⟩

end Go.Proofs.YtmcegjkkgbnjlaaGreat

namespace Go.Proofs.YtmcegjkkgbnjlaaGreat
open Go.RowKit

theorem ret_bool {a b : Bool} (h : a = b) : Ending.returned (.bool a) = .returned (.bool b) := by rw [h]

theorem mayB_long {l : Nm} (h : 32 < l.length) : mayB l = false := by simp [mayB]; omega
theorem mayB_zero {l : Nm} {k : Nat} (h : l[k]? = some 0) : mayB l = false := by
  have := List.mem_of_getElem? h
  simp only [mayB, Bool.and_eq_false_iff]
  exact .inr (by rw [List.all_eq_false]; exact ⟨0, this, by simp⟩)
theorem mayB_yes {l : Nm} (h : l.length ≤ 32) (hb : ∀ i y, i < l.length → l[i]? = some y → y ≠ 0) : mayB l = true := by
  simp only [mayB, Bool.and_eq_true, decide_eq_true_eq, List.all_eq_true, bne_iff_ne]
  exact ⟨h, fun x hx => by
    obtain ⟨i, hi⟩ := List.getElem?_of_mem hx
    exact hb i x (List.getElem?_eq_some_iff.1 hi).1 hi⟩

theorem refName_any (s : ByteArray) (w : World) : Calls Tryz.prog 64 #[.string s] w fun e w' => e = .returned (.bool (mayB s.data.toList)) ∧ w = w' := by
  have hz : s.data.toList.length = s.size := by simp
  have HZ := Lib.hid hz
  clear hz
  go_enter Tryz.func64, Tryz.ntmps64
  go_wp2
  go_loop [3] (fun i => ∃ k : Nat, k ≤ s.size ∧ k ≤ 32 ∧ i = .int .i64 (k : Int) ∧ (∀ j y, j < k → s.data.toList[j]? = some y → y ≠ 0)) (fun i => s.size - (intOf i).toNat)
  case atStart => exact ⟨0, Nat.zero_le _, Nat.zero_le _, rfl, fun j y hj => absurd hj (by omega)⟩
  case round =>
    obtain ⟨k, hk, hk32, rfl, hb⟩ := hrel
    have HB := Lib.hid hb
    clear hb
    by_cases hlt : k < s.size
    · have hx : s.data.toList[k]? = some s[k] := by
        rw [List.getElem?_eq_getElem (by simpa using hlt)]
        rfl
      have HX := Lib.hid hx
      clear hx
      by_cases h32 : k = 32
      · have HV : Hid (mayB s.data.toList = false) := Lib.hid (mayB_long (by rw [HZ.out]; omega))
        have hI : ((k : Int) == 32) = true := by simp; omega
        clear h32
        go_wp2
        go_ret
        exact ⟨ret_bool HV.out.symm, rfl⟩
      · have hI : ((k : Int) == 32) = false := by simp; omega
        by_cases h0 : s[k] = 0
        · have HV : Hid (mayB s.data.toList = false) := Lib.hid (mayB_zero (k := k) (by rw [HX.out, h0]))
          have hJ : ((s[k].toNat : Int) == 0) = true := by rw [h0]; rfl
          clear h0 h32
          go_wp2
          go_ret
          exact ⟨ret_bool HV.out.symm, rfl⟩
        · have hJ : ((s[k].toNat : Int) == 0) = false := by
            have : s[k].toNat ≠ 0 := fun h => h0 (UInt8.toNat_inj.1 h)
            simp
            omega
          have HB2 : Hid (∀ j y, j < k + 1 → s.data.toList[j]? = some y → y ≠ 0) := Lib.hid fun j y hj hy => by
            by_cases e : j = k
            · subst e
              rw [HX.out] at hy
              cases hy
              exact h0
            · exact HB.out j y (by omega) hy
          clear h0
          go_wp2
          go_round
          case rel => exact ⟨k + 1, by omega, by omega, by go_num, HB2.out⟩
          case measure => simp [intOf]; omega
    · have HV : Hid (mayB s.data.toList = true) := Lib.hid (mayB_yes (by rw [HZ.out]; omega) fun i y hi => HB.out i y (by rw [HZ.out] at hi; omega))
      go_wp2
      go_ret
      exact ⟨ret_bool HV.out.symm, rfl⟩

/-- What At tells of the bytes d from the place on. -/
def atOut (d : List UInt8) : Ending :=
  match nameB d with
  | some n => .returned (.tuple #[.string (str n), .bool true])
  | none => .returned (.tuple #[.string (str []), .bool false])

theorem atOut_hit {k : Nat} {l : List UInt8} (hb : ∀ i y, i < k → l[i]? = some y → y ≠ 0) (h : l[k]? = some 0) (hk : k ≤ 32) : atOut l = .returned (.tuple #[.string (str (l.take k)), .bool true]) := by
  simp only [atOut, nameB_hit hb h hk]
theorem atOut_miss {k : Nat} {l : List UInt8} (hb : ∀ i y, i < k → l[i]? = some y → y ≠ 0) (h : k = l.length ∨ 32 < k ∧ k ≤ l.length) : atOut l = .returned (.tuple #[.string (str []), .bool false]) := by
  simp only [atOut, nameB_miss hb h]

theorem refAt_out (p : Option Addr) (len cap : Nat) (at_ : Int) (w : World) (h : at_ < 0 ∨ (len : Int) ≤ at_) :
    Calls Tryz.prog 58 #[.slice p len cap, .int .i64 at_] w fun e w' => e = .returned (.tuple #[.string (str []), .bool false]) ∧ w = w' := by
  by_cases h0 : at_ < 0
  · clear h
    go_enter Tryz.func58, Tryz.ntmps58
    go_wp2
    go_ret2
    exact ⟨rfl, rfl⟩
  · have h1 : (len : Int) ≤ at_ := h.resolve_left h0
    clear h
    go_enter Tryz.func58, Tryz.ntmps58
    go_wp2
    go_ret2
    exact ⟨rfl, rfl⟩

set_option maxHeartbeats 1000000 in
theorem refAt_in (p : Option Addr) (len cap : Nat) (l : List UInt8) (a : Nat) (w : World) (h : Has w p l) (hlen : l.length = len) (ha : a < len) (hcap : len ≤ cap) (hbig : len ≤ 1000000000) :
    Calls Tryz.prog 58 #[.slice p len cap, .int .i64 a] w fun e w' => e = atOut (l.drop a) ∧ w = w' := by
  have hcv : ∀ e, a ≤ e → e ≤ len → (convert 31 9 (.slice (if cap = a then p else p.map (·.add a)) (e - a) (cap - a))).run Tryz.prog w = .ok (.string (str ((l.drop a).take (e - a)))) w := fun e h1 h2 => by
    have := h.cut a e cap (by omega) (by omega)
    rw [List.drop_take] at this
    exact conv_now this (by simp; omega)
  obtain ⟨b, off, rfl, hcell⟩ := h.plain (by omega)
  have hca : ¬ cap = a := by omega
  simp only [if_neg hca, Option.map_some] at hcv
  have hadd : (⟨b, off, none⟩ : Addr).add a = ⟨b, off + a, none⟩ := by unfold Addr.add; split <;> simp_all
  rw [hadd] at hcv
  have HV := Lib.hid hcv
  obtain ⟨d, hd⟩ : ∃ d, d = l.drop a := ⟨_, rfl⟩
  rw [← hd] at HV ⊢
  have HC : Hid (∀ i x, d[i]? = some x → w.cell? ⟨b, off + (a + i), none⟩ = some (.int .u8 (x.toNat : Int))) := Lib.hid fun i x hx => by
    rw [hd, List.getElem?_drop] at hx
    exact hcell _ _ hx
  have HD : Hid (d.length = len - a) := Lib.hid (by rw [hd, List.length_drop, hlen])
  clear h hcell hlen hcv hadd hd
  go_enter Tryz.func58, Tryz.ntmps58
  go_wp2
  go_loop [6] (fun i => ∃ e : Nat, a ≤ e ∧ e ≤ len ∧ e ≤ a + 33 ∧ i = .int .i64 (e : Int) ∧ (∀ j y, j < e - a → d[j]? = some y → y ≠ 0)) (fun i => len - (intOf i).toNat)
  case atStart => exact ⟨a, Nat.le_refl _, by omega, by omega, rfl, fun j y hj => absurd hj (by omega)⟩
  case round =>
    obtain ⟨e, h1, h2, h3, rfl, hb⟩ := hrel
    have HB := Lib.hid hb
    clear hb
    by_cases hlt : e < len ∧ e ≤ a + 32
    · obtain ⟨hlt, h32⟩ := hlt
      obtain ⟨x, hx⟩ : ∃ x, d[e - a]? = some x := ⟨_, List.getElem?_eq_getElem (by have := HD.out; omega)⟩
      have hc := HC.out _ _ hx
      rw [show a + (e - a) = e by omega] at hc
      have HX := Lib.hid hx
      have hI1 : (e : Int) < (len : Int) := by omega
      have hI2 : (e : Int) ≤ (a : Int) + 32 := by omega
      clear hx
      by_cases h0 : x = 0
      · subst h0
        have HO := Lib.hid (atOut_hit HB.out HX.out (by omega))
        have hcv := HV.out e h1 h2
        go_wp2
        go_ret2
        exact ⟨HO.out.symm, rfl⟩
      · have hJ : ((x.toNat : Int) == 0) = false := by
          have : x.toNat ≠ 0 := fun h => h0 (UInt8.toNat_inj.1 h)
          simp
          omega
        have HB2 : Hid (∀ j y, j < e + 1 - a → d[j]? = some y → y ≠ 0) := Lib.hid fun j y hj hy => by
          by_cases q : j = e - a
          · subst q
            rw [HX.out] at hy
            cases hy
            exact h0
          · exact HB.out j y (by omega) hy
        clear h0
        go_wp2
        go_round
        case rel => exact ⟨e + 1, by omega, by omega, by omega, by go_num, HB2.out⟩
        case measure => simp [intOf]; omega
    · have HO := Lib.hid (atOut_miss (k := e - a) HB.out (by have := HD.out; omega))
      by_cases hlt1 : e < len
      · have hI1 : (e : Int) < (len : Int) := by omega
        have hI2 : ¬ (e : Int) ≤ (a : Int) + 32 := by omega
        clear hlt
        go_wp2
        go_ret2
        exact ⟨HO.out.symm, rfl⟩
      · have hI1 : ¬ (e : Int) < (len : Int) := by omega
        clear hlt
        go_wp2
        go_ret2
        exact ⟨HO.out.symm, rfl⟩

/-- What At tells, of any place. -/
def atAny (l : List UInt8) (at_ : Int) : Ending := if 0 ≤ at_ ∧ at_ < l.length then atOut (l.drop at_.toNat) else .returned (.tuple #[.string (str []), .bool false])
theorem refAt_any (p : Option Addr) (len cap : Nat) (l : List UInt8) (at_ : Int) (w : World) (h : Has w p l) (hlen : l.length = len) (hcap : len ≤ cap) (hbig : len ≤ 1000000000) :
    Calls Tryz.prog 58 #[.slice p len cap, .int .i64 at_] w fun e w' => e = atAny l at_ ∧ w = w' := by
  by_cases hin : 0 ≤ at_ ∧ at_ < len
  · obtain ⟨a, rfl⟩ := Int.eq_ofNat_of_zero_le hin.1
    have := refAt_in p len cap l a w h hlen (by omega) hcap hbig
    have e : atAny l a = atOut (l.drop a) := by unfold atAny; rw [if_pos (by omega)]; rfl
    rwa [e]
  · have := refAt_out p len cap at_ w (by omega)
    have e : atAny l at_ = .returned (.tuple #[.string (str []), .bool false]) := by unfold atAny; rw [if_neg (by omega)]
    rwa [e]

end Go.Proofs.YtmcegjkkgbnjlaaGreat

namespace Go.Proofs.YtmcegjkkgbnjlaaGreat
open Go.RowKit

/-- Behind the address p lie the strings ss. -/
def HasS (w : World) (p : Option Addr) (ss : List ByteArray) : Prop :=
  ∀ i x, ss[i]? = some x → ∃ a, p = some a ∧ w.cell? (a.add i) = some (.string x)
theorem HasS.below {w w' : World} {p : Option Addr} {ss : List ByteArray} (h : HasS w p ss) (hb : Below w.heap.size w w') : HasS w' p ss := fun i x hx => by
  obtain ⟨a, e, hc⟩ := h i x hx
  exact ⟨a, e, (hb.cell (World.block_lt_of_cell? w _ hc)).trans hc⟩
theorem HasS.at_ {w : World} {p : Option Addr} {ss : List ByteArray} (h : HasS w p ss) {i : Nat} (hi : i < ss.length) :
    ∃ b off x, p = some ⟨b, off, none⟩ ∧ ss[i]? = some x ∧ w.cell? ⟨b, off + i, none⟩ = some (.string x) := by
  obtain ⟨⟨b, off, spot⟩, e, hc⟩ := h i ss[i] (List.getElem?_eq_getElem hi)
  have hs : spot = none := by
    obtain ⟨a0, e0, hc0⟩ := h 0 ss[0] (List.getElem?_eq_getElem (by omega))
    rw [e] at e0
    cases e0
    simpa [Addr.add] using World.cell?_spot hc0
  subst hs
  refine ⟨b, off, ss[i], e, List.getElem?_eq_getElem hi, ?_⟩
  have ha : (⟨b, off, none⟩ : Addr).add i = ⟨b, off + i, none⟩ := by unfold Addr.add; split <;> simp_all
  rwa [ha] at hc
theorem HasS.plain {w : World} {p : Option Addr} {ss : List ByteArray} (h : HasS w p ss) (hl : 0 < ss.length) :
    ∃ b off, p = some ⟨b, off, none⟩ ∧ ∀ i x, ss[i]? = some x → w.cell? ⟨b, off + i, none⟩ = some (.string x) := by
  obtain ⟨b, off, x, e, _, _⟩ := h.at_ hl
  refine ⟨b, off, e, fun i y hy => ?_⟩
  obtain ⟨b', off', y', e', hy', hc⟩ := h.at_ (List.getElem?_eq_some_iff.1 hy).1
  rw [e] at e'
  simp only [Option.some.injEq, Addr.mk.injEq, and_true] at e'
  obtain ⟨rfl, rfl⟩ := e'
  rw [hy] at hy'
  cases hy'
  exact hc

/-- A slice of strings that came in, as the row's opening hands it over. -/
def IsStrs (w : World) (a : Option Addr) (len cap : Nat) (ss : List ByteArray) : Prop :=
  (a = none ∧ len = 0 ∧ cap = 0 ∧ ss = []) ∨
  ∃ x, a = some x ∧ len ≤ cap ∧ cap ≤ maxLen ∧ ss.length = cap ∧ (∀ i, i < ss.length → w.cell? (x.add i) = some (.string (ss.getD i ByteArray.empty))) ∧ ∀ s ∈ ss, s.size ≤ maxLen
theorem IsStrs.hasS {w : World} {a : Option Addr} {len cap : Nat} {zs : List ByteArray} (h : IsStrs w a len cap zs) : ∃ ss : List ByteArray, ss.length = len ∧ HasS w a ss ∧ len ≤ cap ∧ cap ≤ maxLen := by
  rcases h with ⟨rfl, rfl, rfl, rfl⟩ | ⟨x, rfl, hl, hm, hz, hc, _⟩
  · exact ⟨[], rfl, fun i x hx => by simp at hx, Nat.le_refl _, Nat.zero_le _⟩
  · refine ⟨zs.take len, by simp; omega, fun i y hy => ⟨x, rfl, ?_⟩, hl, hm⟩
    rw [List.getElem?_take] at hy
    split at hy
    · have hi : i < zs.length := (List.getElem?_eq_some_iff.1 hy).1
      rw [hc i hi]
      simp [List.getD, hy]
    · cases hy

/-- A string's bytes. -/
abbrev lst (s : ByteArray) : Nm := s.data.toList
theorem lst_inj {a b : ByteArray} (h : lst a = lst b) : a = b := by
  apply ByteArray.ext
  exact Array.toList_inj.1 h
theorem strCells_lst (s : ByteArray) : Lib.strCells s = (lst s).map u8v := by simp [Lib.strCells, u8v]

theorem owns_apart {w : World} {b1 b2 : Nat} {e1 e2 : TypeId} {s1 s2 : Nat} {v1 v2 : Value} {n1 n2 : Nat} {xs1 xs2 : List Value} (h1 : w.ownsRow b1 e1 s1 v1 n1 xs1) (h2 : w.ownsRow b2 e2 s2 v2 n2 xs2) (he : e1 ≠ e2) :
    v1.ownBlock = none ∨ v1.ownBlock ≠ v2.ownBlock := by
  rcases h1.2 with ⟨rfl, _⟩ | ⟨g, cap, cur, rfl, _, hg, _⟩
  · exact .inl rfl
  · right
    rcases h2.2 with ⟨rfl, _⟩ | ⟨g', cap', cur', rfl, _, hg', _⟩
    · simp [Value.ownBlock]
    · simp only [Value.ownBlock, ne_eq, Option.some.injEq]
      intro e
      subst e
      rw [hg] at hg'
      simp only [Option.some.injEq, Obj.cells.injEq] at hg'
      exact he hg'.2.1

end Go.Proofs.YtmcegjkkgbnjlaaGreat

namespace Go.Proofs.YtmcegjkkgbnjlaaGreat
open Go.RowKit

/-- Few names, that may all be. -/
def shortB (ss : List ByteArray) : Prop := ss.length ≤ 100 ∧ ∀ s ∈ ss, mayB (lst s) = true

theorem first_bad : ∀ (ss : List ByteArray), (¬ ∀ s ∈ ss, mayB (lst s) = true) → ∃ (k : Nat) (x : ByteArray), ss[k]? = some x ∧ mayB (lst x) = false ∧ ∀ (j : Nat) (y : ByteArray), j < k → ss[j]? = some y → mayB (lst y) = true
  | [], h => absurd (fun s hs => by simp at hs) h
  | x :: r, h => by
    cases hx : mayB (lst x) with
    | false => exact ⟨0, x, rfl, hx, fun j y hj => absurd hj (by omega)⟩
    | true =>
      obtain ⟨k, y, h1, h2, h3⟩ := first_bad r fun hr => h fun s hs => by
        rcases List.mem_cons.1 hs with rfl | hs
        · exact hx
        · exact hr s hs
      refine ⟨k + 1, y, by simpa using h1, h2, fun j z hj hz => ?_⟩
      match j, hz with
      | 0, hz => simp at hz; subst hz; exact hx
      | j + 1, hz => exact h3 j z (by omega) (by simpa using hz)

end Go.Proofs.YtmcegjkkgbnjlaaGreat

namespace Go.Proofs.YtmcegjkkgbnjlaaGreat
open Go.RowKit

/-- The digits, the lowest first, as a number. -/
def dval : List UInt8 → Nat
  | [] => 0
  | x :: r => x.toNat % 128 + 128 * dval r

/-- The number with which the bytes begin, of at most so many digits, and how many it has. -/
def digs : Nat → List UInt8 → Option (Nat × Nat)
  | 0, _ => none
  | _ + 1, [] => none
  | k + 1, x :: r => if x.toNat < 128 then some (x.toNat, 1) else (digs k r).map fun y => (x.toNat % 128 + 128 * y.1, y.2 + 1)

/-- At most MaxAddr. -/
def digs5 (l : List UInt8) : Option (Nat × Nat) :=
  match digs 5 l with
  | some (v, u) => if v ≤ 2147483647 then some (v, u) else none
  | none => none

theorem dval_lt : ∀ l : List UInt8, dval l < 128 ^ l.length
  | [] => by simp [dval]
  | x :: r => by
    have h := dval_lt r
    simp only [dval, List.length_cons, Nat.pow_succ]
    omega

theorem dval_drop (l : List UInt8) (j : Nat) (x : UInt8) (h : l[j]? = some x) : dval (l.drop j) = x.toNat % 128 + 128 * dval (l.drop (j + 1)) := by
  have hj : j < l.length := (List.getElem?_eq_some_iff.1 h).1
  rw [List.drop_eq_getElem_cons hj, (List.getElem?_eq_some_iff.1 h).2]
  rfl

/-- k bytes above 127, then one below 128: that is the number. -/
theorem digs_hit : ∀ (f k : Nat) (l : List UInt8) (x : UInt8), k < f → (∀ i y, i < k → l[i]? = some y → 128 ≤ y.toNat) → l[k]? = some x → x.toNat < 128 → digs f l = some (dval (l.take (k + 1)), k + 1)
  | 0, _, _, _, h, _, _, _ => absurd h (by omega)
  | f + 1, k, [], x, _, _, h, _ => by simp at h
  | f + 1, 0, y :: r, x, _, _, h, hx => by
    simp at h
    subst h
    simp [digs, hx, dval, Nat.mod_eq_of_lt hx]
  | f + 1, k + 1, y :: r, x, hk, hb, h, hx => by
    have hy := hb 0 y (by omega) rfl
    have ih := digs_hit f k r x (by omega) (fun i z hi hz => hb (i + 1) z (by omega) (by simpa using hz)) (by simpa using h) hx
    simp [digs, show ¬ y.toNat < 128 by omega, ih, dval]

/-- k bytes above 127, and there are no more, or no more digits are let in: no number. -/
theorem digs_miss : ∀ (f k : Nat) (l : List UInt8), (k = f ∨ l.length = k) → k ≤ f → (∀ i y, i < k → l[i]? = some y → 128 ≤ y.toNat) → digs f l = none
  | 0, _, _, _, _, _ => rfl
  | f + 1, k, [], _, _, _ => rfl
  | f + 1, 0, y :: r, h, _, _ => by simp at h
  | f + 1, k + 1, y :: r, h, hk, hb => by
    have hy := hb 0 y (by omega) rfl
    have ih := digs_miss f k r (by simpa using h) (by omega) (fun i z hi hz => hb (i + 1) z (by omega) (by simpa using hz))
    simp [digs, show ¬ y.toNat < 128 by omega, ih]

theorem digs_used : ∀ (f : Nat) (l : List UInt8) (v u : Nat), digs f l = some (v, u) → 1 ≤ u ∧ u ≤ f ∧ u ≤ l.length
  | 0, _, _, _, h => by simp [digs] at h
  | f + 1, [], _, _, h => by simp [digs] at h
  | f + 1, x :: r, v, u, h => by
    unfold digs at h
    split at h
    · simp at h
      obtain ⟨_, rfl⟩ := h
      simp
    · obtain ⟨⟨v', u'⟩, hy, e⟩ := Option.map_eq_some_iff.1 h
      simp at e
      obtain ⟨_, rfl⟩ := e
      have := digs_used f r v' u' hy
      simp
      omega

theorem digs5_used (l : List UInt8) (v u : Nat) (h : digs5 l = some (v, u)) : 1 ≤ u ∧ u ≤ 5 ∧ u ≤ l.length ∧ v ≤ 2147483647 := by
  unfold digs5 at h
  split at h
  · rename_i v' u' hd
    split at h
    · simp at h
      obtain ⟨rfl, rfl⟩ := h
      have := digs_used 5 l _ _ hd
      omega
    · cases h
  · cases h

/-- A number's bytes. -/
def ulebB : Nat → Nat → List UInt8
  | 0, _ => []
  | f + 1, n => if n < 128 then [UInt8.ofNat n] else UInt8.ofNat (128 + n % 128) :: ulebB f (n / 128)

theorem ulebB_length : ∀ f n, (ulebB f n).length ≤ f
  | 0, _ => Nat.le_refl _
  | f + 1, n => by
    unfold ulebB
    split
    · simp
    · have := ulebB_length f (n / 128)
      simp
      omega

/-- What was put is got, whatever stands behind it. -/
theorem digs_ulebB : ∀ (f n : Nat) (r : List UInt8), n < 128 ^ f → 0 < f → digs f (ulebB f n ++ r) = some (n, (ulebB f n).length)
  | 0, _, _, _, h => absurd h (by omega)
  | f + 1, n, r, hn, _ => by
    unfold ulebB
    split
    · rename_i h
      have e : (UInt8.ofNat n).toNat = n := by simp; omega
      simp [digs, e, h]
    · rename_i h
      have e : (UInt8.ofNat (128 + n % 128)).toNat = 128 + n % 128 := by simp; omega
      have hf : 0 < f := by
        rcases Nat.eq_zero_or_pos f with h0 | h0
        · subst h0
          simp at hn
          omega
        · exact h0
      have hd : n / 128 < 128 ^ f := by
        rw [Nat.pow_succ] at hn
        exact Nat.div_lt_of_lt_mul (by rw [Nat.mul_comm]; exact hn)
      have ih := digs_ulebB f (n / 128) r hd hf
      simp only [List.cons_append, digs, e, show ¬ (128 + n % 128 < 128) by omega, if_false, ih, Option.map_some, List.length_cons]
      congr 2
      omega

/-- All numbers, one behind the other. -/
def listB : Nat → List UInt8 → Option (List Nat)
  | _, [] => some []
  | 0, _ :: _ => none
  | f + 1, x :: r => match digs5 (x :: r) with
    | none => none
    | some (v, u) => (listB f ((x :: r).drop u)).map (v :: ·)

end Go.Proofs.YtmcegjkkgbnjlaaGreat

namespace Go.Proofs.YtmcegjkkgbnjlaaGreat
open Go.RowKit

def nRela : ByteArray := ⟨#[46, 114, 101, 108, 97]⟩
def nGroup : ByteArray := ⟨#[46, 103, 114, 111, 117, 112]⟩
def nSig : ByteArray := ⟨#[46, 108, 108, 118, 109, 95, 97, 100, 100, 114, 115, 105, 103]⟩
def nSymtab : ByteArray := ⟨#[46, 115, 121, 109, 116, 97, 98]⟩
def nStrtab : ByteArray := ⟨#[46, 115, 116, 114, 116, 97, 98]⟩
def nShstr : ByteArray := ⟨#[46, 115, 104, 115, 116, 114, 116, 97, 98]⟩
def nNone : ByteArray := ⟨#[]⟩

/-! ## Parts -/
def fouOf (r : RelD) : Fou := ⟨r.off, r.type, r.sym, r.add⟩
def relsBy (l : List RelD) : List UInt8 := l.flatMap fun r => relB (fouOf r)
def relHead (a n : Int) : Ten := ⟨0, 4, 0, 0, 0, 0, a, n, 8, 24⟩
def relPart (a n : Int) (s : SecD) : List PartD := if s.rels.length = 0 then [] else [⟨relHead a n, nRela, relsBy s.rels⟩]
def relPartAt (a : Int) (secs : List SecD) (i : Nat) : List PartD := match secs[i]? with | some s => relPart a ((i : Int) + 1) s | none => []
def relPs (a : Int) (secs : List SecD) (k : Nat) : List PartD := (List.range k).flatMap (relPartAt a secs)
theorem relPs_succ {a : Int} {secs : List SecD} {k : Nat} {s : SecD} (h : secs[k]? = some s) : relPs a secs (k + 1) = relPs a secs k ++ relPart a ((k : Int) + 1) s := by
  unfold relPs
  rw [List.range_succ, List.flatMap_append]
  simp [relPartAt, h]
theorem relPart_len (a n : Int) (s : SecD) : (relPart a n s).length ≤ 1 := by unfold relPart; split <;> simp
theorem relPs_len (a : Int) (secs : List SecD) : ∀ k, (relPs a secs k).length ≤ k
  | 0 => by simp [relPs]
  | k + 1 => by
    have ih := relPs_len a secs k
    unfold relPs at ih ⊢
    rw [List.range_succ, List.flatMap_append, List.length_append]
    have : (relPartAt a secs k).length ≤ 1 := by
      unfold relPartAt
      split
      · exact relPart_len _ _ _
      · simp
    simp
    simp at ih
    omega
theorem flatMap_len {α β : Type} (f g : α → List β) (h : ∀ x, (f x).length = (g x).length) : ∀ l : List α, (l.flatMap f).length = (l.flatMap g).length
  | [] => rfl
  | x :: r => by rw [List.flatMap_cons, List.flatMap_cons, List.length_append, List.length_append, h x, flatMap_len f g h r]
theorem relPs_len_any (a b : Int) (secs : List SecD) (k : Nat) : (relPs a secs k).length = (relPs b secs k).length :=
  flatMap_len _ _ (fun i => by unfold relPartAt relPart; split <;> (try split) <;> rfl) _
theorem relsBy_snoc (l : List RelD) (r : RelD) : relsBy (l ++ [r]) = relsBy l ++ relB (fouOf r) := by simp [relsBy]
theorem relsBy_length : ∀ l : List RelD, (relsBy l).length = 24 * l.length
  | [] => rfl
  | r :: l => by
    have ih := relsBy_length l
    unfold relsBy at ih ⊢
    rw [List.flatMap_cons, List.length_append, relB_length, ih, List.length_cons]
    omega

def memB (m : Int) : List UInt8 := leB 4 (u64n m)
def groupBy (ms : List Int) : List UInt8 := [1, 0, 0, 0] ++ ms.flatMap memB
theorem groupBy_snoc (l : List Int) (r : Int) : groupBy (l ++ [r]) = groupBy l ++ memB r := by simp [groupBy]
theorem groupBy_length : ∀ l : List Int, (groupBy l).length = 4 + 4 * l.length
  | [] => rfl
  | r :: l => by
    have ih := groupBy_length l
    unfold groupBy at ih ⊢
    simp only [List.length_append, List.flatMap_cons, List.length_cons, List.length_nil] at ih ⊢
    have : (memB r).length = 4 := leB_length _ _
    omega
def groupHead (a y : Int) : Ten := ⟨0, 17, 0, 0, 0, 0, a, y, 4, 4⟩
def groupPart (a : Int) (g : GroupD) : PartD := ⟨groupHead a g.sym, nGroup, groupBy g.members⟩
def sigBy (l : List Int) : List UInt8 := l.flatMap fun n => ulebB 5 n.toNat
theorem sigBy_snoc (l : List Int) (r : Int) : sigBy (l ++ [r]) = sigBy l ++ ulebB 5 r.toNat := by simp [sigBy]
theorem sigBy_length : ∀ l : List Int, (sigBy l).length ≤ 5 * l.length
  | [] => Nat.le_refl _
  | r :: l => by
    have ih := sigBy_length l
    unfold sigBy at ih ⊢
    have := ulebB_length 5 r.toNat
    rw [List.flatMap_cons, List.length_append, List.length_cons]
    omega
def sigHead (a : Int) : Ten := ⟨0, 1879002115, 0, 0, 0, 0, a, 0, 1, 0⟩
def sigPart (a : Int) (l : List Int) : PartD := ⟨sigHead a, nSig, sigBy l⟩
def groupPs (a : Int) (gs : List GroupD) (has : Bool) (sig : List Int) : List PartD := gs.map (groupPart a) ++ bif has then [sigPart a sig] else []
theorem groupPs_len_any (a b : Int) (gs : List GroupD) (has : Bool) (sig : List Int) : (groupPs a gs has sig).length = (groupPs b gs has sig).length := by cases has <;> simp [groupPs]
theorem groupPs_len (a : Int) (gs : List GroupD) (has : Bool) (sig : List Int) : (groupPs a gs has sig).length ≤ gs.length + 1 := by cases has <;> simp [groupPs]

def symIdx (x : Int) : Int := if x = -1 then 65521 else x
def sixOf (pl : Nat) (s : SymD) : Six := ⟨pl, s.bind, s.type, symIdx s.sec, s.value, s.size⟩
def symNames (l : List SymD) : List Nm := l.map fun s => lst s.name
def symsBy (ns : List Nm) (l : List SymD) : List UInt8 := l.flatMap fun s => entB (sixOf (placeOf ns (lst s.name)) s)
theorem symsBy_snoc (ns : List Nm) (l : List SymD) (s : SymD) : symsBy ns (l ++ [s]) = symsBy ns l ++ entB (sixOf (placeOf ns (lst s.name)) s) := by simp [symsBy]
theorem symsBy_length (ns : List Nm) : ∀ l : List SymD, (symsBy ns l).length = 24 * l.length
  | [] => rfl
  | r :: l => by
    have ih := symsBy_length ns l
    unfold symsBy at ih ⊢
    rw [List.flatMap_cons, List.length_append, entB_length, ih, List.length_cons]
    omega
def localsOf (l : List SymD) : Nat := (l.filter fun s => s.bind == 0).length
theorem localsOf_snoc (l : List SymD) (s : SymD) : localsOf (l ++ [s]) = localsOf l + (bif s.bind == 0 then 1 else 0) := by
  unfold localsOf
  rw [List.filter_append, List.length_append]
  cases h : s.bind == 0 <;> simp [h]
theorem localsOf_le (l : List SymD) : localsOf l ≤ l.length := List.length_filter_le _ _
def symHead (a : Int) (n : Nat) : Ten := ⟨0, 2, 0, 0, 0, 0, a + 1, n, 8, 24⟩
def tabHead : Ten := ⟨0, 3, 0, 0, 0, 0, 0, 0, 1, 0⟩
def symPs (a : Int) (l : List SymD) : List PartD := [⟨symHead a (localsOf l), nSymtab, symsBy (symNames l) l⟩, ⟨tabHead, nStrtab, (tabOf (symNames l)).tb⟩]

def secHead (s : SecD) : Ten := ⟨0, s.type, s.flags, 0, 0, s.size, s.link, 0, s.align, s.ent⟩
def secPart (s : SecD) : PartD := ⟨secHead s, s.name, s.data⟩
def nul10 : Ten := ⟨0, 0, 0, 0, 0, 0, 0, 0, 0, 0⟩
def zeroPart : PartD := ⟨nul10, nNone, []⟩
/-- The number of the symbols' header. -/
def symNo (o : ObjD) : Nat := 1 + o.secs.length + (relPs 0 o.secs o.secs.length).length + (groupPs 0 o.groups o.hasSig o.sig).length
/-- All parts but that of the headers' names. -/
def partsOf (o : ObjD) : List PartD := zeroPart :: o.secs.map secPart ++ relPs (symNo o) o.secs o.secs.length ++ groupPs (symNo o) o.groups o.hasSig o.sig ++ symPs (symNo o) o.syms
theorem partsOf_length (o : ObjD) : (partsOf o).length = symNo o + 2 := by
  unfold partsOf
  simp only [List.length_append, List.length_cons, List.length_map]
  rw [relPs_len_any (symNo o) 0, groupPs_len_any (symNo o) 0]
  unfold symNo symPs
  simp only [List.length_cons, List.length_nil]
  omega

/-! ## How they are laid -/
def headNames (l : List PartD) : List Nm := l.map (fun p => lst p.name) ++ [lst nShstr]
def lastPart (ns : List Nm) : PartD := ⟨tabHead, nNone, (tabOf ns).tb⟩
def bodyOf (l : List PartD) : List UInt8 := l.flatMap PartD.b
theorem bodyOf_snoc (l : List PartD) (p : PartD) : bodyOf (l ++ [p]) = bodyOf l ++ p.b := by simp [bodyOf]
/-- The header of part i, whose bytes begin at off in the body. -/
def headAt (pl : List Nat) (i : Nat) (off : Nat) (p : PartD) : Ten :=
  ⟨((pl.getD i 0 : Nat) : Int), p.h.b, p.h.c, p.h.d, if i = 0 then p.h.e else 64 + (off : Int), if i = 0 ∨ p.h.b = 8 then p.h.f else (p.b.length : Int), p.h.g, p.h.h, p.h.i, p.h.j⟩
def headBy (pl : List Nat) (l : List PartD) (i : Nat) : List UInt8 := match l[i]? with
  | some p => sectB (headAt pl i (bodyOf (l.take i)).length p)
  | none => []
def headsBy (pl : List Nat) (l : List PartD) (k : Nat) : List UInt8 := (List.range k).flatMap (headBy pl l)
theorem headsBy_succ {pl : List Nat} {l : List PartD} {k : Nat} {p : PartD} (h : l[k]? = some p) : headsBy pl l (k + 1) = headsBy pl l k ++ sectB (headAt pl k (bodyOf (l.take k)).length p) := by
  unfold headsBy
  rw [List.range_succ, List.flatMap_append]
  simp [headBy, h]
theorem headsBy_length (pl : List Nat) (l : List PartD) : ∀ k, k ≤ l.length → (headsBy pl l k).length = 64 * k
  | 0, _ => rfl
  | k + 1, h => by
    have ih := headsBy_length pl l k (by omega)
    rw [headsBy_succ (List.getElem?_eq_getElem h), List.length_append, ih, sectB_length]
    omega
def layOf (l : List PartD) : List UInt8 :=
  let ns := headNames l
  let a := l ++ [lastPart ns]
  hdrB (64 + (bodyOf a).length) a.length (a.length - 1) ++ bodyOf a ++ headsBy (placesOf ns) a a.length
def bytesOf (o : ObjD) : List UInt8 := layOf (partsOf o)

/-- What the laying asks of an object. -/
structure Lays (o : ObjD) : Prop where
  nsec : o.secs.length ≤ 40
  nsym : o.syms.length ≤ 140
  ngrp : o.groups.length ≤ 40
  nsig : o.sig.length ≤ 16384
  secs : ∀ s ∈ o.secs, fitsB s.type = true ∧ fitsB s.flags = true ∧ fitsB s.size = true ∧ fitsB s.link = true ∧ fitsB s.align = true ∧ fitsB s.ent = true ∧ mayB (lst s.name) = true ∧ s.data.length ≤ 20000 ∧ s.rels.length ≤ 80 ∧
    (s.type ≠ 8 → s.size = s.data.length) ∧ ∀ r ∈ s.rels, (fouOf r).may ∧ -9223372036854775808 ≤ r.add ∧ r.add ≤ 9223372036854775807
  grps : ∀ g ∈ o.groups, fitsB g.sym = true ∧ g.members.length ≤ 50 ∧ ∀ m ∈ g.members, fitsB m = true
  syms : ∀ s ∈ o.syms, mayB (lst s.name) = true ∧ fitsB s.value = true ∧ fitsB s.size = true ∧ 0 ≤ s.bind ∧ s.bind ≤ 2 ∧ 0 ≤ s.type ∧ s.type ≤ 3 ∧ -1 ≤ s.sec ∧ s.sec ≤ 40
  sigs : ∀ n ∈ o.sig, fitsB n = true

theorem placesOf_length' (ns : List Nm) : (placesOf ns).length = ns.length := by simp [placesOf]
theorem placeOf_le (ns : List Nm) (m : Nm) (h : m = [] ∨ m ∈ ns) : placeOf ns m ≤ (tabOf ns).tb.length := by
  obtain ⟨r, hr⟩ := stands ns m h
  have : ((tabOf ns).tb.drop (placeOf ns m)).length = m.length + (r.length + 1) := by rw [hr]; simp
  rw [List.length_drop] at this
  omega
theorem tab_small (ns : List Nm) (hl : ns.length ≤ 10000) (h : ∀ n ∈ ns, mayB n = true) : (tabOf ns).tb.length ≤ 330001 := by
  rcases tab_length ns with h1 | ⟨n, hn, h2⟩
  · omega
  · rw [h n hn] at h2
    cases h2
theorem places_small (l : List SymD) (hl : l.length ≤ 10000) (h : ∀ s ∈ l, mayB (lst s.name) = true) : ∀ s ∈ l, placeOf (symNames l) (lst s.name) ≤ 2147483647 := fun s hs => by
  have h1 := placeOf_le (symNames l) (lst s.name) (.inr (List.mem_map.2 ⟨s, hs, rfl⟩))
  have h2 := tab_small (symNames l) (by unfold symNames; simpa using hl) fun n hn => by
    obtain ⟨y, hy, rfl⟩ := List.mem_map.1 hn
    exact h y hy
  omega

/-! ## What fits -/
def PartOK (p : PartD) : Prop := p.b.length ≤ 400000 ∧ fitsB p.h.b = true ∧ fitsB p.h.c = true ∧ fitsB p.h.d = true ∧ fitsB p.h.e = true ∧ fitsB p.h.f = true ∧ fitsB p.h.g = true ∧ fitsB p.h.h = true ∧ fitsB p.h.i = true ∧ fitsB p.h.j = true
theorem fitsN (n : Nat) (h : n ≤ 2147483647) : fitsB (n : Int) = true := (fitsB_iff _).2 ⟨by omega, by omega⟩
theorem symNo_le {o : ObjD} (hl : Lays o) : symNo o ≤ 122 := by
  have h1 := relPs_len 0 o.secs o.secs.length
  have h2 := groupPs_len 0 o.groups o.hasSig o.sig
  have h3 := hl.nsec
  have h4 := hl.ngrp
  unfold symNo
  omega
theorem partsOf_ok {o : ObjD} (hl : Lays o) : ∀ p ∈ partsOf o, PartOK p := fun p hp => by
  have ha := symNo_le hl
  unfold partsOf at hp
  simp only [List.mem_append, List.mem_cons, List.mem_map] at hp
  rcases hp with (((rfl | ⟨s, hs, rfl⟩) | hp) | hp) | hp
  · exact ⟨by simp [zeroPart], rfl, rfl, rfl, rfl, rfl, rfl, rfl, rfl, rfl⟩
  · obtain ⟨h1, h2, h3, h4, h5, h6, _, h8, _⟩ := hl.secs s hs
    exact ⟨by show s.data.length ≤ _; omega, h1, h2, rfl, rfl, h3, h4, rfl, h5, h6⟩
  · unfold relPs at hp
    obtain ⟨i, hi, hp⟩ := List.mem_flatMap.1 hp
    have hi2 := List.mem_range.1 hi
    have h3 := hl.nsec
    unfold relPartAt at hp
    split at hp
    · rename_i s hs
      unfold relPart at hp
      split at hp
      · simp at hp
      · simp only [List.mem_singleton] at hp
        subst hp
        have hr := (hl.secs s (List.mem_of_getElem? hs)).2.2.2.2.2.2.2.2.1
        refine ⟨by show (relsBy s.rels).length ≤ _; rw [relsBy_length]; omega, rfl, rfl, rfl, rfl, rfl, fitsN _ (by omega), ?_, rfl, rfl⟩
        show fitsB ((i : Int) + 1) = true
        exact (fitsB_iff _).2 ⟨by omega, by omega⟩
    · simp at hp
  · unfold groupPs at hp
    rcases List.mem_append.1 hp with hp | hp
    · obtain ⟨g, hg, rfl⟩ := List.mem_map.1 hp
      obtain ⟨h1, h2, _⟩ := hl.grps g hg
      exact ⟨by show (groupBy g.members).length ≤ _; rw [groupBy_length]; omega, rfl, rfl, rfl, rfl, rfl, fitsN _ (by omega), h1, rfl, rfl⟩
    · cases hs : o.hasSig with
      | false => rw [hs] at hp; simp at hp
      | true =>
        rw [hs] at hp
        simp only [cond_true, List.mem_singleton] at hp
        subst hp
        have h5 := sigBy_length o.sig
        have h6 := hl.nsig
        exact ⟨by show (sigBy o.sig).length ≤ _; omega, rfl, rfl, rfl, rfl, rfl, fitsN _ (by omega), rfl, rfl, rfl⟩
  · unfold symPs at hp
    simp only [List.mem_cons, List.not_mem_nil, or_false] at hp
    have h5 := hl.nsym
    rcases hp with rfl | rfl
    · have h6 := localsOf_le o.syms
      refine ⟨by show (symsBy _ o.syms).length ≤ _; rw [symsBy_length]; omega, rfl, rfl, rfl, rfl, rfl, ?_, fitsN _ (by omega), rfl, rfl⟩
      show fitsB ((symNo o : Int) + 1) = true
      exact (fitsB_iff _).2 ⟨by omega, by omega⟩
    · have h6 := tab_small (symNames o.syms) (by unfold symNames; simp; omega) fun n hn => by
        obtain ⟨y, hy, rfl⟩ := List.mem_map.1 hn
        exact (hl.syms y hy).1
      exact ⟨by show (tabOf (symNames o.syms)).tb.length ≤ _; omega, rfl, rfl, rfl, rfl, rfl, rfl, rfl, rfl, rfl⟩
theorem partsOf_names {o : ObjD} (hl : Lays o) : ∀ p ∈ partsOf o, mayB (lst p.name) = true := fun p hp => by
  unfold partsOf at hp
  simp only [List.mem_append, List.mem_cons, List.mem_map] at hp
  rcases hp with (((rfl | ⟨s, hs, rfl⟩) | hp) | hp) | hp
  · rfl
  · exact (hl.secs s hs).2.2.2.2.2.2.1
  · unfold relPs at hp
    obtain ⟨i, hi, hp⟩ := List.mem_flatMap.1 hp
    unfold relPartAt at hp
    split at hp
    · unfold relPart at hp
      split at hp
      · simp at hp
      · simp only [List.mem_singleton] at hp
        subst hp
        show mayB (lst nRela) = true
        decide
    · simp at hp
  · unfold groupPs at hp
    rcases List.mem_append.1 hp with hp | hp
    · obtain ⟨g, hg, rfl⟩ := List.mem_map.1 hp
      show mayB (lst nGroup) = true
      decide
    · cases hs : o.hasSig with
      | false => rw [hs] at hp; simp at hp
      | true =>
        rw [hs] at hp
        simp only [cond_true, List.mem_singleton] at hp
        subst hp
        show mayB (lst nSig) = true
        decide
  · unfold symPs at hp
    simp only [List.mem_cons, List.not_mem_nil, or_false] at hp
    rcases hp with rfl | rfl
    · show mayB (lst nSymtab) = true
      decide
    · show mayB (lst nStrtab) = true
      decide
theorem body_len : ∀ (l : List PartD), (∀ p ∈ l, PartOK p) → (bodyOf l).length ≤ 400000 * l.length
  | [], _ => Nat.le_refl _
  | p :: r, h => by
    have ih := body_len r fun q hq => h q (List.mem_cons_of_mem _ hq)
    have h1 := (h p (List.mem_cons_self ..)).1
    unfold bodyOf at ih ⊢
    rw [List.flatMap_cons, List.length_append, List.length_cons]
    omega
/-- All parts that are laid. -/
def allOf (o : ObjD) : List PartD := partsOf o ++ [lastPart (headNames (partsOf o))]
theorem headNames_ok {o : ObjD} (hl : Lays o) : ∀ n ∈ headNames (partsOf o), mayB n = true := fun n hn => by
  unfold headNames at hn
  rcases List.mem_append.1 hn with hn | hn
  · obtain ⟨p, hp, rfl⟩ := List.mem_map.1 hn
    exact partsOf_names hl p hp
  · simp only [List.mem_singleton] at hn
    subst hn
    decide
theorem headNames_length (l : List PartD) : (headNames l).length = l.length + 1 := by unfold headNames; simp
theorem allOf_length (o : ObjD) : (allOf o).length = symNo o + 3 := by unfold allOf; rw [List.length_append, partsOf_length]; rfl
theorem allOf_ok {o : ObjD} (hl : Lays o) : ∀ p ∈ allOf o, PartOK p := fun p hp => by
  unfold allOf at hp
  rcases List.mem_append.1 hp with hp | hp
  · exact partsOf_ok hl p hp
  · simp only [List.mem_singleton] at hp
    subst hp
    have ha := symNo_le hl
    have h6 := tab_small (headNames (partsOf o)) (by rw [headNames_length, partsOf_length]; omega) (headNames_ok hl)
    exact ⟨by show (tabOf _).tb.length ≤ _; omega, rfl, rfl, rfl, rfl, rfl, rfl, rfl, rfl, rfl⟩
theorem places_le {o : ObjD} (hl : Lays o) (i p : Nat) (h : (placesOf (headNames (partsOf o)))[i]? = some p) : p ≤ 330001 := by
  unfold placesOf at h
  rw [List.getElem?_map] at h
  obtain ⟨n, hn, rfl⟩ := Option.map_eq_some_iff.1 h
  have ha := symNo_le hl
  have h6 := tab_small (headNames (partsOf o)) (by rw [headNames_length, partsOf_length]; omega) (headNames_ok hl)
  have h7 := placeOf_le (headNames (partsOf o)) n (.inr (List.mem_of_getElem? hn))
  omega
theorem body_take {o : ObjD} (hl : Lays o) (i : Nat) : (bodyOf ((allOf o).take i)).length ≤ 50000000 := by
  have ha := symNo_le hl
  have h := body_len ((allOf o).take i) fun p hp => allOf_ok hl p (List.mem_of_mem_take hp)
  have h2 : ((allOf o).take i).length ≤ symNo o + 3 := by rw [← allOf_length]; simp; omega
  omega
theorem heads_may {o : ObjD} (hl : Lays o) (i : Nat) (p : PartD) (h : (allOf o)[i]? = some p) : (headAt (placesOf (headNames (partsOf o))) i (bodyOf ((allOf o).take i)).length p).may := by
  obtain ⟨h0, h1, h2, h3, h4, h5, h6, h7, h8, h9⟩ := allOf_ok hl p (List.mem_of_getElem? h)
  have hb := body_take hl i
  have hi : i < (placesOf (headNames (partsOf o))).length := by
    rw [placesOf_length', headNames_length, partsOf_length]
    have := (List.getElem?_eq_some_iff.1 h).1
    rw [allOf_length] at this
    omega
  have hpl := places_le hl i _ (List.getElem?_eq_getElem hi)
  intro x hx
  unfold headAt Ten.l at hx
  simp only [List.mem_cons, List.not_mem_nil, or_false] at hx
  rcases hx with rfl | rfl | rfl | rfl | rfl | rfl | rfl | rfl | rfl | rfl
  · refine fitsN _ ?_
    rw [List.getD_eq_getElem?_getD, List.getElem?_eq_getElem hi]
    simp only [Option.getD_some]
    omega
  · exact h1
  · exact h2
  · exact h3
  · split
    · exact h4
    · exact (fitsB_iff _).2 ⟨by omega, by omega⟩
  · split
    · exact h5
    · exact fitsN _ (by omega)
  · exact h6
  · exact h7
  · exact h8
  · exact h9
theorem bytesOf_eq (o : ObjD) : bytesOf o = hdrB (64 + (bodyOf (allOf o)).length) (allOf o).length ((allOf o).length - 1) ++ bodyOf (allOf o) ++ headsBy (placesOf (headNames (partsOf o))) (allOf o) (allOf o).length := rfl

end Go.Proofs.YtmcegjkkgbnjlaaGreat

namespace Go.Proofs.YtmcegjkkgbnjlaaGreat
open Go.RowKit

theorem Tryz.infoStr : (Tryz.prog.info? 9).map (fun i => (i.zero, i.size, i.bytes)) = some (some (.string ⟨#[]⟩), 1, 16) := by kernel_rfl
theorem HasS.of_owns {w : World} {base : Nat} {e : TypeId} {v : Value} {n : Nat} {xs : List ByteArray} (h : w.ownsRow base e 1 v n (xs.map Value.string)) :
    ∃ p c, v = .slice p n c ∧ n ≤ c ∧ c ≤ maxLen ∧ xs.length = n ∧ HasS w p xs := by
  have hl : xs.length = n := by have := h.1; simpa using this
  rcases h.2 with ⟨rfl, hn⟩ | ⟨g, cap, cur, rfl, _, hg, hnc, hcm, _, _⟩
  · subst hn
    have h0 : xs = [] := List.eq_nil_of_length_eq_zero hl
    subst h0
    exact ⟨none, 0, rfl, Nat.le_refl _, Nat.zero_le _, rfl, fun i x hx => by simp at hx⟩
  · refine ⟨some ⟨g, 0, none⟩, cap, rfl, hnc, hcm, hl, fun i x hx => ⟨_, rfl, ?_⟩⟩
    have hi : i < n := by have := (List.getElem?_eq_some_iff.1 hx).1; omega
    have hc := h.cellAt i (by omega)
    rw [List.getElem?_map, hx] at hc
    have ha : (⟨g, 0, none⟩ : Addr).add i = ⟨g, i, none⟩ := by unfold Addr.add; split <;> simp_all
    rw [ha]
    simpa using hc
theorem one_str (x : ByteArray) : ∀ u ∈ [Value.string x], u.oneCell' = true := fun u hu => by simp at hu; subst hu; rfl
theorem str_snoc (l : List ByteArray) (x : ByteArray) : l.map Value.string ++ [.string x] = (l ++ [x]).map Value.string := by simp
theorem cells6 (w : World) (g : Nat) (v0 v1 v2 v3 v4 v5 : Value) (T : TypeId) (h : w.heap[g]? = some (.cells #[v0, v1, v2, v3, v4, v5] T (0, 0))) :
    w.cell? ⟨g, 0, none⟩ = some v0 ∧ w.cell? ⟨g, 1, none⟩ = some v1 ∧ w.cell? ⟨g, 2, none⟩ = some v2 ∧ w.cell? ⟨g, 3, none⟩ = some v3 ∧ w.cell? ⟨g, 4, none⟩ = some v4 ∧ w.cell? ⟨g, 5, none⟩ = some v5 := by
  refine ⟨?_, ?_, ?_, ?_, ?_, ?_⟩ <;> exact (cell_of_row w g _ _ _ (0, 0) h).trans rfl
theorem heap_below {w w' : World} {g : Nat} {o : Obj} (hb : Below w.heap.size w w') (h : w.heap[g]? = some o) : w'.heap[g]? = some o := by
  rw [hb.block g (Array.getElem?_eq_some_iff.1 h).1]
  exact h
theorem heap_new (w : World) (o : Obj) : (w.alloc o).heap[w.heap.size]? = some o := heap_alloc_new w o
end Go.Proofs.YtmcegjkkgbnjlaaGreat

namespace Go.Proofs.YtmcegjkkgbnjlaaGreat
open Go.RowKit

theorem owns_belowN {w w' : World} {base s : Nat} {e : TypeId} {v : Value} {n : Nat} {xs : List Value} (h : w.ownsRow base e s v n xs) (hb : Below w.heap.size w w') : w'.ownsRow base e s v n xs :=
  h.kept (row := none) ⟨hb.os, hb.tape, hb.output, hb.size, fun k hk _ => hb.block k hk⟩ (by cases hv : v.ownBlock <;> simp)
theorem none_cap {w : World} {base n : Nat} {T : TypeId} {p : Option Addr} {c : Nat} {xs : List Value} (h : w.ownsRow base T 1 (.slice p n c) n xs) : p = none → c = 0 := fun hp => by
  subst hp
  rcases h.2 with ⟨h1, _⟩ | ⟨g, cap, cur, h1, _⟩ <;> simp at h1
  exact h1.2
def strsOf (l : List SymD) : List ByteArray := l.map SymD.name
theorem symIdx_yes {x : Int} (h : x = -1) : symIdx x = 65521 := if_pos h
theorem symIdx_no {x : Int} (h : ¬ x = -1) : symIdx x = x := if_neg h
theorem two_parts (wr : World) (o1 o2 : Obj) (cs : Array Value) (T : TypeId) (base : Nat) (hb : base ≤ wr.heap.size) (q : Bool) (pv : List PV) (hl : pv.length = 2) (hc : cs.toList = pvs q pv) :
    (((wr.alloc o1).alloc o2).alloc (.cells cs T)).ownsRow base T 12 (.slice (some ⟨wr.heap.size + 1 + 1, 0, none⟩) 2 2) 2 (pvs q pv) ∧ Below wr.heap.size wr (((wr.alloc o1).alloc o2).alloc (.cells cs T)) := by
  have hs : ((wr.alloc o1).alloc o2).heap.size = wr.heap.size + 1 + 1 := by simp
  constructor
  · rw [← hc, ← hs]
    refine World.ownsRow_lit _ cs 2 (by rw [hs]; omega) (by unfold maxLen; omega) ?_
    have : cs.toList.length = 24 := by rw [hc, pvs_length, hl]
    simpa using this
  · exact (((Below.refl _ wr).alloc (Nat.le_refl _) _).alloc (by simp) _).alloc (by rw [hs]; omega) _
theorem slice_form {w : World} {base n s : Nat} {T : TypeId} {v : Value} {xs : List Value} (h : w.ownsRow base T s v n xs) : ∃ p c, v = .slice p n c ∧ n ≤ c ∧ c ≤ maxLen ∧ (p = none → c = 0) := by
  rcases h.2 with ⟨rfl, rfl⟩ | ⟨g, cap, cur, rfl, _, _, hnc, hcm, _, _⟩
  · exact ⟨none, 0, rfl, Nat.le_refl _, Nat.zero_le _, fun _ => rfl⟩
  · exact ⟨_, _, rfl, hnc, hcm, fun h => by cases h⟩
theorem SlB.of_isL {w : World} {v : Value} {l : List UInt8} (h : IsL 1 EByte w v l) : SlB w (fun b => b < w.heap.size) v l := by
  obtain ⟨p, c, rfl, h1, h2, h3, h4⟩ := h
  refine ⟨p, c, rfl, h1, h2, h3, fun i x hx => ?_⟩
  obtain ⟨a, e, hc⟩ := h4.has i x hx
  have := World.block_lt_of_cell? w _ hc
  rw [block_of_add] at this
  exact ⟨a, e, hc, this⟩
theorem SlB.of_cells {w : World} {dp : Option Addr} {n c : Nat} {l : List UInt8} (h : HasL 1 EByte w dp l) (hn : l.length = n) (h1 : n ≤ c) (h2 : c ≤ maxLen) (h3 : dp = none → c = 0) : SlB w (fun b => b < w.heap.size) (.slice dp n c) l :=
  SlB.of_isL ⟨dp, c, by rw [hn], by omega, h2, h3, h⟩
theorem cells9 (w : World) (g : Nat) (v0 v1 v2 v3 v4 v5 v6 v7 v8 : Value) (T : TypeId) (h : w.heap[g]? = some (.cells #[v0, v1, v2, v3, v4, v5, v6, v7, v8] T (0, 0))) :
    w.cell? ⟨g, 0, none⟩ = some v0 ∧ w.cell? ⟨g, 1, none⟩ = some v1 ∧ w.cell? ⟨g, 2, none⟩ = some v2 ∧ w.cell? ⟨g, 3, none⟩ = some v3 ∧ w.cell? ⟨g, 4, none⟩ = some v4 ∧ w.cell? ⟨g, 5, none⟩ = some v5 ∧ w.cell? ⟨g, 6, none⟩ = some v6 ∧ w.cell? ⟨g, 7, none⟩ = some v7 ∧ w.cell? ⟨g, 8, none⟩ = some v8 := by
  refine ⟨?_, ?_, ?_, ?_, ?_, ?_, ?_, ?_, ?_⟩ <;> exact (cell_of_row w g _ _ _ (0, 0) h).trans rfl
/-- A list of parts more, behind 'append(l, f(..)...)'. -/
theorem join_parts {wr w2 w4 : World} {base : Nat} {T : TypeId} {q : Bool} {v v1 v2 : Value} {pv pv2 : List PV} {pd pd2 : List PartD} {N n : Nat}
    (hpa : PartsAt wr (fun b => 0 ≤ b ∧ some b ≠ v.ownBlock) pv pd) (hb : Below wr.heap.size wr w2) (hs : PartsAt w2 (fun b => N ≤ b ∧ some b ≠ v2.ownBlock) pv2 pd2) (hlt : ∀ g, v.ownBlock = some g → g < N)
    (hown4 : w4.ownsRow base T 12 v1 n (pvs q pv ++ pvs q pv2)) (hn : n = pd.length + pd2.length) (hg : w2.grownBy w4 v.ownBlock) (hat : v1.ownBlock = v.ownBlock ∨ v1.ownBlock = some w2.heap.size) :
    w4.ownsRow base T 12 v1 (pd ++ pd2).length (pvs q (pv ++ pv2)) ∧ PartsAt w4 (fun b => 0 ≤ b ∧ some b ≠ v1.ownBlock) (pv ++ pv2) (pd ++ pd2) := by
  subst hn
  refine ⟨by rw [pvs_append, List.length_append]; exact hown4, ?_⟩
  refine ((hpa.below hb).append (hs.weaken fun b _ h => ⟨by omega, fun he => ?_⟩)).grown hg hat
  have := hlt b he.symm
  omega
theorem ne_step1 {A B A' : Option Nat} {N : Nat} (h : ∀ b, A = some b → B ≠ some b) (hB : ∀ b, B = some b → b < N) (hat : A' = A ∨ A' = some N) : ∀ b, A' = some b → B ≠ some b := fun b hb he => by
  rcases hat with rfl | rfl
  · exact h b hb he
  · have h1 := hB b he
    have h2 := Option.some.inj hb
    omega
theorem ne_step2 {A B B' : Option Nat} {N : Nat} (h : ∀ b, A = some b → B ≠ some b) (hA : ∀ b, A = some b → b < N) (hat : B' = B ∨ B' = some N) : ∀ b, A = some b → B' ≠ some b := fun b hb he => by
  rcases hat with rfl | rfl
  · exact h b hb he
  · have h1 := hA b hb
    have h2 := Option.some.inj he
    omega
theorem ne_or {A B : Option Nat} (h : ∀ b, A = some b → B ≠ some b) : B = none ∨ B ≠ A := by
  cases hB : B with
  | none => exact .inl rfl
  | some b => exact .inr fun e => h b e.symm hB
theorem cnd_yes {i : Nat} {t : Int} {f b E : Int} {c : Bool} (hc : (decide (0 < i) && !decide (t = 8)) = c) (hE : (if i = 0 ∨ t = 8 then f else b) = E) : E = bif c then b else f := by
  subst hc hE
  by_cases h0 : i = 0
  · subst h0; simp
  · by_cases h8 : t = 8
    · subst h8; simp
    · rw [if_neg (by simp [h0, h8])]
      have : 0 < i := by omega
      simp [this, h8]
theorem own_ne {w : World} {base s n : Nat} {T : TypeId} {v v2 : Value} {xs : List Value} (h : w.ownsRow base T s v n xs) (hlt : ∀ b, v2.ownBlock = some b → b < base) : v.ownBlock = none ∨ v.ownBlock ≠ v2.ownBlock := by
  cases hv : v.ownBlock with
  | none => exact .inl rfl
  | some b =>
    refine .inr fun e => ?_
    have h1 := (h.lt b hv).1
    have h2 := hlt b e.symm
    omega
theorem cells_ten (w : World) (g : Nat) (v0 v1 v2 v3 v4 v5 v6 v7 v8 v9 : Value) (T : TypeId) (h : w.heap[g]? = some (.cells #[v0, v1, v2, v3, v4, v5, v6, v7, v8, v9] T (0, 0))) :
    w.cell? ⟨g, 0, none⟩ = some v0 ∧ w.cell? ⟨g, 1, none⟩ = some v1 ∧ w.cell? ⟨g, 2, none⟩ = some v2 ∧ w.cell? ⟨g, 3, none⟩ = some v3 ∧ w.cell? ⟨g, 4, none⟩ = some v4 ∧ w.cell? ⟨g, 5, none⟩ = some v5 ∧ w.cell? ⟨g, 6, none⟩ = some v6 ∧ w.cell? ⟨g, 7, none⟩ = some v7 ∧ w.cell? ⟨g, 8, none⟩ = some v8 ∧ w.cell? ⟨g, 9, none⟩ = some v9 := by
  refine ⟨?_, ?_, ?_, ?_, ?_, ?_, ?_, ?_, ?_, ?_⟩ <;> exact (cell_of_row w g _ _ _ (0, 0) h).trans rfl
/-- A part of a row of parts, with all its cells. -/
theorem part_at {w : World} {base n : Nat} {T : TypeId} {p0 : Option Addr} {c0 : Nat} {q : Bool} {pv : List PV} {pd : List PartD} {K : Nat → Prop} (h : w.ownsRow base T 12 (.slice p0 n c0) n (pvs q pv)) (hpa : PartsAt w K pv pd) (hn : pd.length = n) {k : Nat} (hk : k < n) :
    ∃ (g : Nat) (p : PV) (y : PartD), p0 = some ⟨g, 0, none⟩ ∧ pd[k]? = some y ∧ p.h = y.h ∧ p.name = y.name ∧ SlB w K p.v y.b ∧ ∀ j, j < 12 → w.cell? ⟨g, k * 12 + j, none⟩ = (p.cells q)[j]? := by
  rcases h.2 with ⟨_, h0⟩ | ⟨g, cap, cur, he, _, _, _, _, _, _⟩
  · omega
  · simp only [Value.slice.injEq] at he
    obtain ⟨rfl, _, rfl⟩ := he
    have hkd : k < pd.length := by omega
    have hkv : k < pv.length := by rw [hpa.1]; exact hkd
    obtain ⟨h1, h2, h3⟩ := hpa.2 k _ _ (List.getElem?_eq_getElem hkv) (List.getElem?_eq_getElem hkd)
    refine ⟨g, pv[k], pd[k], rfl, List.getElem?_eq_getElem hkd, h1, h2, h3, fun j hj => ?_⟩
    rw [h.cellAt (k * 12 + j) (by omega)]
    exact pvs_get q pv k _ j (List.getElem?_eq_getElem hkv) hj
/-- append(l, x...) of two rows of the call's own. -/
theorem wpList_append_rows {P : Program} (w : World) {ops : Array Oper} {rest : List Oper} {o : Oper} {a : Act} {Q : Exit → Act → World → Prop} (hgd : o.guard = none) (s x : Operand) (t : TypeId)
    (ho : o.op = .call { callee := .builtin .append, args := #[s, x], argTypes := #[t, t] })
    (base : Nat) (e : TypeId) (i : TypeInfo) (z : Value) (size bytes : Nat) (ht : P.underlying t = some (.slice e)) (hi : P.info? e = some i) (hz : i.zero = some z)
    (hsize : i.size = size) (hby : i.bytes = bytes) (hzs : z.cells.size = size) (hsz : 0 < size)
    (v : Value) (n : Nat) (xs : List Value) (hes : a.eval s = v) (hown : w.ownsRow base e size v n xs) (v2 : Value) (m : Nat) (ys : List Value) (hex : a.eval x = v2) (b2 : Nat) (hown2 : w.ownsRow b2 e size v2 m ys) (h1 : ∀ u ∈ ys, u.oneCell' = true)
    (h63 : n + m ≤ maxLen) (hbytes : (n + m) * bytes ≤ 140737488355328) (hbase : base ≤ w.heap.size)
    (h : ∀ v' w', w'.ownsRow base e size v' (n + m) (xs ++ ys) → w.grownBy w' v.ownBlock → (v'.ownBlock = v.ownBlock ∨ v'.ownBlock = some w.heap.size) → wpList P ops Q rest (a.put o.dst v') w') : wpList P ops Q (o :: rest) a w := by
  rcases hown2.2 with ⟨rfl, hm⟩ | ⟨g, cap, cur, rfl, _, _, _, _, _, _⟩
  · subst hm
    obtain rfl : ys = [] := List.eq_nil_of_length_eq_zero (by simpa using hown2.1)
    exact wpList_append_own_none hgd s x t ho base e i size ht hi v n _ hes hown hex (h v w (by simpa using hown) (World.grownBy.refl w _) (.inl rfl))
  · exact wpList_append_own_at w hgd s x t ho base e i z size bytes ht hi hz hsize hby hzs hsz v n _ hes hown ⟨g, 0, none⟩ m cap ys hex hown2.1 (hown2.cells (g := g) rfl) h1 h63 hbytes hbase
      fun v' w' k1 k2 _ k4 => h v' w' k1 k2 k4
end Go.Proofs.YtmcegjkkgbnjlaaGreat
