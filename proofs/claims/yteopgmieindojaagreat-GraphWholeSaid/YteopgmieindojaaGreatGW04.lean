/-
  Parts of a proof.
-/
import Derived.Test.YteopgmieindojaaGreatGW03
import Derived.Deep.QuietTactic
import Derived.BigQuiet
import Derived.Deep.DeepCutAuto
import Derived.Test.YteopgmieindojaaGreatWords
import Derived.Test.YteopgmieindojaaGreatMem
namespace Go.Proofs.YteopgmieindojaaGreat
open Go.RowKit
structure Six where
 (a b c d e f : Int)
abbrev Six.v (t : Six) : Value := .agg #[.int .i64 t.a, .int .i64 t.b, .int .i64 t.c, .int .i64 t.d, .int .i64 t.e, .int .i64 t.f]
def Six.nums (t : Six) : List Int := [t.a, 4, 16 * t.b + t.c, 1, 0, 1, t.d, 2, t.e, 8, t.f, 8]
def entB (t : Six) : List UInt8 := numsB t.nums
def Six.may (t : Six) : Prop := fitsB t.a = true ∧ fitsB t.e = true ∧ fitsB t.f = true ∧ 0 ≤ t.b ∧ t.b ≤ 2 ∧ 0 ≤ t.c ∧ t.c ≤ 3 ∧ 0 ≤ t.d ∧ t.d ≤ 65535
instance (t : Six) : Decidable t.may := by unfold Six.may; infer_instance
theorem entB_length (t : Six) : (entB t).length = 24 := rfl
end Go.Proofs.YteopgmieindojaaGreat

namespace Go.Proofs.YteopgmieindojaaGreat
open Go.RowKit
def widthI (n : Int) : Int := if n = 1 then 8 else if n = 2 ∨ n = 4 ∨ n = 10 ∨ n = 11 then 4 else 0
structure Fou where
 (a b c d : Int)
abbrev Fou.v (t : Fou) : Value := .agg #[.int .i64 t.a, .int .i64 t.b, .int .i64 t.c, .int .i64 t.d]
def Fou.nums (t : Fou) : List Int := [t.a, 8, t.b, 4, t.c, 4, t.d, 8]
def relB (t : Fou) : List UInt8 := numsB t.nums
def Fou.may (t : Fou) : Prop := fitsB t.a = true ∧ fitsB t.c = true ∧ 0 < widthI t.b
instance (t : Fou) : Decidable t.may := by unfold Fou.may; infer_instance
theorem relB_length (t : Fou) : (relB t).length = 24 := rfl
theorem widthI_pos {n : Int} (h : 0 < widthI n) : n = 1 ∨ n = 2 ∨ n = 4 ∨ n = 10 ∨ n = 11 := by
 unfold widthI at h
 split at h
 ·omega
 ·split at h
  ·omega
  ·omega
end Go.Proofs.YteopgmieindojaaGreat

namespace Go.Proofs.YteopgmieindojaaGreat
open Go.RowKit
abbrev RelD.fou (r : RelD) : Fou := ⟨r.off, r.type, r.sym, r.add⟩
def relOK (syms dl : Nat) (r : RelD) : Bool := decide r.fou.may && (decide (r.sym < (syms : Int)) && decide (r.off + widthI r.type ≤ (dl : Int)))
def relBehind (p r : RelD) : Bool := decide (p.off + widthI p.type ≤ r.off)
def behindB (rs : List RelD) : Nat → RelD → Bool
 | 0, _ => true
 | j + 1, r => match rs[j]? with
  | none => true
  | some p => relBehind p r
def relAtB (syms dl : Nat) (rs : List RelD) (i : Nat) : Bool := match rs[i]? with
 | none => true
 | some r => relOK syms dl r && behindB rs i r
def relsB (syms dl : Nat) (rs : List RelD) : Bool := decide (rs.length ≤ 64) && (List.range rs.length).all (relAtB syms dl rs)
theorem relAtB_of {syms dl : Nat} {rs : List RelD} {i : Nat} {r : RelD} (h : rs[i]? = some r) : relAtB syms dl rs i = (relOK syms dl r && behindB rs i r) := by
 unfold relAtB
 rw [h]
theorem cells_two (w : World) (cs1 cs2 : Array Value) (t1 t2 : TypeId) : (∀ i, ((w.alloc (.cells cs1 t1)).alloc (.cells cs2 t2)).cell? ⟨w.heap.size, i, none⟩ = cs1[i]?) ∧ (∀ i, ((w.alloc (.cells cs1 t1)).alloc (.cells cs2 t2)).cell? ⟨w.heap.size + 1, i, none⟩ = cs2[i]?) := by
 have hs : (w.alloc (.cells cs1 t1)).heap.size = w.heap.size + 1 := by simp
 constructor
 ·intro i
  have hn : ((w.alloc (.cells cs1 t1)).alloc (.cells cs2 t2)).heap[w.heap.size]? = some (.cells cs1 t1 (0, 0)) := by
   rw [Below.heap_alloc _ _ _ (by rw [hs]; omega)]
   exact heap_alloc_new w _
  exact cell_of_row _ w.heap.size i cs1 t1 (0, 0) hn
 ·intro i
  have hn := heap_alloc_new (w.alloc (.cells cs1 t1)) (.cells cs2 t2)
  rw [hs] at hn
  exact cell_of_row _ (w.heap.size + 1) i cs2 t2 (0, 0) hn
theorem widthI_bd (n : Int) : 0 ≤ widthI n ∧ widthI n ≤ 8 := by
 unfold widthI
 split
 ·omega
 ·split <;> omega
end Go.Proofs.YteopgmieindojaaGreat

namespace Go.Proofs.YteopgmieindojaaGreat
open Go.RowKit
abbrev Nm := List UInt8
def mayB (l : Nm) : Bool := decide (l.length ≤ 32) && l.all (fun x => x != 0)
def look (e : List (Nm × Nat)) (n : Nm) : Option Nat := (e.find? fun x => x.1 == n).map (·.2)
structure Tab where
 tb : List UInt8
 env : List (Nm × Nat)
def tab0 : Tab := ⟨[0], [([], 0)]⟩
def tabStep (t : Tab) (n : Nm) : Tab :=
 match look t.env n with
 | some _ => t
 | none => ⟨t.tb ++ (n ++ [0]), t.env ++ [(n, t.tb.length)]⟩
def tabOf (ns : List Nm) : Tab := ns.foldl tabStep tab0
def placeOf (ns : List Nm) (n : Nm) : Nat := (look (tabOf ns).env n).getD 0
def placesOf (ns : List Nm) : List Nat := ns.map (placeOf ns)
theorem tabOf_snoc (ns : List Nm) (n : Nm) : tabOf (ns ++ [n]) = tabStep (tabOf ns) n := by simp [tabOf]
theorem look_append (e f : List (Nm × Nat)) (n : Nm) : look (e ++ f) n = (look e n).or (look f n) := by
 unfold look
 rw [List.find?_append]
 cases List.find? (fun x => x.1 == n) e <;> simp
theorem look_step_some {t : Tab} {n m : Nm} {p : Nat} (h : look t.env m = some p) : look (tabStep t n).env m = some p := by
 unfold tabStep
 split
 ·exact h
 ·simp only [look_append, h, Option.some_or]
theorem look_step_self (t : Tab) (n : Nm) : look (tabStep t n).env n = some ((look t.env n).getD t.tb.length) := by
 unfold tabStep
 split
 ·rename_i p hp
  rw [hp]
  rfl
 ·rename_i hp
  simp only [look_append, hp, Option.none_or]
  simp [look]
theorem look_step_other {t : Tab} {n m : Nm} (hm : m ≠ n) : look (tabStep t n).env m = look t.env m := by
 unfold tabStep
 split
 ·rfl
 ·rw [look_append]
  have : look [(n, t.tb.length)] m = none := by
   have : (n == m) = false := by simpa using Ne.symm hm
   simp [look, List.find?, this]
  rw [this, Option.or_none]
theorem snoc_ind {α : Type} {P : List α → Prop} (h0 : P []) (hs : ∀ l x, P l → P (l ++ [x])) (l : List α) : P l := by
 have h : ∀ r : List α, P r.reverse := fun r => by
  induction r with
  | nil => exact h0
  | cons x r ih => rw [List.reverse_cons]; exact hs _ _ ih
 simpa using h l.reverse
theorem look_iff (ns : List Nm) (m : Nm) : look (tabOf ns).env m = none ↔ m ≠ [] ∧ m ∉ ns := by
 induction ns using snoc_ind with
 | h0 =>
  cases m with
  | nil => simp [tabOf, tab0, look]
  | cons x r => simp [tabOf, tab0, look, List.find?]
 | hs ns n ih =>
  rw [tabOf_snoc]
  by_cases hm : m = n
  ·subst hm
   rw [look_step_self]
   simp
  ·rw [look_step_other hm, ih]
   simp [hm]
theorem look_mem {ns : List Nm} {m : Nm} (h : m = [] ∨ m ∈ ns) : ∃ p, look (tabOf ns).env m = some p := by
 cases hl : look (tabOf ns).env m with
 | some p => exact ⟨p, rfl⟩
 | none =>
  have := (look_iff ns m).1 hl
  rcases h with h | h
  ·exact absurd h this.1
  ·exact absurd h this.2
theorem placeOf_old {ns : List Nm} {m : Nm} (n : Nm) (h : m = [] ∨ m ∈ ns) : placeOf (ns ++ [n]) m = placeOf ns m := by
 obtain ⟨p, hp⟩ := look_mem h
 unfold placeOf
 rw [tabOf_snoc, look_step_some hp, hp]
theorem placesOf_snoc (ns : List Nm) (n : Nm) : placesOf (ns ++ [n]) = placesOf ns ++ [placeOf (ns ++ [n]) n] := by
 unfold placesOf
 rw [List.map_append]
 congr 1
 exact List.map_congr_left fun m hm => placeOf_old n (.inr hm)
theorem tab_old {ns : List Nm} {n : Nm} (h : n = [] ∨ n ∈ ns) : tabOf (ns ++ [n]) = tabOf ns ∧ placeOf (ns ++ [n]) n = placeOf ns n := by
 obtain ⟨p, hp⟩ := look_mem h
 refine ⟨?_, placeOf_old n h⟩
 rw [tabOf_snoc]
 simp only [tabStep, hp]
theorem tab_new {ns : List Nm} {n : Nm} (h0 : n ≠ []) (h : n ∉ ns) : (tabOf (ns ++ [n])).tb = (tabOf ns).tb ++ (n ++ [0]) ∧ placeOf (ns ++ [n]) n = (tabOf ns).tb.length := by
 have hp := (look_iff ns n).2 ⟨h0, h⟩
 constructor
 ·rw [tabOf_snoc]
  simp only [tabStep, hp]
 ·unfold placeOf
  rw [tabOf_snoc, look_step_self, hp]
  rfl
theorem placeOf_nil (ns : List Nm) : placeOf ns [] = 0 := by
 induction ns using snoc_ind with
 | h0 => rfl
 | hs ns n ih => rw [placeOf_old n (.inl rfl), ih]
theorem stands (ns : List Nm) (m : Nm) (h : m = [] ∨ m ∈ ns) : ∃ r, (tabOf ns).tb.drop (placeOf ns m) = m ++ 0 :: r := by
 induction ns using snoc_ind with
 | h0 =>
  rcases h with rfl | h
  ·exact ⟨[], rfl⟩
  ·simp at h
 | hs ns n ih =>
  by_cases ho : m = [] ∨ m ∈ ns
  ·obtain ⟨r, hr⟩ := ih ho
   rw [placeOf_old n ho]
   have hl : placeOf ns m < (tabOf ns).tb.length := by
    have := congrArg List.length hr
    simp at this
    omega
   by_cases hn : n = [] ∨ n ∈ ns
   ·rw [(tab_old hn).1]
    exact ⟨r, hr⟩
   ·obtain ⟨h1, h2⟩ := not_or.1 hn
    rw [(tab_new h1 h2).1, List.drop_append_of_le_length (by omega), hr]
    exact ⟨r ++ (n ++ [0]), by simp⟩
  ·obtain ⟨h1, h2⟩ := not_or.1 ho
   have hmn : m = n := by
    rcases h with h | h
    ·exact absurd h h1
    ·rcases List.mem_append.1 h with h | h
     ·exact absurd h h2
     ·simpa using h
   subst hmn
   rw [(tab_new h1 h2).1, (tab_new h1 h2).2, List.drop_left]
   exact ⟨[], rfl⟩
theorem all_ne {n : Nm} (h : mayB n = true) : n.length ≤ 32 ∧ ∀ x ∈ n, x ≠ 0 := by
 simp only [mayB, Bool.and_eq_true, decide_eq_true_eq, List.all_eq_true, bne_iff_ne] at h
 exact h
theorem tab_length (ns : List Nm) : (tabOf ns).tb.length ≤ 33 * ns.length + 1 ∨ ∃ n ∈ ns, mayB n = false := by
 induction ns using snoc_ind with
 | h0 => exact .inl (Nat.le_refl _)
 | hs ns n ih =>
  rcases ih with ih | ⟨m, hm, h⟩
  ·cases hn : mayB n with
   | false => exact .inr ⟨n, by simp, hn⟩
   | true =>
    have h32 := (all_ne hn).1
    by_cases ho : n = [] ∨ n ∈ ns
    ·rw [(tab_old ho).1]
     exact .inl (by simp; omega)
    ·obtain ⟨h1, h2⟩ := not_or.1 ho
     rw [(tab_new h1 h2).1]
     exact .inl (by simp; omega)
  ·exact .inr ⟨m, by simp [hm], h⟩
end Go.Proofs.YteopgmieindojaaGreat

namespace Go.Proofs.YteopgmieindojaaGreat
open Go.RowKit
theorem mayB_long {l : Nm} (h : 32 < l.length) : mayB l = false := by simp [mayB]; omega
theorem mayB_zero {l : Nm} {k : Nat} (h : l[k]? = some 0) : mayB l = false := by
 have := List.mem_of_getElem? h
 simp only [mayB, Bool.and_eq_false_iff]
 exact .inr (by rw [List.all_eq_false]; exact ⟨0, this, by simp⟩)
theorem mayB_yes {l : Nm} (h : l.length ≤ 32) (hb : ∀ i y, i < l.length → l[i]? = some y → y ≠ 0) : mayB l = true := by
 simp only [mayB, Bool.and_eq_true, decide_eq_true_eq, List.all_eq_true, bne_iff_ne]
 exact ⟨h, fun x hx => by
  obtain ⟨i, hi⟩ := List.getElem?_of_mem hx
  exact hb i x (List.getElem?_eq_some_iff.1 hi).1 hi⟩
end Go.Proofs.YteopgmieindojaaGreat
