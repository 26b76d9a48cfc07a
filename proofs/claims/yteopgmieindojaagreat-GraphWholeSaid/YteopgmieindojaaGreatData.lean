/-
  Slices of whatever elements, and structs of fields of one cell, among a row's arguments: what they hold in a world, and how they are opened. It names nothing of the program.
-/
import Derived.Test.YteopgmieindojaaGreatWords
import Derived.Deep.Slices
import Derived.Deep.Fields
import Derived.ChangeArms
import Derived.ShutString
namespace Go.Proofs.YteopgmieindojaaGreat
open Go.ChangeShapes Go.WideShapes Go.RowKit Go.Deep

/-- Behind the address p lie the elements xs, each of k cells, each as E tells at its place. -/
def HasL {α : Type} (k : Nat) (E : World → Nat → Nat → α → Prop) (w : World) (p : Option Addr) (xs : List α) : Prop :=
  ∀ i x, xs[i]? = some x → ∃ b off, p = some ⟨b, off, none⟩ ∧ E w b (off + i * k) x
/-- v is a slice of them. -/
def IsL {α : Type} (k : Nat) (E : World → Nat → Nat → α → Prop) (w : World) (v : Value) (xs : List α) : Prop :=
  ∃ p c, v = .slice p xs.length c ∧ xs.length ≤ c ∧ c ≤ maxLen ∧ (p = none → c = 0) ∧ HasL k E w p xs
/-- What stands below the heap's end stays. -/
def Keeps {α : Type} (E : World → Nat → Nat → α → Prop) : Prop := ∀ w w' b o x, Below w.heap.size w w' → E w b o x → E w' b o x
theorem HasL.below {α : Type} {k : Nat} {E : World → Nat → Nat → α → Prop} (hE : Keeps E) {w w' : World} {p : Option Addr} {xs : List α} (hb : Below w.heap.size w w') (h : HasL k E w p xs) : HasL k E w' p xs := fun i x hx => by
  obtain ⟨b, off, e, hx⟩ := h i x hx
  exact ⟨b, off, e, hE _ _ _ _ _ hb hx⟩
theorem IsL.below {α : Type} {k : Nat} {E : World → Nat → Nat → α → Prop} (hE : Keeps E) {w w' : World} {v : Value} {xs : List α} (hb : Below w.heap.size w w') (h : IsL k E w v xs) : IsL k E w' v xs := by
  obtain ⟨p, c, e, h1, h2, h3, h4⟩ := h
  exact ⟨p, c, e, h1, h2, h3, h4.below hE hb⟩
theorem keep_cell {w w' : World} {a : Addr} {v : Value} (hb : Below w.heap.size w w') (h : w.cell? a = some v) : w'.cell? a = some v := (hb.cell (World.block_lt_of_cell? w a h)).trans h
theorem HasL.at_ {α : Type} {k : Nat} {E : World → Nat → Nat → α → Prop} {w : World} {p : Option Addr} {xs : List α} (h : HasL k E w p xs) {i : Nat} (hi : i < xs.length) :
    ∃ b off x, p = some ⟨b, off, none⟩ ∧ xs[i]? = some x ∧ E w b (off + i * k) x := by
  obtain ⟨b, off, e, hx⟩ := h i xs[i] (List.getElem?_eq_getElem hi)
  exact ⟨b, off, xs[i], e, List.getElem?_eq_getElem hi, hx⟩

/-! ## Elements -/
def EInt (w : World) (b o : Nat) (x : Int) : Prop := w.cell? ⟨b, o, none⟩ = some (.int .i64 x) ∧ -9223372036854775808 ≤ x ∧ x ≤ 9223372036854775807
def EByte (w : World) (b o : Nat) (x : UInt8) : Prop := w.cell? ⟨b, o, none⟩ = some (.int .u8 (x.toNat : Int))
def EStr (w : World) (b o : Nat) (x : ByteArray) : Prop := w.cell? ⟨b, o, none⟩ = some (.string x) ∧ x.size ≤ maxLen
theorem EInt.keeps : Keeps EInt := fun _ _ _ _ _ hb h => ⟨keep_cell hb h.1, h.2⟩
theorem EByte.keeps : Keeps EByte := fun _ _ _ _ _ hb h => keep_cell hb h
theorem EStr.keeps : Keeps EStr := fun _ _ _ _ _ hb h => ⟨keep_cell hb h.1, h.2⟩
theorem HasL.has {w : World} {p : Option Addr} {l : List UInt8} (h : HasL 1 EByte w p l) : Has w p l := fun i x hx => by
  obtain ⟨b, off, rfl, hc⟩ := h i x hx
  refine ⟨_, rfl, ?_⟩
  have ha : (⟨b, off, none⟩ : Addr).add i = ⟨b, off + i, none⟩ := by unfold Addr.add; split <;> simp_all
  rw [ha]
  have hc' : w.cell? ⟨b, off + i * 1, none⟩ = some (.int .u8 (x.toNat : Int)) := hc
  rwa [Nat.mul_one] at hc'

/-! ## Opening -/
section
variable {H : Type} {enc : TypeId × Value → H} {P : Program} {w : World} {base : Nat} {spare : Nat → Bool} {held : Bool}

/-- An element of type e, of k cells, reads as E tells, wherever it lies. -/
def OpensE {α : Type} (enc : TypeId × Value → H) (P : Program) (w : World) (base : Nat) (spare : Nat → Bool) (held : Bool) (k : Nat) (e : TypeId) (E : World → Nat → Nat → α → Prop) : Prop :=
  ∀ (n b o : Nat) (cs : List Value) (x : DataW H × List MemPlace), cs.length = k → (∀ j, j < k → w.cell? ⟨b, o + j, none⟩ = cs[j]?) → DataW.trod enc P w base spare held n e cs = some x → ∃ y : α, E w b o y

theorem open_L {α : Type} {k : Nat} {E : World → Nat → Nat → α → Prop} {t e : TypeId} {fuel : Nat} {v : Value} {x : DataW H × List MemPlace} (ht : P.underlying t = some (.slice e)) (hk : P.cellsOf e = k) (h1 : 0 < k)
    (hE : OpensE enc P w base spare held k e E) (h : DataW.trod enc P w base spare held fuel t [v] = some x) : ∃ xs : List α, IsL k E w v xs := by
  rcases open_slice ht h with ⟨hcs, _⟩ | ⟨a, len, cap, m, n, D, Pl, hcs, _, hl, hm, hmm, _, hi⟩
  · simp only [List.cons.injEq, and_true] at hcs
    exact ⟨[], none, 0, hcs, Nat.le_refl _, Nat.zero_le _, fun _ => rfl, fun i x hx => by simp at hx⟩
  · simp only [List.cons.injEq, and_true] at hcs
    have hlm : len ≤ m := by rw [hmm]; split <;> omega
    obtain ⟨b, off, spot⟩ := a
    by_cases h0 : len = 0
    · subst h0
      exact ⟨[], _, _, hcs, Nat.zero_le _, hm, (fun h => by cases h), fun i x hx => by simp at hx⟩
    have hsp : spot = none := by
      obtain ⟨cs', hc, _⟩ := hi 0 (by omega)
      obtain ⟨_, hlen, hat⟩ := World.cells?_some hc
      have := hat 0 (by omega)
      rw [List.getElem?_eq_getElem (by omega)] at this
      simpa [Addr.add] using World.cell?_spot this
    subst hsp
    have hall : ∀ i, i < len → ∃ y : α, E w b (off + i * k) y := fun i hil => by
      obtain ⟨cs', hc, ht'⟩ := hi i (by omega)
      obtain ⟨_, hlen, hat⟩ := World.cells?_some hc
      rw [hk] at hlen hat
      refine hE n b (off + i * k) cs' _ hlen (fun j hj => ?_) ht'
      rw [← hat j hj]
      congr 1
      unfold Addr.add
      by_cases hz : i * k = 0 <;> by_cases hz2 : j = 0 <;> simp [hz, hz2, Nat.add_assoc]
    have : ∀ n, n ≤ len → ∃ xs : List α, xs.length = n ∧ ∀ i x, xs[i]? = some x → E w b (off + i * k) x := fun n => by
      induction n with
      | zero => exact fun _ => ⟨[], rfl, fun i x hx => by simp at hx⟩
      | succ n ih =>
        intro hn
        obtain ⟨xs, hl, hx⟩ := ih (by omega)
        obtain ⟨y, hy⟩ := hall n (by omega)
        refine ⟨xs ++ [y], by simp [hl], fun i x hix => ?_⟩
        rw [List.getElem?_append] at hix
        split at hix
        · exact hx i x hix
        · have hi0 : i - xs.length = 0 := by
            have := (List.getElem?_eq_some_iff.1 hix).1
            simp at this
            omega
          rw [hi0] at hix
          simp at hix
          subst hix
          rw [show i = n by omega]
          exact hy
    obtain ⟨xs, hxl, hxs⟩ := this len (Nat.le_refl _)
    exact ⟨xs, some ⟨b, off, none⟩, cap, by rw [hxl]; exact hcs, by omega, hm, (fun h => by cases h), fun i x hx => ⟨b, off, rfl, hxs i x hx⟩⟩

/-- A struct of fields of one cell: each field's cell reads. -/
theorem open_fields {t : TypeId} {fs : Array Field} {fuel : Nat} {cs : List Value} {x : DataW H × List MemPlace} (hs : P.underlying t = some (.struct fs)) (hone : oneCellFields P fs = true) (hC : P.cellsOf t = fs.size)
    (h : DataW.trod enc P w base spare held fuel t cs = some x) :
    cs.length = fs.size ∧ ∃ n, ∀ (j : Nat) (f : Field), fs[j]? = some f → ∃ (v : Value) (y : DataW H × List MemPlace), cs[j]? = some v ∧ DataW.trod enc P w base spare held n f.type [v] = some y := by
  obtain ⟨ys, n, _, _, hlen, hyl, hf⟩ := DataW.trod_struct hs h
  rw [hC] at hlen
  refine ⟨hlen, n, fun j f hj => ?_⟩
  obtain ⟨ho, hk⟩ := hone_of hone j f hj
  have hjl : j < fs.size := (Array.getElem?_eq_some_iff.1 hj).1
  have h1 := hf j f hj
  rw [ho, hk] at h1
  have hone' : (cs.drop j).take 1 = [cs[j]'(by omega)] := by
    rw [List.drop_eq_getElem_cons (by omega)]
    rfl
  rw [hone'] at h1
  exact ⟨_, _, List.getElem?_eq_getElem (by omega), h1.trans (List.getElem?_eq_getElem (by omega))⟩

theorem wf_i64 {n : Int} (h : (Lit.int .i64 n).wf = true) : -9223372036854775808 ≤ n ∧ n ≤ 9223372036854775807 := by
  simpa [Lit.wf, IntKind.min, IntKind.max, IntKind.signed, IntKind.bits] using h
theorem wf_u8 {n : Int} (h : (Lit.int .u8 n).wf = true) : 0 ≤ n ∧ n ≤ 255 := by
  simpa [Lit.wf, IntKind.min, IntKind.max, IntKind.signed, IntKind.bits] using h
theorem read_int {t : TypeId} {n : Nat} {v : Value} {y : DataW H × List MemPlace} (ht : P.underlying t = some (.int .i64)) (h : DataW.trod enc P w base spare held n t [v] = some y) :
    ∃ x : Int, v = .int .i64 x ∧ -9223372036854775808 ≤ x ∧ x ≤ 9223372036854775807 := by
  obtain ⟨x, hx, _, hw⟩ := DataW.trod_int ht h
  simp only [List.cons.injEq, and_true] at hx
  exact ⟨x, hx, wf_i64 hw⟩
theorem read_str {t : TypeId} {n : Nat} {v : Value} {y : DataW H × List MemPlace} (ht : P.underlying t = some .string) (h : DataW.trod enc P w base spare held n t [v] = some y) :
    ∃ s : ByteArray, v = .string s ∧ s.size ≤ maxLen := by
  obtain ⟨s, hs, _, hz⟩ := DataW.trod_string ht h
  simp only [List.cons.injEq, and_true] at hs
  exact ⟨s, hs, hz⟩
theorem read_bool {t : TypeId} {n : Nat} {v : Value} {y : DataW H × List MemPlace} (ht : P.underlying t = some .bool) (h : DataW.trod enc P w base spare held n t [v] = some y) : ∃ b : Bool, v = .bool b := by
  obtain ⟨b, hb, _⟩ := DataW.trod_bool ht h
  simp only [List.cons.injEq, and_true] at hb
  exact ⟨b, hb⟩
theorem opens_int {e : TypeId} (he : P.underlying e = some (.int .i64)) : OpensE enc P w base spare held 1 e EInt := fun n b o cs x hl hc h => by
  match cs, hl with
  | [v], _ =>
    obtain ⟨x, rfl, hx⟩ := read_int he h
    exact ⟨x, by simpa using hc 0 (by omega), hx⟩
theorem opens_byte {e : TypeId} (he : P.underlying e = some (.int .u8)) : OpensE enc P w base spare held 1 e EByte := fun n b o cs x hl hc h => by
  match cs, hl with
  | [v], _ =>
    obtain ⟨x, hx, _, hw⟩ := DataW.trod_int he h
    simp only [List.cons.injEq, and_true] at hx
    subst hx
    obtain ⟨h0, h1⟩ := wf_u8 hw
    obtain ⟨m, rfl⟩ := Int.eq_ofNat_of_zero_le h0
    refine ⟨UInt8.ofNat m, ?_⟩
    have e : ((UInt8.ofNat m).toNat : Int) = (m : Int) := by rw [UInt8.toNat_ofNat']; omega
    unfold EByte
    rw [e]
    simpa using hc 0 (by omega)
theorem opens_str {e : TypeId} (he : P.underlying e = some .string) : OpensE enc P w base spare held 1 e EStr := fun n b o cs x hl hc h => by
  match cs, hl with
  | [v], _ =>
    obtain ⟨x, rfl, hx⟩ := read_str he h
    exact ⟨x, by simpa using hc 0 (by omega), hx⟩
/-- A struct by value. -/
theorem open_agg {r : Reach} {b0 : Nat} {t : TypeId} {fs : Array Field} {v : Value} {d : DataW H} {p : List MemPlace} (hs : P.underlying t = some (.struct fs)) (hv : Value.okWide P w r b0 t v) (h : DataW.Trod enc P w base spare held t v d p) :
    ∃ (cs : Array Value) (fuel : Nat) (x : DataW H × List MemPlace), v = .agg cs ∧ DataW.trod enc P w base spare held fuel t cs.toList = some x := by
  obtain ⟨cs, rfl, _⟩ := okWide_struct hs hv
  obtain ⟨fuel, hf⟩ := h
  exact ⟨cs, fuel, _, rfl, hf⟩
end

end Go.Proofs.YteopgmieindojaaGreat
