/-
  Words on memory for the proofs about byte slices that a call makes: what it gave, what it holds in later worlds. They name the types uint8 and int of the program, none of its functions.
-/
import Derived.Test.YteopgmieindojaaGreatWords
import Derived.Test.YteopgmieindojaaGreatChecked
import Derived.OwnWalk
import Derived.LoopTactic
import Derived.Lib.Hide
import Derived.Outline
import Derived.WalkSpells
import Derived.Laws.CopyOwn
import Derived.Laws.AppendOwnNone
import Derived.Deep.RegionWith
namespace Go.Proofs.YteopgmieindojaaGreat
open Go.RowKit

def u8v (x : UInt8) : Value := .int .u8 (x.toNat : Int)
theorem leB_snoc : ∀ k v, leB (k + 1) v = leB k v ++ [UInt8.ofNat (v / 256 ^ k)]
  | 0, v => by simp [leB]
  | k + 1, v => by
    rw [leB, leB_snoc k (v / 256), leB, Nat.div_div_eq_div_mul, Nat.pow_succ, Nat.mul_comm 256]
    rfl
/-- What a slice of the call's own holds. -/
theorem Has.of_owns {w : World} {base : Nat} {e : TypeId} {v : Value} {n : Nat} {l : List UInt8} (h : w.ownsRow base e 1 v n (l.map u8v)) :
    ∃ p c, v = .slice p n c ∧ n ≤ c ∧ c ≤ maxLen ∧ l.length = n ∧ Has w p l := by
  have hl : l.length = n := by have := h.1; simpa using this
  rcases h.2 with ⟨rfl, hn⟩ | ⟨g, cap, cur, rfl, _, hg, hnc, hcm, _, _⟩
  · subst hn
    have h0 : l = [] := List.eq_nil_of_length_eq_zero hl
    subst h0
    exact ⟨none, 0, rfl, Nat.le_refl _, Nat.zero_le _, rfl, Has.none_ _ _⟩
  · refine ⟨some ⟨g, 0, none⟩, cap, rfl, hnc, hcm, hl, Has.of_plain fun i x hx => ?_⟩
    have hi : i < n := by have := (List.getElem?_eq_some_iff.1 hx).1; omega
    have hc := h.cellAt i (by omega)
    rw [List.getElem?_map, hx] at hc
    simpa [u8v] using hc
/-- The call hands back a slice of the bytes l in memory of its own. -/
def Gives (l : List UInt8) (w : World) (e : Ending) (w' : World) : Prop :=
  ∃ v, e = .returned v ∧ w'.ownsRow w.heap.size 5 1 v l.length (l.map u8v) ∧ Below w.heap.size w w'
theorem Tryz.infoU8 : (Tryz.prog.info? 5).map (fun i => (i.zero, i.size, i.bytes)) = some (some (.int .u8 0), 1, 1) := by kernel_rfl
theorem byte_mod (q : Nat) : Value.int .u8 ((q : Int) % 256) = u8v (UInt8.ofNat q) := by
  unfold u8v
  rw [UInt8.toNat_ofNat', Int.natCast_emod]
  rfl
theorem map_oneCell (l : List UInt8) : ∀ u ∈ l.map u8v, u.oneCell' = true := fun u hu => by
  obtain ⟨x, _, rfl⟩ := List.mem_map.1 hu
  rfl
theorem Has.cells {w : World} {a : Addr} {l : List UInt8} (h : Has w (some a) l) : ∀ j u, (l.map u8v)[j]? = some u → w.cell? (a.add j) = some u := fun j u hu => by
  rw [List.getElem?_map] at hu
  obtain ⟨x, hx, rfl⟩ := Option.map_eq_some_iff.1 hu
  obtain ⟨a', e, hc⟩ := h j x hx
  cases e
  exact hc
/-- The call hands back some slice of the n bytes l; what was there has not turned. -/
def GivesH (n : Nat) (l : List UInt8) (w : World) (e : Ending) (w' : World) : Prop :=
  ∃ p c, e = .returned (.slice p n c) ∧ l.length = n ∧ n ≤ c ∧ c ≤ maxLen ∧ Has w' p l ∧ Below w.heap.size w w'
theorem Gives.toH {l : List UInt8} {w w' : World} {e : Ending} (h : Gives l w e w') : GivesH l.length l w e w' := by
  obtain ⟨v, rfl, ho, hb⟩ := h
  obtain ⟨p, c, rfl, h1, h2, h3, h4⟩ := Has.of_owns ho
  exact ⟨p, c, rfl, h3, h1, h2, h4, hb⟩
/-- Of a call that gave bytes: the row. -/
theorem owns_form {w : World} {base : Nat} {e : TypeId} {v : Value} {n : Nat} {xs : List Value} (h : w.ownsRow base e 1 v n xs) (hn : 0 < n) :
    ∃ g cap cur, v = .slice (some ⟨g, 0, none⟩) n cap ∧ base ≤ g ∧ g < w.heap.size ∧ w.heap[g]? = some (.cells cur e (0, 0)) ∧ n ≤ cap ∧ cap ≤ maxLen ∧ cur.size = cap ∧ cur.toList.take n = xs := by
  rcases h.2 with ⟨_, h0⟩ | ⟨g, cap, cur, rfl, hb, hg, hnc, hcm, hcs, ht⟩
  · omega
  · exact ⟨g, cap, cur, rfl, hb, (Array.getElem?_eq_some_iff.1 hg).1, hg, hnc, hcm, by simpa using hcs, by simpa using ht⟩
theorem splice_take {α : Type} (cur xs cs : List α) (n j : Nat) (ht : cur.take n = xs) (hx : xs.length = n) (hj : j + cs.length ≤ n) :
    (splice cur j cs).take n = xs.take j ++ (cs ++ xs.drop (j + cs.length)) := by
  subst ht
  have hc : n ≤ cur.length := by simp at hx; omega
  unfold splice
  rw [List.take_append, List.take_append, List.take_take, List.take_take, List.length_take, List.drop_take]
  rw [Nat.min_eq_right (by omega), Nat.min_eq_left (by omega : j ≤ cur.length), Nat.min_eq_left (by omega)]
  rw [List.take_of_length_le (l := cs) (by omega)]
  congr 3
  omega
theorem Tryz.sizeU8 : (Tryz.prog.info? 5).map (·.size) = some 1 := by kernel_rfl
theorem below_two {w w1 w2 : World} (hb : Below w.heap.size w w1) (hb2 : Below w1.drew.heap.size w1.drew w2) : Below w.heap.size w w2 :=
  hb.drew.trans (hb2.mono (by simpa using hb.size))
theorem row_kept {w1 w2 : World} {g : Nat} {cur : Array Value} {t : TypeId} (hb2 : Below w1.drew.heap.size w1.drew w2) (hg : g < w1.heap.size) (h : w1.heap[g]? = some (.cells cur t (0, 0))) :
    w2.heap[g]? = some (.cells cur.toList.toArray t (0, 0)) := by
  rw [hb2.block g (by simpa using hg), Array.toArray_toList]
  exact h
theorem cells_of {w : World} {p : Option Addr} {b off : Nat} {l : List UInt8} (hp : p = some ⟨b, off, none⟩) (h : Has w p l) : ∀ j u, (l.map u8v)[j]? = some u → w.cell? ((⟨b, off, none⟩ : Addr).add j) = some u := by
  subst hp
  exact h.cells
theorem later_take {w : World} {p : Addr} {l : List UInt8} (h : Has w (some p) l) (j : Nat) : ∀ W, Below w.heap.size w W → ∀ i u, ((l.take j).map u8v)[i]? = some u → W.cell? (p.add i) = some u := fun W hb => by
  refine Has.cells (l := l.take j) fun i x hx => ?_
  rw [List.getElem?_take] at hx
  split at hx
  · exact (h.below hb) i x hx
  · cases hx
theorem later_drop {w : World} {b off : Nat} {l : List UInt8} (h : Has w (some ⟨b, off, none⟩) l) (j : Nat) : ∀ W, Below w.heap.size w W → ∀ i u, ((l.drop j).map u8v)[i]? = some u → W.cell? ((⟨b, off + j, none⟩ : Addr).add i) = some u := fun W hb => by
  refine Has.cells (l := l.drop j) (Has.of_plain fun i x hx => ?_)
  rw [List.getElem?_drop] at hx
  obtain ⟨b', off', e, hc⟩ := (h.below hb).plain (by have := (List.getElem?_eq_some_iff.1 hx).1; omega)
  simp only [Option.some.injEq, Addr.mk.injEq, and_true] at e
  obtain ⟨rfl, rfl⟩ := e
  rw [Nat.add_assoc]
  exact hc _ _ hx
theorem later_end {w : World} {p : Addr} {l : List UInt8} (_h : Has w (some p) l) (j : Nat) (hj : l.length ≤ j) : ∀ W, Below w.heap.size w W → ∀ i u, ((l.drop j).map u8v)[i]? = some u → W.cell? (p.add i) = some u := fun W _ i u hu => by
  rw [List.drop_eq_nil_of_le hj] at hu
  simp at hu
theorem owns_below {w w' : World} {base : Nat} {e : TypeId} {v : Value} {n : Nat} {xs : List Value} (h : w.ownsRow base e 1 v n xs) (hb : Below w.heap.size w w') : w'.ownsRow base e 1 v n xs :=
  h.kept (row := none) ⟨hb.os, hb.tape, hb.output, hb.size, fun k hk _ => hb.block k hk⟩ (by cases hv : v.ownBlock <;> simp)
theorem below_drew {w W w1 : World} (hb : Below W.heap.size W w1) (h : W = w.drew) : Below w.heap.size w w1 := by
  subst h
  exact (Below.refl _ w).drew.trans hb
theorem below_alloc {w W w1 : World} (o : Obj) (hb : Below W.heap.size W w1) (h : W = (w.alloc o).drew) : Below w.heap.size w w1 := by
  subst h
  exact ((Below.refl _ w).alloc (Nat.le_refl _) o).drew.trans (hb.mono (by simp))
theorem cell_later {w w' : World} {a : Addr} {v : Value} (hb : Below w.heap.size w w') (h : w.cell? a = some v) : w'.cell? a = some v := (hb.cell (World.block_lt_of_cell? w a h)).trans h
theorem below_drewN {B : Nat} {a w : World} (h : Below B a w) (n : Nat) : Below B a (w.drewN n) := ⟨h.os, h.tape, h.output, h.size, h.block⟩

def iv (n : Int) : Value := .int .i64 n
def natV (l : List Nat) : List Value := l.map fun (n : Nat) => iv (n : Int)
theorem Tryz.infoInt : (Tryz.prog.info? 3).map (fun i => (i.zero, i.size, i.bytes)) = some (some (.int .i64 0), 1, 8) := by kernel_rfl
theorem natV_snoc (l : List Nat) (n : Nat) : natV l ++ [Value.int .i64 (n : Int)] = natV (l ++ [n]) := by simp [natV, iv]

/-- Behind the address p lie the numbers xs. -/
def HasI (w : World) (p : Option Addr) (xs : List Int) : Prop :=
  ∀ i x, xs[i]? = some x → ∃ a, p = some a ∧ w.cell? (a.add i) = some (.int .i64 x)
theorem HasI.below {w w' : World} {p : Option Addr} {xs : List Int} (h : HasI w p xs) (hb : Below w.heap.size w w') : HasI w' p xs := fun i x hx => by
  obtain ⟨a, e, hc⟩ := h i x hx
  exact ⟨a, e, (hb.cell (World.block_lt_of_cell? w _ hc)).trans hc⟩
theorem HasI.at_ {w : World} {p : Option Addr} {xs : List Int} (h : HasI w p xs) {i : Nat} (hi : i < xs.length) :
    ∃ b off x, p = some ⟨b, off, none⟩ ∧ xs[i]? = some x ∧ w.cell? ⟨b, off + i, none⟩ = some (.int .i64 x) := by
  obtain ⟨⟨b, off, spot⟩, e, hc⟩ := h i xs[i] (List.getElem?_eq_getElem hi)
  have hs : spot = none := by
    obtain ⟨a0, e0, hc0⟩ := h 0 xs[0] (List.getElem?_eq_getElem (by omega))
    rw [e] at e0
    cases e0
    simpa [Addr.add] using World.cell?_spot hc0
  subst hs
  refine ⟨b, off, xs[i], e, List.getElem?_eq_getElem hi, ?_⟩
  have ha : (⟨b, off, none⟩ : Addr).add i = ⟨b, off + i, none⟩ := by unfold Addr.add; split <;> simp_all
  rwa [ha] at hc
theorem HasI.of_owns {w : World} {base : Nat} {e : TypeId} {v : Value} {n : Nat} {xs : List Int} (h : w.ownsRow base e 1 v n (xs.map (Value.int .i64))) :
    ∃ p c, v = .slice p n c ∧ n ≤ c ∧ c ≤ maxLen ∧ xs.length = n ∧ HasI w p xs := by
  have hl : xs.length = n := by have := h.1; simpa using this
  rcases h.2 with ⟨rfl, hn⟩ | ⟨g, cap, cur, rfl, _, hg, hnc, hcm, _, _⟩
  · subst hn
    have h0 : xs = [] := List.eq_nil_of_length_eq_zero hl
    subst h0
    exact ⟨none, 0, rfl, Nat.le_refl _, Nat.zero_le _, rfl, fun i x hx => by simp at hx⟩
  · refine ⟨some ⟨g, 0, none⟩, cap, rfl, hnc, hcm, hl, fun i x hx => ⟨_, rfl, ?_⟩⟩
    have hi : i < n := by have := (List.getElem?_eq_some_iff.1 hx).1; omega
    have hc := h.cellAt i (by omega)
    rw [List.getElem?_map, hx] at hc
    have ha : (⟨g, 0, none⟩ : Addr).add i = ⟨g, i, none⟩ := by unfold Addr.add; split <;> simp_all
    rw [ha]
    simpa using hc

theorem owns_lower {w : World} {b c : Nat} {e : TypeId} {s n : Nat} {v : Value} {xs : List Value} (h : w.ownsRow b e s v n xs) (hc : c ≤ b) : w.ownsRow c e s v n xs := by
  refine ⟨h.1, ?_⟩
  rcases h.2 with h0 | ⟨g, cap, cur, hv, hb, rest⟩
  · exact .inl h0
  · exact .inr ⟨g, cap, cur, hv, by omega, rest⟩
end Go.Proofs.YteopgmieindojaaGreat
