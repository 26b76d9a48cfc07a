/-
  Words on bytes and on memory for the proofs about the layer le: what a slice of bytes holds in a world, and numbers as lists of bytes, the lowest first. Nothing here speaks of the program.
-/
import Derived.WalkKit
import Derived.ProofKit
import Derived.Below
import Derived.Laws.BytesArg
import Derived.Laws.AppendOwn
import Derived.Deep.Draws
namespace Go.Proofs.YteopgmieindojaaGreat
open Go.RowKit

/-! ## Numbers and bytes -/
def num : List UInt8 → Nat
  | [] => 0
  | x :: r => x.toNat + 256 * num r

def leB : Nat → Nat → List UInt8
  | 0, _ => []
  | k + 1, v => UInt8.ofNat v :: leB k (v / 256)

theorem num_lt : ∀ l : List UInt8, num l < 256 ^ l.length
  | [] => by simp [num]
  | x :: r => by
    have h := num_lt r
    have hx := x.toNat_lt
    simp only [num, List.length_cons, Nat.pow_succ]
    omega

theorem leB_length : ∀ k v, (leB k v).length = k
  | 0, _ => rfl
  | k + 1, v => by simp [leB, leB_length k]

theorem num_leB : ∀ k v, num (leB k v) = v % 256 ^ k
  | 0, v => by simp [leB, num, Nat.mod_one]
  | k + 1, v => by
    have h := num_leB k (v / 256)
    simp only [leB, num, h, Nat.pow_succ]
    rw [Nat.mul_comm (256 ^ k) 256, Nat.mod_mul]
    simp

theorem leB_num : ∀ l : List UInt8, leB l.length (num l) = l
  | [] => rfl
  | x :: r => by
    have h := leB_num r
    have hx := x.toNat_lt
    simp only [num, List.length_cons, leB]
    have e1 : (x.toNat + 256 * num r) / 256 = num r := by omega
    have e2 : UInt8.ofNat (x.toNat + 256 * num r) = x := by
      apply UInt8.toNat_inj.1
      simp
    rw [e1, h, e2]

theorem leB_get : ∀ k v i, i < k → (leB k v)[i]? = some (UInt8.ofNat (v / 256 ^ i))
  | 0, _, _, h => absurd h (by omega)
  | k + 1, v, 0, _ => by simp [leB]
  | k + 1, v, i + 1, h => by
    have e := leB_get k (v / 256) i (by omega)
    simp only [leB, List.getElem?_cons_succ, e]
    rw [Nat.div_div_eq_div_mul, Nat.pow_succ, Nat.mul_comm 256]

theorem num_drop (l : List UInt8) (j : Nat) (x : UInt8) (h : l[j]? = some x) : num (l.drop j) = x.toNat + 256 * num (l.drop (j + 1)) := by
  have hj : j < l.length := (List.getElem?_eq_some_iff.1 h).1
  rw [List.drop_eq_getElem_cons hj, (List.getElem?_eq_some_iff.1 h).2]
  rfl

theorem num_drop_lt (l : List UInt8) (j : Nat) (hl : l.length ≤ 8) (hj : 1 ≤ j) : num (l.drop j) < 72057594037927936 := by
  have h := num_lt (l.drop j)
  have h2 : 256 ^ (l.drop j).length ≤ 256 ^ 7 := Nat.pow_le_pow_right (by omega) (by simp; omega)
  have e : (256 : Nat) ^ 7 = 72057594037927936 := by decide
  omega

theorem num_lt64 (l : List UInt8) (hl : l.length ≤ 8) : num l < 18446744073709551616 := by
  have h := num_lt l
  have h2 : 256 ^ l.length ≤ 256 ^ 8 := Nat.pow_le_pow_right (by omega) hl
  have e : (256 : Nat) ^ 8 = 18446744073709551616 := by decide
  omega

/-! ## What a slice holds -/
/-- Behind the address p lie the bytes l (where there is none, nothing is said of p). -/
def Has (w : World) (p : Option Addr) (l : List UInt8) : Prop :=
  ∀ i x, l[i]? = some x → ∃ a, p = some a ∧ w.cell? (a.add i) = some (.int .u8 (x.toNat : Int))

theorem block_of_add (a : Addr) (n : Nat) : (a.add n).block = a.block := by unfold Addr.add; split <;> rfl
theorem add_of_add (a : Addr) (i j : Nat) : (a.add i).add j = a.add (i + j) := by
  unfold Addr.add
  by_cases hi : i = 0 <;> by_cases hj : j = 0 <;> simp [hi, hj, Nat.add_assoc]

theorem Has.none_ (w : World) (p : Option Addr) : Has w p [] := fun i x h => by simp at h

theorem Has.keep {w w' : World} {p : Option Addr} {l : List UInt8} (h : Has w p l) (hk : ∀ a : Addr, a.block < w.heap.size → w'.cell? a = w.cell? a) : Has w' p l := fun i x hx => by
  obtain ⟨a, e, hc⟩ := h i x hx
  exact ⟨a, e, (hk _ (World.block_lt_of_cell? w _ hc)).trans hc⟩

theorem Has.below {w w' : World} {p : Option Addr} {l : List UInt8} (h : Has w p l) (hb : Below w.heap.size w w') : Has w' p l := h.keep fun _ ha => hb.cell ha

theorem Has.at_ {w : World} {p : Option Addr} {l : List UInt8} (h : Has w p l) {i : Nat} (hi : i < l.length) :
    ∃ b off x, p = some ⟨b, off, none⟩ ∧ l[i]? = some x ∧ w.cell? ⟨b, off + i, none⟩ = some (.int .u8 (x.toNat : Int)) := by
  obtain ⟨⟨b, off, spot⟩, e, hc⟩ := h i l[i] (List.getElem?_eq_getElem hi)
  have hs : spot = none := by
    obtain ⟨a0, e0, hc0⟩ := h 0 l[0] (List.getElem?_eq_getElem (by omega))
    rw [e] at e0
    cases e0
    simpa [Addr.add] using World.cell?_spot hc0
  subst hs
  refine ⟨b, off, l[i], e, List.getElem?_eq_getElem hi, ?_⟩
  have ha : (⟨b, off, none⟩ : Addr).add i = ⟨b, off + i, none⟩ := by unfold Addr.add; split <;> simp_all
  rwa [ha] at hc

/-- Of a slice with a byte: the address, and all its cells. -/
theorem Has.plain {w : World} {p : Option Addr} {l : List UInt8} (h : Has w p l) (hl : 0 < l.length) :
    ∃ b off, p = some ⟨b, off, none⟩ ∧ ∀ i x, l[i]? = some x → w.cell? ⟨b, off + i, none⟩ = some (.int .u8 (x.toNat : Int)) := by
  obtain ⟨b, off, x, e, _, _⟩ := h.at_ hl
  refine ⟨b, off, e, fun i y hy => ?_⟩
  obtain ⟨b', off', y', e', hy', hc⟩ := h.at_ (List.getElem?_eq_some_iff.1 hy).1
  rw [e] at e'
  simp only [Option.some.injEq, Addr.mk.injEq, and_true] at e'
  obtain ⟨rfl, rfl⟩ := e'
  rw [hy] at hy'
  cases hy'
  exact hc

theorem Has.of_plain {w : World} {b off : Nat} {l : List UInt8} (h : ∀ i x, l[i]? = some x → w.cell? ⟨b, off + i, none⟩ = some (.int .u8 (x.toNat : Int))) : Has w (some ⟨b, off, none⟩) l := fun i x hx =>
  ⟨_, rfl, by
    have ha : (⟨b, off, none⟩ : Addr).add i = ⟨b, off + i, none⟩ := by unfold Addr.add; split <;> simp_all
    rw [ha]
    exact h i x hx⟩

/-- A slice of bytes that came in, as the row's opening hands it over. -/
def IsRow (k : IntKind) (w : World) (a : Option Addr) (len cap : Nat) (zs : List Int) : Prop :=
  (a = none ∧ len = 0 ∧ cap = 0 ∧ zs = []) ∨
  ∃ x, a = some x ∧ len ≤ cap ∧ cap ≤ maxLen ∧ zs.length = cap ∧ (∀ i, i < zs.length → w.cell? (x.add i) = some (.int k (zs.getD i 0))) ∧ ∀ n ∈ zs, (Lit.int k n).wf = true

theorem IsRow.has {w : World} {a : Option Addr} {len cap : Nat} {zs : List Int} (h : IsRow .u8 w a len cap zs) :
    ∃ l : List UInt8, l.length = len ∧ Has w a l ∧ len ≤ cap ∧ cap ≤ maxLen ∧ (a = none → cap = 0) := by
  rcases h with ⟨rfl, rfl, rfl, rfl⟩ | ⟨x, rfl, hl, hm, hz, hc, hw⟩
  · exact ⟨[], rfl, Has.none_ _ _, Nat.le_refl _, Nat.zero_le _, fun _ => rfl⟩
  · refine ⟨(zs.take len).map fun n => UInt8.ofNat n.toNat, by simp; omega, fun i y hy => ⟨x, rfl, ?_⟩, hl, hm, fun h => by cases h⟩
    rw [List.getElem?_map, List.getElem?_take] at hy
    split at hy
    · obtain ⟨n, hn, rfl⟩ := Option.map_eq_some_iff.1 hy
      have hi : i < zs.length := (List.getElem?_eq_some_iff.1 hn).1
      have hwn := hw n (List.mem_of_getElem? hn)
      simp [Lit.wf, IntKind.min, IntKind.max, IntKind.signed, IntKind.bits] at hwn
      rw [hc i hi]
      simp only [List.getD, hn, Option.getD_some, UInt8.toNat_ofNat']
      congr 2
      omega
    · cases hy

/-- 's[lo:hi]' of it, as the model spells the address. -/
theorem Has.cut {w : World} {p : Option Addr} {l : List UInt8} (h : Has w p l) (lo hi cap : Nat) (hh : hi ≤ l.length) (hc : l.length ≤ cap) :
    Has w (if cap = lo then p else p.map (·.add lo)) ((l.take hi).drop lo) := fun i x hx => by
  rw [List.getElem?_drop, List.getElem?_take] at hx
  split at hx
  · obtain ⟨a, rfl, hcell⟩ := h _ _ hx
    rw [if_neg (by omega)]
    exact ⟨_, rfl, by rw [add_of_add]; exact hcell⟩
  · cases hx

/-- The string of a list of bytes. -/
def str (l : List UInt8) : ByteArray := ⟨l.toArray⟩

theorem run_conv {P : Program} (w : World) (src e dst : TypeId) (hs : P.underlying src = some (.slice e)) (he : P.underlying e = some (.int .u8)) (hd : P.underlying dst = some .string)
    {p : Option Addr} {l : List UInt8} (h : Has w p l) (n cap : Nat) (hn : l.length = n) : (convert src dst (.slice p n cap)).run P w = .ok (.string (str l)) w := by
  subst hn
  rcases p with _ | a
  · have hl : l = [] := by
      cases l with
      | nil => rfl
      | cons x r => obtain ⟨a, e, _⟩ := h 0 x rfl; cases e
    subst hl
    exact run_convert_bytes_nil w src e hs he _ _ dst hd
  · rw [run_convert_bytes_string w src dst e _ _ cap hs he hd]
    have hl : (loadCells a l.length).run P w = .ok ((l.map fun x => (x.toNat : Int)).map (Value.int .u8)).toArray w := by
      have := run_loadCells_list (P := P) w a ((l.map fun x => (x.toNat : Int)).map (Value.int .u8)) (fun j v hj => by
        simp only [List.map_map, List.getElem?_map, Option.map_eq_some_iff, Function.comp] at hj
        obtain ⟨x, hx, rfl⟩ := hj
        obtain ⟨a', e, hc⟩ := h j x hx
        cases e
        exact hc)
      simpa using this
    rw [run_bytesToString w a l.length cap _ hl, foldl_push_bytes]
    congr 2
    unfold str
    apply ByteArray.ext
    simp [ByteArray.empty, ByteArray.emptyWithCapacity, List.map_map, Function.comp_def]
    rfl

theorem str_inj {a b : List UInt8} (h : str a = str b) : a = b := by
  unfold str at h
  injection h with h
  simpa using congrArg Array.toList h
theorem str_list (l : List UInt8) : (str l).data.toList = l := rfl

end Go.Proofs.YteopgmieindojaaGreat
