/-
  Words on append to a full slice of bytes (its capacity is its length): the bytes behind each other, what was there stands. They name types of the program, none of its functions.
  Parts of an object's bytes (a section header, its name, what it tells): as data, and as rows of structs in memory, in either order of fields.
  Numbers by digits of seven bits: what the documents' own functions tell, as functions on lists of bytes. Nothing here speaks of the program.
  An object's bytes, by definition: its parts, in order, and how they are laid. (Nothing here speaks of the program.)
-/
import Derived.Test.YthnkehdcolnegaaGreatMem
import Derived.Maps.AppendAt
import Derived.Test.YthnkehdcolnegaaGreatNR23
import Derived.Test.YthnkehdcolnegaaGreatWords
import Derived.Test.YthnkehdcolnegaaGreatObjMem
import Derived.Test.YthnkehdcolnegaaGreatNR18
import Derived.Test.YthnkehdcolnegaaGreatNR15
namespace Go.Proofs.YthnkehdcolnegaaGreat
open Go.RowKit

theorem below_grow (w : World) (o : Obj) : Below w.heap.size w (w.drew.alloc o) := (Below.refl _ w).drew.alloc (by simp) o

/-- append to a row of the call's own, of a slice that came in or was made: nil or not. -/
theorem wpList_append_bytes {P : Program} (w : World) {ops : Array Oper} {rest : List Oper} {o : Oper} {a : Act} {Q : Exit → Act → World → Prop} (hgd : o.guard = none) (s x : Operand) (t : TypeId)
    (ho : o.op = .call { callee := .builtin .append, args := #[s, x], argTypes := #[t, t] })
    (base : Nat) (e : TypeId) (i : TypeInfo) (ht : P.underlying t = some (.slice e)) (hi : P.info? e = some i) (hz : i.zero = some (.int .u8 0)) (hs : i.size = 1) (hb : i.bytes = 1)
    (v : Value) (n : Nat) (l : List UInt8) (hes : a.eval s = v) (hown : w.ownsRow base e 1 v n (l.map u8v)) (q : Option Addr) (m c : Nat) (r : List UInt8) (hex : a.eval x = .slice q m c) (hq : Has w q r) (hr : r.length = m) (hcq : q = none → c = 0)
    (hbig : n + m ≤ 1000000000) (hbase : base ≤ w.heap.size)
    (h : ∀ v' w', w'.ownsRow base e 1 v' (n + m) ((l ++ r).map u8v) → w.grownBy w' v.ownBlock → (v'.ownBlock = v.ownBlock ∨ v'.ownBlock = some w.heap.size) → wpList P ops Q rest (a.put o.dst v') w') : wpList P ops Q (o :: rest) a w := by
  rcases q with _ | ad
  · have hr0 : r = [] := by
      cases r with
      | nil => rfl
      | cons y r => obtain ⟨a, e, _⟩ := hq 0 y rfl; cases e
    subst hr0
    have hm : m = 0 := hr.symm
    subst hm
    rw [hcq rfl] at hex
    exact wpList_append_own_none hgd s x t ho base e i 1 ht hi v n _ hes hown hex (h v w (by simpa using hown) (World.grownBy.refl w _) (.inl rfl))
  · exact wpList_append_own_at w hgd s x t ho base e i (.int .u8 0) 1 1 ht hi hz hs hb rfl (by decide) v n _ hes hown ad m c (r.map u8v) hex (by simp [hr]) hq.cells (map_oneCell _) (by unfold maxLen; omega) (by omega) hbase
      fun v' w' h1 h2 _ h4 => h v' w' (by rw [List.map_append]; exact h1) h2 h4

end Go.Proofs.YthnkehdcolnegaaGreat

namespace Go.Proofs.YthnkehdcolnegaaGreat
open Go.RowKit

structure PartD where
  (h : Ten) (name : ByteArray) (b : List UInt8)
/-- A part as it lies in memory: the slice of what it tells as a value. -/
structure PV where
  (h : Ten) (name : ByteArray) (v : Value)
/-- Its twelve cells: the reference's order (head, name, bytes), or name, head, bytes. -/
def PV.cells (q : Bool) (p : PV) : List Value := bif q then p.h.l.map (Value.int .i64) ++ [.string p.name, p.v] else .string p.name :: (p.h.l.map (Value.int .i64) ++ [p.v])
def pvs (q : Bool) (l : List PV) : List Value := l.flatMap (PV.cells q)
theorem PV.cells_length (q : Bool) (p : PV) : (p.cells q).length = 12 := by cases q <;> rfl
theorem pvs_length (q : Bool) : ∀ l : List PV, (pvs q l).length = l.length * 12
  | [] => rfl
  | p :: r => by
    have h := pvs_length q r
    unfold pvs at h ⊢
    rw [List.flatMap_cons, List.length_append, PV.cells_length, h, List.length_cons]
    omega
theorem pvs_append (q : Bool) (a b : List PV) : pvs q (a ++ b) = pvs q a ++ pvs q b := by unfold pvs; rw [List.flatMap_append]
theorem pvs_snoc (q : Bool) (a : List PV) (p : PV) : pvs q (a ++ [p]) = pvs q a ++ p.cells q := by rw [pvs_append]; unfold pvs; simp
theorem pvs_get (q : Bool) : ∀ (l : List PV) (i : Nat) (p : PV) (j : Nat), l[i]? = some p → j < 12 → (pvs q l)[i * 12 + j]? = (p.cells q)[j]?
  | [], i, p, j, h, _ => by simp at h
  | x :: r, 0, p, j, h, hj => by
    simp at h
    subst h
    unfold pvs
    rw [List.flatMap_cons, List.getElem?_append_left (by rw [PV.cells_length]; omega), Nat.zero_mul, Nat.zero_add]
  | x :: r, i + 1, p, j, h, hj => by
    have ih := pvs_get q r i p j (by simpa using h) hj
    unfold pvs at ih ⊢
    rw [List.flatMap_cons, List.getElem?_append_right (by rw [PV.cells_length]; omega), PV.cells_length, ← ih]
    congr 1
    omega

/-- v is a slice of the bytes l, in blocks as K tells. -/
def SlB (w : World) (K : Nat → Prop) (v : Value) (l : List UInt8) : Prop :=
  ∃ p c, v = .slice p l.length c ∧ l.length ≤ c ∧ c ≤ maxLen ∧ (p = none → c = 0) ∧ ∀ i x, l[i]? = some x → ∃ a, p = some a ∧ w.cell? (a.add i) = some (u8v x) ∧ K a.block
theorem SlB.weaken {w : World} {K K' : Nat → Prop} {v : Value} {l : List UInt8} (h : SlB w K v l) (hK : ∀ b, b < w.heap.size → K b → K' b) : SlB w K' v l := by
  obtain ⟨p, c, e, h1, h2, h3, h4⟩ := h
  refine ⟨p, c, e, h1, h2, h3, fun i x hx => ?_⟩
  obtain ⟨a, ea, hc, hk⟩ := h4 i x hx
  exact ⟨a, ea, hc, hK _ (by have := World.block_lt_of_cell? w _ hc; rwa [block_of_add] at this) hk⟩
theorem SlB.below {w w' : World} {K : Nat → Prop} {v : Value} {l : List UInt8} (h : SlB w K v l) (hb : Below w.heap.size w w') : SlB w' K v l := by
  obtain ⟨p, c, e, h1, h2, h3, h4⟩ := h
  refine ⟨p, c, e, h1, h2, h3, fun i x hx => ?_⟩
  obtain ⟨a, ea, hc, hk⟩ := h4 i x hx
  exact ⟨a, ea, cell_later hb hc, hk⟩
theorem SlB.grown {w w' : World} {row row' : Option Nat} {K : Nat → Prop} {v : Value} {l : List UInt8} (h : SlB w (fun b => K b ∧ some b ≠ row) v l) (hg : w.grownBy w' row) (hat : row' = row ∨ row' = some w.heap.size) : SlB w' (fun b => K b ∧ some b ≠ row') v l := by
  obtain ⟨p, c, e, h1, h2, h3, h4⟩ := h
  refine ⟨p, c, e, h1, h2, h3, fun i x hx => ?_⟩
  obtain ⟨a, ea, hc, hk, hr⟩ := h4 i x hx
  have hlt := World.block_lt_of_cell? w _ hc
  rw [block_of_add] at hlt
  refine ⟨a, ea, hg.cell hc (by rw [block_of_add]; exact hr), hk, ?_⟩
  rcases hat with rfl | rfl
  · exact hr
  · intro h
    have h := Option.some.inj h
    omega
theorem SlB.has {w : World} {K : Nat → Prop} {v : Value} {l : List UInt8} (h : SlB w K v l) : ∃ p c, v = .slice p l.length c ∧ l.length ≤ c ∧ c ≤ maxLen ∧ (p = none → c = 0) ∧ Has w p l := by
  obtain ⟨p, c, e, h1, h2, h3, h4⟩ := h
  refine ⟨p, c, e, h1, h2, h3, fun i x hx => ?_⟩
  obtain ⟨a, ea, hc, _⟩ := h4 i x hx
  exact ⟨a, ea, hc⟩
theorem SlB.of_owns {w : World} {base : Nat} {v : Value} {n : Nat} {l : List UInt8} {T : TypeId} {K : Nat → Prop} (h : w.ownsRow base T 1 v n (l.map u8v)) (hK : ∀ b, v.ownBlock = some b → K b) : SlB w K v l := by
  have hl : l.length = n := by have := h.1; simpa using this
  rcases h.2 with ⟨rfl, hn⟩ | ⟨g, cap, cur, rfl, _, hg, hnc, hcm, _, _⟩
  · subst hn
    have h0 : l = [] := List.eq_nil_of_length_eq_zero hl
    subst h0
    exact ⟨none, 0, rfl, Nat.le_refl _, Nat.zero_le _, fun _ => rfl, fun i x hx => by simp at hx⟩
  · refine ⟨some ⟨g, 0, none⟩, cap, by rw [hl], by omega, hcm, (fun h => by cases h), fun i x hx => ⟨_, rfl, ?_, hK g rfl⟩⟩
    have hi : i < n := by have := (List.getElem?_eq_some_iff.1 hx).1; omega
    have hc := h.cellAt i (by omega)
    rw [List.getElem?_map, hx] at hc
    have ha : (⟨g, 0, none⟩ : Addr).add i = ⟨g, i, none⟩ := by unfold Addr.add; split <;> simp_all
    rw [ha]
    simpa using hc
theorem SlB.oneCell {w : World} {K : Nat → Prop} {v : Value} {l : List UInt8} (h : SlB w K v l) : v.oneCell' = true := by
  obtain ⟨p, c, rfl, _⟩ := h
  rfl

/-- The parts pv lie in memory as pd tells. -/
def PartsAt (w : World) (K : Nat → Prop) (pv : List PV) (pd : List PartD) : Prop :=
  pv.length = pd.length ∧ ∀ (i : Nat) (x : PV) (y : PartD), pv[i]? = some x → pd[i]? = some y → x.h = y.h ∧ x.name = y.name ∧ SlB w K x.v y.b
theorem PartsAt.nil (w : World) (K : Nat → Prop) : PartsAt w K [] [] := ⟨rfl, fun i x y h => by simp at h⟩
theorem PartsAt.weaken {w : World} {K K' : Nat → Prop} {pv : List PV} {pd : List PartD} (h : PartsAt w K pv pd) (hK : ∀ b, b < w.heap.size → K b → K' b) : PartsAt w K' pv pd :=
  ⟨h.1, fun i x y h1 h2 => let ⟨a, b, c⟩ := h.2 i x y h1 h2; ⟨a, b, c.weaken hK⟩⟩
theorem PartsAt.below {w w' : World} {K : Nat → Prop} {pv : List PV} {pd : List PartD} (h : PartsAt w K pv pd) (hb : Below w.heap.size w w') : PartsAt w' K pv pd :=
  ⟨h.1, fun i x y h1 h2 => let ⟨a, b, c⟩ := h.2 i x y h1 h2; ⟨a, b, c.below hb⟩⟩
theorem PartsAt.grown {w w' : World} {row row' : Option Nat} {K : Nat → Prop} {pv : List PV} {pd : List PartD} (h : PartsAt w (fun b => K b ∧ some b ≠ row) pv pd) (hg : w.grownBy w' row) (hat : row' = row ∨ row' = some w.heap.size) : PartsAt w' (fun b => K b ∧ some b ≠ row') pv pd :=
  ⟨h.1, fun i x y h1 h2 => let ⟨a, b, c⟩ := h.2 i x y h1 h2; ⟨a, b, c.grown hg hat⟩⟩
theorem PartsAt.append {w : World} {K : Nat → Prop} {a b : List PV} {c d : List PartD} (h1 : PartsAt w K a c) (h2 : PartsAt w K b d) : PartsAt w K (a ++ b) (c ++ d) := by
  refine ⟨by simp [h1.1, h2.1], fun i x y hx hy => ?_⟩
  rw [List.getElem?_append] at hx hy
  rw [← h1.1] at hy
  split at hx <;> split at hy
  · exact h1.2 i x y hx hy
  · omega
  · omega
  · exact h2.2 _ x y hx hy
theorem PartsAt.one {w : World} {K : Nat → Prop} {h : Ten} {n : ByteArray} {v : Value} {l : List UInt8} (hs : SlB w K v l) : PartsAt w K [⟨h, n, v⟩] [⟨h, n, l⟩] :=
  ⟨rfl, fun i x y hx hy => by
    match i, hx, hy with
    | 0, hx, hy =>
      simp at hx hy
      subst hx hy
      exact ⟨rfl, rfl, hs⟩⟩
theorem PartsAt.oneCell {w : World} {K : Nat → Prop} {q : Bool} {pv : List PV} {pd : List PartD} (h : PartsAt w K pv pd) : ∀ u ∈ pvs q pv, u.oneCell' = true := fun u hu => by
  unfold pvs at hu
  obtain ⟨x, hx, hu⟩ := List.mem_flatMap.1 hu
  obtain ⟨i, hi⟩ := List.getElem?_of_mem hx
  have hil : i < pd.length := by rw [← h.1]; exact (List.getElem?_eq_some_iff.1 hi).1
  have hs := (h.2 i x _ hi (List.getElem?_eq_getElem hil)).2.2.oneCell
  unfold PV.cells at hu
  have hint : ∀ y ∈ x.h.l.map (Value.int .i64), y.oneCell' = true := fun y hy => by
    obtain ⟨z, _, rfl⟩ := List.mem_map.1 hy
    rfl
  cases q
  · simp only [cond_false, List.mem_cons, List.mem_append, List.not_mem_nil, or_false] at hu
    rcases hu with rfl | hu | rfl
    · rfl
    · exact hint _ hu
    · exact hs
  · simp only [cond_true, List.mem_cons, List.mem_append, List.not_mem_nil, or_false] at hu
    rcases hu with hu | rfl | rfl
    · exact hint _ hu
    · rfl
    · exact hs
/-- The call hands back a list of parts in memory of its own; what they tell lies in other blocks, from lo on. -/
def GivesParts (T : TypeId) (q : Bool) (lo : Nat) (pd : List PartD) (w : World) (e : Ending) (w' : World) : Prop :=
  ∃ v pv, e = .returned v ∧ w'.ownsRow w.heap.size T 12 v pd.length (pvs q pv) ∧ PartsAt w' (fun b => lo ≤ b ∧ some b ≠ v.ownBlock) pv pd ∧ Below w.heap.size w w'
/-- One part more, behind 'append(l, Part{..})'. -/
theorem push_part {wr w4 : World} {base lo : Nat} {T : TypeId} {q : Bool} {v v1 : Value} {pv : List PV} {pd : List PartD} {p : PV} {y : PartD} {o : Obj}
    (hpa : PartsAt wr (fun b => lo ≤ b ∧ some b ≠ v.ownBlock) pv pd) (hs : PartsAt wr (fun b => lo ≤ b ∧ some b ≠ v.ownBlock) [p] [y])
    (hown4 : w4.ownsRow base T 12 v1 (pd.length + 1) (pvs q pv ++ p.cells q)) (hg : (wr.alloc o).grownBy w4 v.ownBlock) (hat : v1.ownBlock = v.ownBlock ∨ v1.ownBlock = some (wr.heap.size + 1)) :
    w4.ownsRow base T 12 v1 (pd ++ [y]).length (pvs q (pv ++ [p])) ∧ PartsAt w4 (fun b => lo ≤ b ∧ some b ≠ v1.ownBlock) (pv ++ [p]) (pd ++ [y]) := by
  have hb : Below wr.heap.size wr (wr.alloc o) := (Below.refl _ wr).alloc (Nat.le_refl _) _
  exact ⟨by rw [pvs_snoc, List.length_append]; exact hown4, ((hpa.append hs).below hb).grown hg (by simpa using hat)⟩
theorem ten_cell_at (w : World) (cs : Array Value) (t : TypeId) : ∀ j z, cs.toList[j]? = some z → (w.alloc (.cells cs t)).cell? ((⟨w.heap.size, 0, none⟩ : Addr).add j) = some z := fun j z hj => by
  have ha : (⟨w.heap.size, 0, none⟩ : Addr).add j = ⟨w.heap.size, j, none⟩ := by unfold Addr.add; split <;> simp_all
  rw [ha]
  refine (cell_of_row _ w.heap.size j _ t (0, 0) (heap_alloc_new w _)).trans ?_
  simpa using hj
end Go.Proofs.YthnkehdcolnegaaGreat

namespace Go.Proofs.YthnkehdcolnegaaGreat
open Go.RowKit

/-- A number's bytes. -/
def ulebB : Nat → Nat → List UInt8
  | 0, _ => []
  | f + 1, n => if n < 128 then [UInt8.ofNat n] else UInt8.ofNat (128 + n % 128) :: ulebB f (n / 128)

theorem ulebB_length : ∀ f n, (ulebB f n).length ≤ f
  | 0, _ => Nat.le_refl _
  | f + 1, n => by
    unfold ulebB
    split
    · simp
    · have := ulebB_length f (n / 128)
      simp
      omega

end Go.Proofs.YthnkehdcolnegaaGreat

namespace Go.Proofs.YthnkehdcolnegaaGreat
open Go.RowKit

def nRela : ByteArray := ⟨#[46, 114, 101, 108, 97]⟩
def nGroup : ByteArray := ⟨#[46, 103, 114, 111, 117, 112]⟩
def nSig : ByteArray := ⟨#[46, 108, 108, 118, 109, 95, 97, 100, 100, 114, 115, 105, 103]⟩
def nSymtab : ByteArray := ⟨#[46, 115, 121, 109, 116, 97, 98]⟩
def nStrtab : ByteArray := ⟨#[46, 115, 116, 114, 116, 97, 98]⟩
def nShstr : ByteArray := ⟨#[46, 115, 104, 115, 116, 114, 116, 97, 98]⟩
def nNone : ByteArray := ⟨#[]⟩

/-! ## Parts -/
def fouOf (r : RelD) : Fou := ⟨r.off, r.type, r.sym, r.add⟩
def relsBy (l : List RelD) : List UInt8 := l.flatMap fun r => relB (fouOf r)
def relHead (a n : Int) : Ten := ⟨0, 4, 0, 0, 0, 0, a, n, 8, 24⟩
def relPart (a n : Int) (s : SecD) : List PartD := if s.rels.length = 0 then [] else [⟨relHead a n, nRela, relsBy s.rels⟩]
def relPartAt (a : Int) (secs : List SecD) (i : Nat) : List PartD := match secs[i]? with | some s => relPart a ((i : Int) + 1) s | none => []
def relPs (a : Int) (secs : List SecD) (k : Nat) : List PartD := (List.range k).flatMap (relPartAt a secs)
theorem relPs_succ {a : Int} {secs : List SecD} {k : Nat} {s : SecD} (h : secs[k]? = some s) : relPs a secs (k + 1) = relPs a secs k ++ relPart a ((k : Int) + 1) s := by
  unfold relPs
  rw [List.range_succ, List.flatMap_append]
  simp [relPartAt, h]
theorem relPart_len (a n : Int) (s : SecD) : (relPart a n s).length ≤ 1 := by unfold relPart; split <;> simp
theorem relPs_len (a : Int) (secs : List SecD) : ∀ k, (relPs a secs k).length ≤ k
  | 0 => by simp [relPs]
  | k + 1 => by
    have ih := relPs_len a secs k
    unfold relPs at ih ⊢
    rw [List.range_succ, List.flatMap_append, List.length_append]
    have : (relPartAt a secs k).length ≤ 1 := by
      unfold relPartAt
      split
      · exact relPart_len _ _ _
      · simp
    simp
    simp at ih
    omega
theorem flatMap_len {α β : Type} (f g : α → List β) (h : ∀ x, (f x).length = (g x).length) : ∀ l : List α, (l.flatMap f).length = (l.flatMap g).length
  | [] => rfl
  | x :: r => by rw [List.flatMap_cons, List.flatMap_cons, List.length_append, List.length_append, h x, flatMap_len f g h r]
theorem relPs_len_any (a b : Int) (secs : List SecD) (k : Nat) : (relPs a secs k).length = (relPs b secs k).length :=
  flatMap_len _ _ (fun i => by unfold relPartAt relPart; split <;> (try split) <;> rfl) _
theorem relsBy_snoc (l : List RelD) (r : RelD) : relsBy (l ++ [r]) = relsBy l ++ relB (fouOf r) := by simp [relsBy]
theorem relsBy_length : ∀ l : List RelD, (relsBy l).length = 24 * l.length
  | [] => rfl
  | r :: l => by
    have ih := relsBy_length l
    unfold relsBy at ih ⊢
    rw [List.flatMap_cons, List.length_append, relB_length, ih, List.length_cons]
    omega

def memB (m : Int) : List UInt8 := leB 4 (u64n m)
def groupBy (ms : List Int) : List UInt8 := [1, 0, 0, 0] ++ ms.flatMap memB
theorem groupBy_snoc (l : List Int) (r : Int) : groupBy (l ++ [r]) = groupBy l ++ memB r := by simp [groupBy]
theorem groupBy_length : ∀ l : List Int, (groupBy l).length = 4 + 4 * l.length
  | [] => rfl
  | r :: l => by
    have ih := groupBy_length l
    unfold groupBy at ih ⊢
    simp only [List.length_append, List.flatMap_cons, List.length_cons, List.length_nil] at ih ⊢
    have : (memB r).length = 4 := leB_length _ _
    omega
def groupHead (a y : Int) : Ten := ⟨0, 17, 0, 0, 0, 0, a, y, 4, 4⟩
def groupPart (a : Int) (g : GroupD) : PartD := ⟨groupHead a g.sym, nGroup, groupBy g.members⟩
def sigBy (l : List Int) : List UInt8 := l.flatMap fun n => ulebB 5 n.toNat
theorem sigBy_snoc (l : List Int) (r : Int) : sigBy (l ++ [r]) = sigBy l ++ ulebB 5 r.toNat := by simp [sigBy]
theorem sigBy_length : ∀ l : List Int, (sigBy l).length ≤ 5 * l.length
  | [] => Nat.le_refl _
  | r :: l => by
    have ih := sigBy_length l
    unfold sigBy at ih ⊢
    have := ulebB_length 5 r.toNat
    rw [List.flatMap_cons, List.length_append, List.length_cons]
    omega
def sigHead (a : Int) : Ten := ⟨0, 1879002115, 0, 0, 0, 0, a, 0, 1, 0⟩
def sigPart (a : Int) (l : List Int) : PartD := ⟨sigHead a, nSig, sigBy l⟩
def groupPs (a : Int) (gs : List GroupD) (has : Bool) (sig : List Int) : List PartD := gs.map (groupPart a) ++ bif has then [sigPart a sig] else []
theorem groupPs_len_any (a b : Int) (gs : List GroupD) (has : Bool) (sig : List Int) : (groupPs a gs has sig).length = (groupPs b gs has sig).length := by cases has <;> simp [groupPs]
theorem groupPs_len (a : Int) (gs : List GroupD) (has : Bool) (sig : List Int) : (groupPs a gs has sig).length ≤ gs.length + 1 := by cases has <;> simp [groupPs]

def symIdx (x : Int) : Int := if x = -1 then 65521 else x
def sixOf (pl : Nat) (s : SymD) : Six := ⟨pl, s.bind, s.type, symIdx s.sec, s.value, s.size⟩
def symNames (l : List SymD) : List Nm := l.map fun s => lst s.name
def symsBy (ns : List Nm) (l : List SymD) : List UInt8 := l.flatMap fun s => entB (sixOf (placeOf ns (lst s.name)) s)
theorem symsBy_snoc (ns : List Nm) (l : List SymD) (s : SymD) : symsBy ns (l ++ [s]) = symsBy ns l ++ entB (sixOf (placeOf ns (lst s.name)) s) := by simp [symsBy]
theorem symsBy_length (ns : List Nm) : ∀ l : List SymD, (symsBy ns l).length = 24 * l.length
  | [] => rfl
  | r :: l => by
    have ih := symsBy_length ns l
    unfold symsBy at ih ⊢
    rw [List.flatMap_cons, List.length_append, entB_length, ih, List.length_cons]
    omega
def localsOf (l : List SymD) : Nat := (l.filter fun s => s.bind == 0).length
theorem localsOf_snoc (l : List SymD) (s : SymD) : localsOf (l ++ [s]) = localsOf l + (bif s.bind == 0 then 1 else 0) := by
  unfold localsOf
  rw [List.filter_append, List.length_append]
  cases h : s.bind == 0 <;> simp [h]
theorem localsOf_le (l : List SymD) : localsOf l ≤ l.length := List.length_filter_le _ _
def symHead (a : Int) (n : Nat) : Ten := ⟨0, 2, 0, 0, 0, 0, a + 1, n, 8, 24⟩
def tabHead : Ten := ⟨0, 3, 0, 0, 0, 0, 0, 0, 1, 0⟩
def symPs (a : Int) (l : List SymD) : List PartD := [⟨symHead a (localsOf l), nSymtab, symsBy (symNames l) l⟩, ⟨tabHead, nStrtab, (tabOf (symNames l)).tb⟩]

def secHead (s : SecD) : Ten := ⟨0, s.type, s.flags, 0, 0, s.size, s.link, 0, s.align, s.ent⟩
def secPart (s : SecD) : PartD := ⟨secHead s, s.name, s.data⟩
def nul10 : Ten := ⟨0, 0, 0, 0, 0, 0, 0, 0, 0, 0⟩
def zeroPart : PartD := ⟨nul10, nNone, []⟩
/-- The number of the symbols' header. -/
def symNo (o : ObjD) : Nat := 1 + o.secs.length + (relPs 0 o.secs o.secs.length).length + (groupPs 0 o.groups o.hasSig o.sig).length
/-- All parts but that of the headers' names. -/
def partsOf (o : ObjD) : List PartD := zeroPart :: o.secs.map secPart ++ relPs (symNo o) o.secs o.secs.length ++ groupPs (symNo o) o.groups o.hasSig o.sig ++ symPs (symNo o) o.syms
theorem partsOf_length (o : ObjD) : (partsOf o).length = symNo o + 2 := by
  unfold partsOf
  simp only [List.length_append, List.length_cons, List.length_map]
  rw [relPs_len_any (symNo o) 0, groupPs_len_any (symNo o) 0]
  unfold symNo symPs
  simp only [List.length_cons, List.length_nil]
  omega

/-! ## How they are laid -/
def headNames (l : List PartD) : List Nm := l.map (fun p => lst p.name) ++ [lst nShstr]
def lastPart (ns : List Nm) : PartD := ⟨tabHead, nNone, (tabOf ns).tb⟩
def bodyOf (l : List PartD) : List UInt8 := l.flatMap PartD.b
theorem bodyOf_snoc (l : List PartD) (p : PartD) : bodyOf (l ++ [p]) = bodyOf l ++ p.b := by simp [bodyOf]
/-- The header of part i, whose bytes begin at off in the body. -/
def headAt (pl : List Nat) (i : Nat) (off : Nat) (p : PartD) : Ten :=
  ⟨((pl.getD i 0 : Nat) : Int), p.h.b, p.h.c, p.h.d, if i = 0 then p.h.e else 64 + (off : Int), if i = 0 ∨ p.h.b = 8 then p.h.f else (p.b.length : Int), p.h.g, p.h.h, p.h.i, p.h.j⟩
def headBy (pl : List Nat) (l : List PartD) (i : Nat) : List UInt8 := match l[i]? with
  | some p => sectB (headAt pl i (bodyOf (l.take i)).length p)
  | none => []
def headsBy (pl : List Nat) (l : List PartD) (k : Nat) : List UInt8 := (List.range k).flatMap (headBy pl l)
theorem headsBy_succ {pl : List Nat} {l : List PartD} {k : Nat} {p : PartD} (h : l[k]? = some p) : headsBy pl l (k + 1) = headsBy pl l k ++ sectB (headAt pl k (bodyOf (l.take k)).length p) := by
  unfold headsBy
  rw [List.range_succ, List.flatMap_append]
  simp [headBy, h]
theorem headsBy_length (pl : List Nat) (l : List PartD) : ∀ k, k ≤ l.length → (headsBy pl l k).length = 64 * k
  | 0, _ => rfl
  | k + 1, h => by
    have ih := headsBy_length pl l k (by omega)
    rw [headsBy_succ (List.getElem?_eq_getElem h), List.length_append, ih, sectB_length]
    omega
def layOf (l : List PartD) : List UInt8 :=
  let ns := headNames l
  let a := l ++ [lastPart ns]
  hdrB (64 + (bodyOf a).length) a.length (a.length - 1) ++ bodyOf a ++ headsBy (placesOf ns) a a.length
def bytesOf (o : ObjD) : List UInt8 := layOf (partsOf o)

/-- What the laying asks of an object. -/
structure Lays (o : ObjD) : Prop where
  nsec : o.secs.length ≤ 40
  nsym : o.syms.length ≤ 140
  ngrp : o.groups.length ≤ 40
  nsig : o.sig.length ≤ 16384
  secs : ∀ s ∈ o.secs, fitsB s.type = true ∧ fitsB s.flags = true ∧ fitsB s.size = true ∧ fitsB s.link = true ∧ fitsB s.align = true ∧ fitsB s.ent = true ∧ mayB (lst s.name) = true ∧ s.data.length ≤ 20000 ∧ s.rels.length ≤ 80 ∧
    (s.type ≠ 8 → s.size = s.data.length) ∧ ∀ r ∈ s.rels, (fouOf r).may ∧ -9223372036854775808 ≤ r.add ∧ r.add ≤ 9223372036854775807
  grps : ∀ g ∈ o.groups, fitsB g.sym = true ∧ g.members.length ≤ 50 ∧ ∀ m ∈ g.members, fitsB m = true
  syms : ∀ s ∈ o.syms, mayB (lst s.name) = true ∧ fitsB s.value = true ∧ fitsB s.size = true ∧ 0 ≤ s.bind ∧ s.bind ≤ 2 ∧ 0 ≤ s.type ∧ s.type ≤ 3 ∧ -1 ≤ s.sec ∧ s.sec ≤ 40
  sigs : ∀ n ∈ o.sig, fitsB n = true

theorem placesOf_length' (ns : List Nm) : (placesOf ns).length = ns.length := by simp [placesOf]
theorem placeOf_le (ns : List Nm) (m : Nm) (h : m = [] ∨ m ∈ ns) : placeOf ns m ≤ (tabOf ns).tb.length := by
  obtain ⟨r, hr⟩ := stands ns m h
  have : ((tabOf ns).tb.drop (placeOf ns m)).length = m.length + (r.length + 1) := by rw [hr]; simp
  rw [List.length_drop] at this
  omega
theorem tab_small (ns : List Nm) (hl : ns.length ≤ 10000) (h : ∀ n ∈ ns, mayB n = true) : (tabOf ns).tb.length ≤ 330001 := by
  rcases tab_length ns with h1 | ⟨n, hn, h2⟩
  · omega
  · rw [h n hn] at h2
    cases h2
theorem places_small (l : List SymD) (hl : l.length ≤ 10000) (h : ∀ s ∈ l, mayB (lst s.name) = true) : ∀ s ∈ l, placeOf (symNames l) (lst s.name) ≤ 2147483647 := fun s hs => by
  have h1 := placeOf_le (symNames l) (lst s.name) (.inr (List.mem_map.2 ⟨s, hs, rfl⟩))
  have h2 := tab_small (symNames l) (by unfold symNames; simpa using hl) fun n hn => by
    obtain ⟨y, hy, rfl⟩ := List.mem_map.1 hn
    exact h y hy
  omega

/-! ## What fits -/
def PartOK (p : PartD) : Prop := p.b.length ≤ 400000 ∧ fitsB p.h.b = true ∧ fitsB p.h.c = true ∧ fitsB p.h.d = true ∧ fitsB p.h.e = true ∧ fitsB p.h.f = true ∧ fitsB p.h.g = true ∧ fitsB p.h.h = true ∧ fitsB p.h.i = true ∧ fitsB p.h.j = true
theorem fitsN (n : Nat) (h : n ≤ 2147483647) : fitsB (n : Int) = true := (fitsB_iff _).2 ⟨by omega, by omega⟩
theorem symNo_le {o : ObjD} (hl : Lays o) : symNo o ≤ 122 := by
  have h1 := relPs_len 0 o.secs o.secs.length
  have h2 := groupPs_len 0 o.groups o.hasSig o.sig
  have h3 := hl.nsec
  have h4 := hl.ngrp
  unfold symNo
  omega
theorem partsOf_ok {o : ObjD} (hl : Lays o) : ∀ p ∈ partsOf o, PartOK p := fun p hp => by
  have ha := symNo_le hl
  unfold partsOf at hp
  simp only [List.mem_append, List.mem_cons, List.mem_map] at hp
  rcases hp with (((rfl | ⟨s, hs, rfl⟩) | hp) | hp) | hp
  · exact ⟨by simp [zeroPart], rfl, rfl, rfl, rfl, rfl, rfl, rfl, rfl, rfl⟩
  · obtain ⟨h1, h2, h3, h4, h5, h6, _, h8, _⟩ := hl.secs s hs
    exact ⟨by show s.data.length ≤ _; omega, h1, h2, rfl, rfl, h3, h4, rfl, h5, h6⟩
  · unfold relPs at hp
    obtain ⟨i, hi, hp⟩ := List.mem_flatMap.1 hp
    have hi2 := List.mem_range.1 hi
    have h3 := hl.nsec
    unfold relPartAt at hp
    split at hp
    · rename_i s hs
      unfold relPart at hp
      split at hp
      · simp at hp
      · simp only [List.mem_singleton] at hp
        subst hp
        have hr := (hl.secs s (List.mem_of_getElem? hs)).2.2.2.2.2.2.2.2.1
        refine ⟨by show (relsBy s.rels).length ≤ _; rw [relsBy_length]; omega, rfl, rfl, rfl, rfl, rfl, fitsN _ (by omega), ?_, rfl, rfl⟩
        show fitsB ((i : Int) + 1) = true
        exact (fitsB_iff _).2 ⟨by omega, by omega⟩
    · simp at hp
  · unfold groupPs at hp
    rcases List.mem_append.1 hp with hp | hp
    · obtain ⟨g, hg, rfl⟩ := List.mem_map.1 hp
      obtain ⟨h1, h2, _⟩ := hl.grps g hg
      exact ⟨by show (groupBy g.members).length ≤ _; rw [groupBy_length]; omega, rfl, rfl, rfl, rfl, rfl, fitsN _ (by omega), h1, rfl, rfl⟩
    · cases hs : o.hasSig with
      | false => rw [hs] at hp; simp at hp
      | true =>
        rw [hs] at hp
        simp only [cond_true, List.mem_singleton] at hp
        subst hp
        have h5 := sigBy_length o.sig
        have h6 := hl.nsig
        exact ⟨by show (sigBy o.sig).length ≤ _; omega, rfl, rfl, rfl, rfl, rfl, fitsN _ (by omega), rfl, rfl, rfl⟩
  · unfold symPs at hp
    simp only [List.mem_cons, List.not_mem_nil, or_false] at hp
    have h5 := hl.nsym
    rcases hp with rfl | rfl
    · have h6 := localsOf_le o.syms
      refine ⟨by show (symsBy _ o.syms).length ≤ _; rw [symsBy_length]; omega, rfl, rfl, rfl, rfl, rfl, ?_, fitsN _ (by omega), rfl, rfl⟩
      show fitsB ((symNo o : Int) + 1) = true
      exact (fitsB_iff _).2 ⟨by omega, by omega⟩
    · have h6 := tab_small (symNames o.syms) (by unfold symNames; simp; omega) fun n hn => by
        obtain ⟨y, hy, rfl⟩ := List.mem_map.1 hn
        exact (hl.syms y hy).1
      exact ⟨by show (tabOf (symNames o.syms)).tb.length ≤ _; omega, rfl, rfl, rfl, rfl, rfl, rfl, rfl, rfl, rfl⟩
theorem partsOf_names {o : ObjD} (hl : Lays o) : ∀ p ∈ partsOf o, mayB (lst p.name) = true := fun p hp => by
  unfold partsOf at hp
  simp only [List.mem_append, List.mem_cons, List.mem_map] at hp
  rcases hp with (((rfl | ⟨s, hs, rfl⟩) | hp) | hp) | hp
  · rfl
  · exact (hl.secs s hs).2.2.2.2.2.2.1
  · unfold relPs at hp
    obtain ⟨i, hi, hp⟩ := List.mem_flatMap.1 hp
    unfold relPartAt at hp
    split at hp
    · unfold relPart at hp
      split at hp
      · simp at hp
      · simp only [List.mem_singleton] at hp
        subst hp
        show mayB (lst nRela) = true
        decide
    · simp at hp
  · unfold groupPs at hp
    rcases List.mem_append.1 hp with hp | hp
    · obtain ⟨g, hg, rfl⟩ := List.mem_map.1 hp
      show mayB (lst nGroup) = true
      decide
    · cases hs : o.hasSig with
      | false => rw [hs] at hp; simp at hp
      | true =>
        rw [hs] at hp
        simp only [cond_true, List.mem_singleton] at hp
        subst hp
        show mayB (lst nSig) = true
        decide
  · unfold symPs at hp
    simp only [List.mem_cons, List.not_mem_nil, or_false] at hp
    rcases hp with rfl | rfl
    · show mayB (lst nSymtab) = true
      decide
    · show mayB (lst nStrtab) = true
      decide
theorem body_len : ∀ (l : List PartD), (∀ p ∈ l, PartOK p) → (bodyOf l).length ≤ 400000 * l.length
  | [], _ => Nat.le_refl _
  | p :: r, h => by
    have ih := body_len r fun q hq => h q (List.mem_cons_of_mem _ hq)
    have h1 := (h p (List.mem_cons_self ..)).1
    unfold bodyOf at ih ⊢
    rw [List.flatMap_cons, List.length_append, List.length_cons]
    omega
/-- All parts that are laid. -/
def allOf (o : ObjD) : List PartD := partsOf o ++ [lastPart (headNames (partsOf o))]
theorem headNames_ok {o : ObjD} (hl : Lays o) : ∀ n ∈ headNames (partsOf o), mayB n = true := fun n hn => by
  unfold headNames at hn
  rcases List.mem_append.1 hn with hn | hn
  · obtain ⟨p, hp, rfl⟩ := List.mem_map.1 hn
    exact partsOf_names hl p hp
  · simp only [List.mem_singleton] at hn
    subst hn
    decide
theorem headNames_length (l : List PartD) : (headNames l).length = l.length + 1 := by unfold headNames; simp
theorem allOf_length (o : ObjD) : (allOf o).length = symNo o + 3 := by unfold allOf; rw [List.length_append, partsOf_length]; rfl
theorem allOf_ok {o : ObjD} (hl : Lays o) : ∀ p ∈ allOf o, PartOK p := fun p hp => by
  unfold allOf at hp
  rcases List.mem_append.1 hp with hp | hp
  · exact partsOf_ok hl p hp
  · simp only [List.mem_singleton] at hp
    subst hp
    have ha := symNo_le hl
    have h6 := tab_small (headNames (partsOf o)) (by rw [headNames_length, partsOf_length]; omega) (headNames_ok hl)
    exact ⟨by show (tabOf _).tb.length ≤ _; omega, rfl, rfl, rfl, rfl, rfl, rfl, rfl, rfl, rfl⟩
theorem places_le {o : ObjD} (hl : Lays o) (i p : Nat) (h : (placesOf (headNames (partsOf o)))[i]? = some p) : p ≤ 330001 := by
  unfold placesOf at h
  rw [List.getElem?_map] at h
  obtain ⟨n, hn, rfl⟩ := Option.map_eq_some_iff.1 h
  have ha := symNo_le hl
  have h6 := tab_small (headNames (partsOf o)) (by rw [headNames_length, partsOf_length]; omega) (headNames_ok hl)
  have h7 := placeOf_le (headNames (partsOf o)) n (.inr (List.mem_of_getElem? hn))
  omega
theorem body_take {o : ObjD} (hl : Lays o) (i : Nat) : (bodyOf ((allOf o).take i)).length ≤ 50000000 := by
  have ha := symNo_le hl
  have h := body_len ((allOf o).take i) fun p hp => allOf_ok hl p (List.mem_of_mem_take hp)
  have h2 : ((allOf o).take i).length ≤ symNo o + 3 := by rw [← allOf_length]; simp; omega
  omega
theorem heads_may {o : ObjD} (hl : Lays o) (i : Nat) (p : PartD) (h : (allOf o)[i]? = some p) : (headAt (placesOf (headNames (partsOf o))) i (bodyOf ((allOf o).take i)).length p).may := by
  obtain ⟨h0, h1, h2, h3, h4, h5, h6, h7, h8, h9⟩ := allOf_ok hl p (List.mem_of_getElem? h)
  have hb := body_take hl i
  have hi : i < (placesOf (headNames (partsOf o))).length := by
    rw [placesOf_length', headNames_length, partsOf_length]
    have := (List.getElem?_eq_some_iff.1 h).1
    rw [allOf_length] at this
    omega
  have hpl := places_le hl i _ (List.getElem?_eq_getElem hi)
  intro x hx
  unfold headAt Ten.l at hx
  simp only [List.mem_cons, List.not_mem_nil, or_false] at hx
  rcases hx with rfl | rfl | rfl | rfl | rfl | rfl | rfl | rfl | rfl | rfl
  · refine fitsN _ ?_
    rw [List.getD_eq_getElem?_getD, List.getElem?_eq_getElem hi]
    simp only [Option.getD_some]
    omega
  · exact h1
  · exact h2
  · exact h3
  · split
    · exact h4
    · exact (fitsB_iff _).2 ⟨by omega, by omega⟩
  · split
    · exact h5
    · exact fitsN _ (by omega)
  · exact h6
  · exact h7
  · exact h8
  · exact h9
theorem bytesOf_eq (o : ObjD) : bytesOf o = hdrB (64 + (bodyOf (allOf o)).length) (allOf o).length ((allOf o).length - 1) ++ bodyOf (allOf o) ++ headsBy (placesOf (headNames (partsOf o))) (allOf o) (allOf o).length := rfl

end Go.Proofs.YthnkehdcolnegaaGreat
