/-
  What the walks of layer shdr ask of the project's Get and Put.
  Contracts of the functions of le and of its reference that only read: which widths there are, whether all bytes are there, the number of bytes, Get.
  Contract: le.Get: the number of the bytes from a place on.
  Parts of an object's bytes (a section header, its name, what it tells): as data, and as rows of structs in memory, in either order of fields.
  Symbols' entries: words, and the contracts of the reference's MayEntry and EntryBytes.
-/
import Derived.Test.YtmcegjkkgbnjlaaGreatJp02
import Derived.Test.YtmcegjkkgbnjlaaGreatJp01
import Derived.LoopTactic
import Derived.Lib.Hide
import Derived.Outline
import Derived.Laws.BitsAllLaws
import Derived.Laws.Bits64
namespace Go.Proofs.YtmcegjkkgbnjlaaGreat
open Go.RowKit

/-- What Get tells, of any place. -/
def TGetOK : Prop := ∀ (p : Option Addr) (len cap : Nat) (l : List UInt8) (at_ : Int) (w : World), Has w p l → l.length = len → len ≤ cap → cap ≤ maxLen → len ≤ 100000 → -9223372036854775808 ≤ at_ → at_ ≤ 9223372036854775807 →
    Calls Tryz.prog 83 #[.slice p len cap, .int .i64 at_] w fun e w' => e = .returned (.tuple #[(sectV (sectAt l at_)).1, .bool (sectV (sectAt l at_)).2]) ∧ Below w.heap.size w w'
/-- What Put tells. -/
def TPutOK : Prop := ∀ (t : Ten) (w : World), (t.may → Calls Tryz.prog 70 #[t.v] w (Gives (sectB t) w)) ∧ (¬ t.may → Calls Tryz.prog 70 #[t.v] w (GivesH 0 [] w))

theorem tsection_any (p : Option Addr) (len cap : Nat) (l : List UInt8) (at_ : Int) (w : World) (h : Has w p l) (hlen : l.length = len) (hcap : len ≤ cap) (hbig : len ≤ 1000000000) (ha : at_ ≤ 9223372036854775807) :
    Calls Tryz.prog 56 #[.slice p len cap, .int .i64 at_] w fun e w' => e = .returned (.tuple #[(sectV (sectAt l at_)).1, .bool (sectV (sectAt l at_)).2]) ∧ Below w.heap.size w w' := by
  by_cases hin : 0 ≤ at_ ∧ at_ + 64 ≤ len
  · obtain ⟨a, rfl⟩ := Int.eq_ofNat_of_zero_le hin.1
    exact section_in p len cap a l w h hlen hcap (by omega) hbig
  · have e : sectAt l at_ = none := by
      unfold sectAt
      rw [if_neg fun hc => hin ⟨hc.1, by omega⟩]
    rw [e]
    exact section_out p len cap at_ w (by omega) ha hbig

end Go.Proofs.YtmcegjkkgbnjlaaGreat

namespace Go.Proofs.YtmcegjkkgbnjlaaGreat
open Go.RowKit

theorem isWidth_any (n : Int) (w : World) : Calls Tryz.prog 129 #[.int .i64 n] w fun e w' => e = .returned (.bool (wid n)) ∧ w = w' := by
  by_cases h1 : n = 1
  · subst h1
    go_enter Tryz.func129, Tryz.ntmps129
    go_wp2
    go_ret
    exact ⟨rfl, rfl⟩
  by_cases h2 : n = 2
  · subst h2
    go_enter Tryz.func129, Tryz.ntmps129
    go_wp2
    go_ret
    exact ⟨rfl, rfl⟩
  by_cases h4 : n = 4
  · subst h4
    go_enter Tryz.func129, Tryz.ntmps129
    go_wp2
    go_ret
    exact ⟨rfl, rfl⟩
  by_cases h8 : n = 8
  · subst h8
    go_enter Tryz.func129, Tryz.ntmps129
    go_wp2
    go_ret
    exact ⟨rfl, rfl⟩
  have hw : wid n = false := by simp [wid, h1, h2, h4, h8]
  have H := Lib.hid hw
  clear hw
  have e1 : (n == 1) = false := by simpa using h1
  have e2 : (n == 2) = false := by simpa using h2
  have e4 : (n == 4) = false := by simpa using h4
  have e8 : (n == 8) = false := by simpa using h8
  clear h1 h2 h4 h8
  go_enter Tryz.func129, Tryz.ntmps129
  go_wp2
  go_ret
  exact ⟨ret_b H.out.symm, rfl⟩

theorem hasAll_any (p : Option Addr) (len cap : Nat) (at_ n : Int) (w : World) (hl : len ≤ maxLen) :
    Calls Tryz.prog 131 #[.slice p len cap, .int .i64 at_, .int .i64 n] w fun e w' => e = .returned (.bool (fitB len at_ n)) ∧ w = w' := by
  unfold maxLen at hl
  by_cases hw : wid n = true
  · have hn := (wid_iff n).1 hw
    have hn1 : 1 ≤ n := by omega
    have hn8 : n ≤ 8 := by omega
    by_cases h0 : 0 ≤ at_
    · by_cases h1 : at_ ≤ (len : Int) - n
      · have H : Hid (fitB len at_ n = true) := Lib.hid ((fitB_iff _ _ _).2 ⟨hn, h0, h1⟩)
        clear hn
        go_enter Tryz.func131, Tryz.ntmps131
        go_wp2_with (go_at_call 129; refine (isWidth_any _ _).mono ?_; rintro e w' ⟨rfl, rfl⟩)
        go_ret
        exact ⟨ret_b H.out.symm, rfl⟩
      · have H : Hid (fitB len at_ n = false) := Lib.hid (by simp [fitB, h1])
        clear hn
        go_enter Tryz.func131, Tryz.ntmps131
        go_wp2_with (go_at_call 129; refine (isWidth_any _ _).mono ?_; rintro e w' ⟨rfl, rfl⟩)
        go_ret
        exact ⟨ret_b (by rw [H.out]; simpa using h1), rfl⟩
    · have H : Hid (fitB len at_ n = false) := Lib.hid (by simp [fitB, h0])
      clear hn
      go_enter Tryz.func131, Tryz.ntmps131
      go_wp2_with (go_at_call 129; refine (isWidth_any _ _).mono ?_; rintro e w' ⟨rfl, rfl⟩)
      go_ret
      exact ⟨ret_b H.out.symm, rfl⟩
  · have hw' : wid n = false := by simpa using hw
    have H : Hid (fitB len at_ n = false) := Lib.hid (by simp [fitB, hw'])
    clear hw
    go_enter Tryz.func131, Tryz.ntmps131
    go_wp2_with (go_at_call 129; refine (isWidth_any _ _).mono ?_; rintro e w' ⟨rfl, rfl⟩)
    go_ret
    exact ⟨ret_b H.out.symm, rfl⟩

end Go.Proofs.YtmcegjkkgbnjlaaGreat

namespace Go.Proofs.YtmcegjkkgbnjlaaGreat
open Go.RowKit

/-- 'v<<8 | x' where nothing is shifted out. -/
theorem or_byte (q x : Nat) (hq : q < 72057594037927936) (hx : x < 256) : bits .or .u64 ((q : Int) * 256) (x : Int) = ((x + 256 * q : Nat) : Int) := by
  rw [show (q : Int) * 256 = ((q * 256 : Nat) : Int) by omega, u64_or_nat _ _ (by omega) (by omega)]
  congr 1
  have h := Nat.two_pow_add_eq_or_of_lt (i := 8) (b := x) (by omega) q
  rw [show (2 : Nat) ^ 8 = 256 from rfl] at h
  rw [Nat.mul_comm q 256, ← h]
  omega

theorem get_any (p : Option Addr) (len cap : Nat) (l : List UInt8) (at_ n : Int) (w : World) (h : Has w p l) (hlen : l.length = len) (hcap : len ≤ cap) (hm : cap ≤ maxLen) :
    Calls Tryz.prog 118 #[.slice p len cap, .int .i64 at_, .int .i64 n] w fun e w' => e = .returned (.tuple #[.int .u64 (getB l at_ n : Int), .bool (fitB len at_ n)]) ∧ w = w' := by
  have hml : len ≤ maxLen := by omega
  unfold maxLen at hm
  by_cases hf : fitB len at_ n = true
  · obtain ⟨hn, h0, h1⟩ := (fitB_iff _ _ _).1 hf
    obtain ⟨j, rfl⟩ := Int.eq_ofNat_of_zero_le h0
    obtain ⟨k, rfl⟩ := Int.eq_ofNat_of_zero_le (show 0 ≤ n by omega)
    have hk8 : k ≤ 8 := by omega
    have hk1 : 1 ≤ k := by omega
    have hjk : j + k ≤ len := by omega
    have HG : Hid (getB l j k = num (win l j k)) := Lib.hid (by simp [getB, hlen, hf])
    have HF := Lib.hid hf
    have HW := Lib.hid (win_length l j k (by omega))
    have hw8 : (win l j k).length ≤ 8 := by rw [HW.out]; exact hk8
    obtain ⟨b, off, rfl, hcell⟩ := h.plain (by omega)
    have hg : ∀ i x, (win l j k)[i]? = some x → w.cell? ⟨b, off + (j + i), none⟩ = some (.int .u8 (x.toNat : Int)) := fun i x hx => by
      have hi : i < k := by have := (List.getElem?_eq_some_iff.1 hx).1; rw [HW.out] at this; exact this
      rw [win_get l j k i hi] at hx
      exact hcell _ _ hx
    have HC := Lib.hid hg
    generalize win l j k = u at *
    clear hn hlen h hcell hg
    go_enter Tryz.func118, Tryz.ntmps118
    go_wp2_with (go_at_call 131; refine (hasAll_any _ _ _ _ _ _ hml).mono ?_; rintro e w' ⟨rfl, rfl⟩)
    have HU := HW.out
    go_loop [8, 9] (fun v i => ∃ k : Int, -1 ≤ k ∧ k < u.length ∧ i = .int .i64 k ∧ v = .int .u64 (num (u.drop (k + 1).toNat) : Int)) (fun _ i => (intOf i + 1).toNat)
    case atStart => exact ⟨(k : Int) - 1, by omega, by omega, rfl, by simp [← HU, num]⟩
    case round =>
      obtain ⟨i, hi, hil, rfl, rfl⟩ := hrel
      clear HU
      by_cases h0 : 0 ≤ i
      · obtain ⟨m, rfl⟩ := Int.eq_ofNat_of_zero_le h0
        have hmu : m < u.length := by omega
        obtain ⟨x, hx⟩ : ∃ x, u[m]? = some x := ⟨_, List.getElem?_eq_getElem hmu⟩
        have hc := HC.out m x hx
        have hx8 := x.toNat_lt
        have e1 : ((m : Int) + 1).toNat = m + 1 := by omega
        have hd := num_drop u m x hx
        have hlt := num_drop_lt u (m + 1) hw8 (by omega)
        rw [e1]
        have HD := Lib.hid hd
        have hmk : m < k := by have := HW.out; omega
        clear hd e1 hx
        generalize num (u.drop (m + 1)) = q at *
        go_wp2
        go_round
        case rel =>
          refine ⟨(m : Int) - 1, by omega, by omega, rfl, ?_⟩
          have e2 : ((m : Int) - 1 + 1).toNat = m := by omega
          rw [e2, HD.out, or_byte _ _ hlt hx8]
        case measure => simp [intOf]
      · go_wp2
        go_ret2
        have e2 : (i + 1).toNat = 0 := by omega
        rw [e2, HG.out]
        exact ⟨rfl, rfl⟩
  · have hf' : fitB len at_ n = false := by simpa using hf
    have HG : Hid (getB l at_ n = 0) := Lib.hid (by simp [getB, hlen, hf'])
    clear hf hlen
    go_enter Tryz.func118, Tryz.ntmps118
    go_wp2_with (go_at_call 131; refine (hasAll_any _ _ _ _ _ _ hml).mono ?_; rintro e w' ⟨rfl, rfl⟩)
    go_ret2
    rw [HG.out, hf']
    exact ⟨rfl, rfl⟩

end Go.Proofs.YtmcegjkkgbnjlaaGreat

namespace Go.Proofs.YtmcegjkkgbnjlaaGreat
open Go.RowKit

structure PartD where
  (h : Ten) (name : ByteArray) (b : List UInt8)
/-- A part as it lies in memory: the slice of what it tells as a value. -/
structure PV where
  (h : Ten) (name : ByteArray) (v : Value)
/-- Its twelve cells: the reference's order (head, name, bytes), or name, head, bytes. -/
def PV.cells (q : Bool) (p : PV) : List Value := bif q then p.h.l.map (Value.int .i64) ++ [.string p.name, p.v] else .string p.name :: (p.h.l.map (Value.int .i64) ++ [p.v])
def pvs (q : Bool) (l : List PV) : List Value := l.flatMap (PV.cells q)
theorem PV.cells_length (q : Bool) (p : PV) : (p.cells q).length = 12 := by cases q <;> rfl
theorem pvs_length (q : Bool) : ∀ l : List PV, (pvs q l).length = l.length * 12
  | [] => rfl
  | p :: r => by
    have h := pvs_length q r
    unfold pvs at h ⊢
    rw [List.flatMap_cons, List.length_append, PV.cells_length, h, List.length_cons]
    omega
theorem pvs_append (q : Bool) (a b : List PV) : pvs q (a ++ b) = pvs q a ++ pvs q b := by unfold pvs; rw [List.flatMap_append]
theorem pvs_snoc (q : Bool) (a : List PV) (p : PV) : pvs q (a ++ [p]) = pvs q a ++ p.cells q := by rw [pvs_append]; unfold pvs; simp
theorem pvs_get (q : Bool) : ∀ (l : List PV) (i : Nat) (p : PV) (j : Nat), l[i]? = some p → j < 12 → (pvs q l)[i * 12 + j]? = (p.cells q)[j]?
  | [], i, p, j, h, _ => by simp at h
  | x :: r, 0, p, j, h, hj => by
    simp at h
    subst h
    unfold pvs
    rw [List.flatMap_cons, List.getElem?_append_left (by rw [PV.cells_length]; omega), Nat.zero_mul, Nat.zero_add]
  | x :: r, i + 1, p, j, h, hj => by
    have ih := pvs_get q r i p j (by simpa using h) hj
    unfold pvs at ih ⊢
    rw [List.flatMap_cons, List.getElem?_append_right (by rw [PV.cells_length]; omega), PV.cells_length, ← ih]
    congr 1
    omega

/-- v is a slice of the bytes l, in blocks as K tells. -/
def SlB (w : World) (K : Nat → Prop) (v : Value) (l : List UInt8) : Prop :=
  ∃ p c, v = .slice p l.length c ∧ l.length ≤ c ∧ c ≤ maxLen ∧ (p = none → c = 0) ∧ ∀ i x, l[i]? = some x → ∃ a, p = some a ∧ w.cell? (a.add i) = some (u8v x) ∧ K a.block
theorem SlB.weaken {w : World} {K K' : Nat → Prop} {v : Value} {l : List UInt8} (h : SlB w K v l) (hK : ∀ b, b < w.heap.size → K b → K' b) : SlB w K' v l := by
  obtain ⟨p, c, e, h1, h2, h3, h4⟩ := h
  refine ⟨p, c, e, h1, h2, h3, fun i x hx => ?_⟩
  obtain ⟨a, ea, hc, hk⟩ := h4 i x hx
  exact ⟨a, ea, hc, hK _ (by have := World.block_lt_of_cell? w _ hc; rwa [block_of_add] at this) hk⟩
theorem SlB.below {w w' : World} {K : Nat → Prop} {v : Value} {l : List UInt8} (h : SlB w K v l) (hb : Below w.heap.size w w') : SlB w' K v l := by
  obtain ⟨p, c, e, h1, h2, h3, h4⟩ := h
  refine ⟨p, c, e, h1, h2, h3, fun i x hx => ?_⟩
  obtain ⟨a, ea, hc, hk⟩ := h4 i x hx
  exact ⟨a, ea, cell_later hb hc, hk⟩
theorem SlB.grown {w w' : World} {row row' : Option Nat} {K : Nat → Prop} {v : Value} {l : List UInt8} (h : SlB w (fun b => K b ∧ some b ≠ row) v l) (hg : w.grownBy w' row) (hat : row' = row ∨ row' = some w.heap.size) : SlB w' (fun b => K b ∧ some b ≠ row') v l := by
  obtain ⟨p, c, e, h1, h2, h3, h4⟩ := h
  refine ⟨p, c, e, h1, h2, h3, fun i x hx => ?_⟩
  obtain ⟨a, ea, hc, hk, hr⟩ := h4 i x hx
  have hlt := World.block_lt_of_cell? w _ hc
  rw [block_of_add] at hlt
  refine ⟨a, ea, hg.cell hc (by rw [block_of_add]; exact hr), hk, ?_⟩
  rcases hat with rfl | rfl
  · exact hr
  · intro h
    have h := Option.some.inj h
    omega
theorem SlB.has {w : World} {K : Nat → Prop} {v : Value} {l : List UInt8} (h : SlB w K v l) : ∃ p c, v = .slice p l.length c ∧ l.length ≤ c ∧ c ≤ maxLen ∧ (p = none → c = 0) ∧ Has w p l := by
  obtain ⟨p, c, e, h1, h2, h3, h4⟩ := h
  refine ⟨p, c, e, h1, h2, h3, fun i x hx => ?_⟩
  obtain ⟨a, ea, hc, _⟩ := h4 i x hx
  exact ⟨a, ea, hc⟩
theorem SlB.of_owns {w : World} {base : Nat} {v : Value} {n : Nat} {l : List UInt8} {T : TypeId} {K : Nat → Prop} (h : w.ownsRow base T 1 v n (l.map u8v)) (hK : ∀ b, v.ownBlock = some b → K b) : SlB w K v l := by
  have hl : l.length = n := by have := h.1; simpa using this
  rcases h.2 with ⟨rfl, hn⟩ | ⟨g, cap, cur, rfl, _, hg, hnc, hcm, _, _⟩
  · subst hn
    have h0 : l = [] := List.eq_nil_of_length_eq_zero hl
    subst h0
    exact ⟨none, 0, rfl, Nat.le_refl _, Nat.zero_le _, fun _ => rfl, fun i x hx => by simp at hx⟩
  · refine ⟨some ⟨g, 0, none⟩, cap, by rw [hl], by omega, hcm, (fun h => by cases h), fun i x hx => ⟨_, rfl, ?_, hK g rfl⟩⟩
    have hi : i < n := by have := (List.getElem?_eq_some_iff.1 hx).1; omega
    have hc := h.cellAt i (by omega)
    rw [List.getElem?_map, hx] at hc
    have ha : (⟨g, 0, none⟩ : Addr).add i = ⟨g, i, none⟩ := by unfold Addr.add; split <;> simp_all
    rw [ha]
    simpa using hc
theorem SlB.oneCell {w : World} {K : Nat → Prop} {v : Value} {l : List UInt8} (h : SlB w K v l) : v.oneCell' = true := by
  obtain ⟨p, c, rfl, _⟩ := h
  rfl

/-- The parts pv lie in memory as pd tells. -/
def PartsAt (w : World) (K : Nat → Prop) (pv : List PV) (pd : List PartD) : Prop :=
  pv.length = pd.length ∧ ∀ (i : Nat) (x : PV) (y : PartD), pv[i]? = some x → pd[i]? = some y → x.h = y.h ∧ x.name = y.name ∧ SlB w K x.v y.b
theorem PartsAt.nil (w : World) (K : Nat → Prop) : PartsAt w K [] [] := ⟨rfl, fun i x y h => by simp at h⟩
theorem PartsAt.weaken {w : World} {K K' : Nat → Prop} {pv : List PV} {pd : List PartD} (h : PartsAt w K pv pd) (hK : ∀ b, b < w.heap.size → K b → K' b) : PartsAt w K' pv pd :=
  ⟨h.1, fun i x y h1 h2 => let ⟨a, b, c⟩ := h.2 i x y h1 h2; ⟨a, b, c.weaken hK⟩⟩
theorem PartsAt.below {w w' : World} {K : Nat → Prop} {pv : List PV} {pd : List PartD} (h : PartsAt w K pv pd) (hb : Below w.heap.size w w') : PartsAt w' K pv pd :=
  ⟨h.1, fun i x y h1 h2 => let ⟨a, b, c⟩ := h.2 i x y h1 h2; ⟨a, b, c.below hb⟩⟩
theorem PartsAt.grown {w w' : World} {row row' : Option Nat} {K : Nat → Prop} {pv : List PV} {pd : List PartD} (h : PartsAt w (fun b => K b ∧ some b ≠ row) pv pd) (hg : w.grownBy w' row) (hat : row' = row ∨ row' = some w.heap.size) : PartsAt w' (fun b => K b ∧ some b ≠ row') pv pd :=
  ⟨h.1, fun i x y h1 h2 => let ⟨a, b, c⟩ := h.2 i x y h1 h2; ⟨a, b, c.grown hg hat⟩⟩
theorem PartsAt.append {w : World} {K : Nat → Prop} {a b : List PV} {c d : List PartD} (h1 : PartsAt w K a c) (h2 : PartsAt w K b d) : PartsAt w K (a ++ b) (c ++ d) := by
  refine ⟨by simp [h1.1, h2.1], fun i x y hx hy => ?_⟩
  rw [List.getElem?_append] at hx hy
  rw [← h1.1] at hy
  split at hx <;> split at hy
  · exact h1.2 i x y hx hy
  · omega
  · omega
  · exact h2.2 _ x y hx hy
theorem PartsAt.one {w : World} {K : Nat → Prop} {h : Ten} {n : ByteArray} {v : Value} {l : List UInt8} (hs : SlB w K v l) : PartsAt w K [⟨h, n, v⟩] [⟨h, n, l⟩] :=
  ⟨rfl, fun i x y hx hy => by
    match i, hx, hy with
    | 0, hx, hy =>
      simp at hx hy
      subst hx hy
      exact ⟨rfl, rfl, hs⟩⟩
theorem PartsAt.oneCell {w : World} {K : Nat → Prop} {q : Bool} {pv : List PV} {pd : List PartD} (h : PartsAt w K pv pd) : ∀ u ∈ pvs q pv, u.oneCell' = true := fun u hu => by
  unfold pvs at hu
  obtain ⟨x, hx, hu⟩ := List.mem_flatMap.1 hu
  obtain ⟨i, hi⟩ := List.getElem?_of_mem hx
  have hil : i < pd.length := by rw [← h.1]; exact (List.getElem?_eq_some_iff.1 hi).1
  have hs := (h.2 i x _ hi (List.getElem?_eq_getElem hil)).2.2.oneCell
  unfold PV.cells at hu
  have hint : ∀ y ∈ x.h.l.map (Value.int .i64), y.oneCell' = true := fun y hy => by
    obtain ⟨z, _, rfl⟩ := List.mem_map.1 hy
    rfl
  cases q
  · simp only [cond_false, List.mem_cons, List.mem_append, List.not_mem_nil, or_false] at hu
    rcases hu with rfl | hu | rfl
    · rfl
    · exact hint _ hu
    · exact hs
  · simp only [cond_true, List.mem_cons, List.mem_append, List.not_mem_nil, or_false] at hu
    rcases hu with hu | rfl | rfl
    · exact hint _ hu
    · rfl
    · exact hs
/-- The call hands back a list of parts in memory of its own; what they tell lies in other blocks, from lo on. -/
def GivesParts (T : TypeId) (q : Bool) (lo : Nat) (pd : List PartD) (w : World) (e : Ending) (w' : World) : Prop :=
  ∃ v pv, e = .returned v ∧ w'.ownsRow w.heap.size T 12 v pd.length (pvs q pv) ∧ PartsAt w' (fun b => lo ≤ b ∧ some b ≠ v.ownBlock) pv pd ∧ Below w.heap.size w w'
/-- One part more, behind 'append(l, Part{..})'. -/
theorem push_part {wr w4 : World} {base lo : Nat} {T : TypeId} {q : Bool} {v v1 : Value} {pv : List PV} {pd : List PartD} {p : PV} {y : PartD} {o : Obj}
    (hpa : PartsAt wr (fun b => lo ≤ b ∧ some b ≠ v.ownBlock) pv pd) (hs : PartsAt wr (fun b => lo ≤ b ∧ some b ≠ v.ownBlock) [p] [y])
    (hown4 : w4.ownsRow base T 12 v1 (pd.length + 1) (pvs q pv ++ p.cells q)) (hg : (wr.alloc o).grownBy w4 v.ownBlock) (hat : v1.ownBlock = v.ownBlock ∨ v1.ownBlock = some (wr.heap.size + 1)) :
    w4.ownsRow base T 12 v1 (pd ++ [y]).length (pvs q (pv ++ [p])) ∧ PartsAt w4 (fun b => lo ≤ b ∧ some b ≠ v1.ownBlock) (pv ++ [p]) (pd ++ [y]) := by
  have hb : Below wr.heap.size wr (wr.alloc o) := (Below.refl _ wr).alloc (Nat.le_refl _) _
  exact ⟨by rw [pvs_snoc, List.length_append]; exact hown4, ((hpa.append hs).below hb).grown hg (by simpa using hat)⟩
theorem ten_cell_at (w : World) (cs : Array Value) (t : TypeId) : ∀ j z, cs.toList[j]? = some z → (w.alloc (.cells cs t)).cell? ((⟨w.heap.size, 0, none⟩ : Addr).add j) = some z := fun j z hj => by
  have ha : (⟨w.heap.size, 0, none⟩ : Addr).add j = ⟨w.heap.size, j, none⟩ := by unfold Addr.add; split <;> simp_all
  rw [ha]
  refine (cell_of_row _ w.heap.size j _ t (0, 0) (heap_alloc_new w _)).trans ?_
  simpa using hj
end Go.Proofs.YtmcegjkkgbnjlaaGreat

namespace Go.Proofs.YtmcegjkkgbnjlaaGreat
open Go.RowKit

/-- Six numbers: a symbol's entry: name, bind, type, index, value, size. -/
structure Six where
  (a b c d e f : Int)
abbrev Six.v (t : Six) : Value := .agg #[.int .i64 t.a, .int .i64 t.b, .int .i64 t.c, .int .i64 t.d, .int .i64 t.e, .int .i64 t.f]
def Six.nums (t : Six) : List Int := [t.a, 4, 16 * t.b + t.c, 1, 0, 1, t.d, 2, t.e, 8, t.f, 8]
def entB (t : Six) : List UInt8 := numsB t.nums
def Six.may (t : Six) : Prop := fitsB t.a = true ∧ fitsB t.e = true ∧ fitsB t.f = true ∧ 0 ≤ t.b ∧ t.b ≤ 2 ∧ 0 ≤ t.c ∧ t.c ≤ 3 ∧ 0 ≤ t.d ∧ t.d ≤ 65535
instance (t : Six) : Decidable t.may := by unfold Six.may; infer_instance
theorem entB_length (t : Six) : (entB t).length = 24 := rfl

theorem fits_true {x : Int} (h : fitsB x = true) (W : World) : Calls Tryz.prog 44 #[.int .i64 x] W fun e w' => e = .returned (.bool true) ∧ W = w' := h ▸ fits_any x W
theorem fits_false {x : Int} (h : ¬ fitsB x = true) (W : World) : Calls Tryz.prog 44 #[.int .i64 x] W fun e w' => e = .returned (.bool false) ∧ W = w' := by
  have h2 : fitsB x = false := by simpa using h
  exact h2 ▸ fits_any x W
theorem fits_b (x : Int) (W : World) : Calls Tryz.prog 44 #[.int .i64 x] W fun e w' => e = .returned (.bool (fitsB x)) ∧ W = w' := fits_any x W

theorem mayE_any (t : Six) (w : World) (A B C : Bool) (hA : fitsB t.a = A) (hB : fitsB t.e = B) (hC : fitsB t.f = C) (r : Bool) (hr : (A && B && C && decide (0 ≤ t.b) && decide (t.b ≤ 2) && decide (0 ≤ t.c) && decide (t.c ≤ 3) && decide (0 ≤ t.d) && decide (t.d ≤ 65535)) = r) :
    Calls Tryz.prog 81 #[t.v] w fun e w' => e = .returned (.bool r) ∧ Below w.heap.size w w' := by
  have HA : Hid (∀ W, Calls Tryz.prog 44 #[.int .i64 t.a] W fun e w' => e = .returned (.bool A) ∧ W = w') := Lib.hid (hA ▸ fits_any t.a)
  have HB : Hid (∀ W, Calls Tryz.prog 44 #[.int .i64 t.e] W fun e w' => e = .returned (.bool B) ∧ W = w') := Lib.hid (hB ▸ fits_any t.e)
  have HC : Hid (∀ W, Calls Tryz.prog 44 #[.int .i64 t.f] W fun e w' => e = .returned (.bool C) ∧ W = w') := Lib.hid (hC ▸ fits_any t.f)
  have HR := Lib.hid hr
  have hb0 : Below w.heap.size w (w.alloc (.cells #[.int .i64 t.a, .int .i64 t.b, .int .i64 t.c, .int .i64 t.d, .int .i64 t.e, .int .i64 t.f] 93)) := (Below.refl _ w).alloc (Nat.le_refl _) _
  clear hA hB hC hr
  cases A with
  | false =>
    go_enter Tryz.func81, Tryz.ntmps81
    go_wp2_with fail
    refine (HA.out _).mono ?_
    rintro e w' ⟨rfl, rfl⟩
    go_wp2_with fail
    refine (HB.out _).mono ?_
    rintro e w' ⟨rfl, rfl⟩
    go_wp2_with fail
    refine (HC.out _).mono ?_
    rintro e w' ⟨rfl, rfl⟩
    go_wp2_with fail
    go_ret
    exact ⟨ret_b (by rw [← HR.out]; rfl), hb0⟩
  | true =>
  cases B with
  | false =>
    go_enter Tryz.func81, Tryz.ntmps81
    go_wp2_with fail
    refine (HA.out _).mono ?_
    rintro e w' ⟨rfl, rfl⟩
    go_wp2_with fail
    refine (HB.out _).mono ?_
    rintro e w' ⟨rfl, rfl⟩
    go_wp2_with fail
    refine (HC.out _).mono ?_
    rintro e w' ⟨rfl, rfl⟩
    go_wp2_with fail
    go_ret
    exact ⟨ret_b (by rw [← HR.out]; rfl), hb0⟩
  | true =>
  cases C with
  | false =>
    go_enter Tryz.func81, Tryz.ntmps81
    go_wp2_with fail
    refine (HA.out _).mono ?_
    rintro e w' ⟨rfl, rfl⟩
    go_wp2_with fail
    refine (HB.out _).mono ?_
    rintro e w' ⟨rfl, rfl⟩
    go_wp2_with fail
    refine (HC.out _).mono ?_
    rintro e w' ⟨rfl, rfl⟩
    go_wp2_with fail
    go_ret
    exact ⟨ret_b (by rw [← HR.out]; rfl), hb0⟩
  | true =>
  by_cases q0 : 0 ≤ t.b
  case neg =>
    have HR0 : Hid (r = false) := Lib.hid (by rw [← HR.out, decide_eq_false q0]; simp)
    go_enter Tryz.func81, Tryz.ntmps81
    go_wp2_with fail
    refine (HA.out _).mono ?_
    rintro e w' ⟨rfl, rfl⟩
    go_wp2_with fail
    refine (HB.out _).mono ?_
    rintro e w' ⟨rfl, rfl⟩
    go_wp2_with fail
    refine (HC.out _).mono ?_
    rintro e w' ⟨rfl, rfl⟩
    go_wp2_with fail
    go_ret
    exact ⟨ret_b (by first | exact HR0.out.symm | (rw [HR0.out]; simp; omega)), hb0⟩
  case pos =>
    by_cases q1 : t.b ≤ 2
    case neg =>
      have HR0 : Hid (r = false) := Lib.hid (by rw [← HR.out, decide_eq_false q1]; simp)
      go_enter Tryz.func81, Tryz.ntmps81
      go_wp2_with fail
      refine (HA.out _).mono ?_
      rintro e w' ⟨rfl, rfl⟩
      go_wp2_with fail
      refine (HB.out _).mono ?_
      rintro e w' ⟨rfl, rfl⟩
      go_wp2_with fail
      refine (HC.out _).mono ?_
      rintro e w' ⟨rfl, rfl⟩
      go_wp2_with fail
      go_ret
      exact ⟨ret_b (by first | exact HR0.out.symm | (rw [HR0.out]; simp; omega)), hb0⟩
    case pos =>
      by_cases q2 : 0 ≤ t.c
      case neg =>
        have HR0 : Hid (r = false) := Lib.hid (by rw [← HR.out, decide_eq_false q2]; simp)
        go_enter Tryz.func81, Tryz.ntmps81
        go_wp2_with fail
        refine (HA.out _).mono ?_
        rintro e w' ⟨rfl, rfl⟩
        go_wp2_with fail
        refine (HB.out _).mono ?_
        rintro e w' ⟨rfl, rfl⟩
        go_wp2_with fail
        refine (HC.out _).mono ?_
        rintro e w' ⟨rfl, rfl⟩
        go_wp2_with fail
        go_ret
        exact ⟨ret_b (by first | exact HR0.out.symm | (rw [HR0.out]; simp; omega)), hb0⟩
      case pos =>
        by_cases q3 : t.c ≤ 3
        case neg =>
          have HR0 : Hid (r = false) := Lib.hid (by rw [← HR.out, decide_eq_false q3]; simp)
          go_enter Tryz.func81, Tryz.ntmps81
          go_wp2_with fail
          refine (HA.out _).mono ?_
          rintro e w' ⟨rfl, rfl⟩
          go_wp2_with fail
          refine (HB.out _).mono ?_
          rintro e w' ⟨rfl, rfl⟩
          go_wp2_with fail
          refine (HC.out _).mono ?_
          rintro e w' ⟨rfl, rfl⟩
          go_wp2_with fail
          go_ret
          exact ⟨ret_b (by first | exact HR0.out.symm | (rw [HR0.out]; simp; omega)), hb0⟩
        case pos =>
          by_cases q4 : 0 ≤ t.d
          case neg =>
            have HR0 : Hid (r = false) := Lib.hid (by rw [← HR.out, decide_eq_false q4]; simp)
            go_enter Tryz.func81, Tryz.ntmps81
            go_wp2_with fail
            refine (HA.out _).mono ?_
            rintro e w' ⟨rfl, rfl⟩
            go_wp2_with fail
            refine (HB.out _).mono ?_
            rintro e w' ⟨rfl, rfl⟩
            go_wp2_with fail
            refine (HC.out _).mono ?_
            rintro e w' ⟨rfl, rfl⟩
            go_wp2_with fail
            go_ret
            exact ⟨ret_b (by first | exact HR0.out.symm | (rw [HR0.out]; simp; omega)), hb0⟩
          case pos =>
            by_cases q5 : t.d ≤ 65535
            case neg =>
              have HR0 : Hid (r = false) := Lib.hid (by rw [← HR.out, decide_eq_false q5]; simp)
              go_enter Tryz.func81, Tryz.ntmps81
              go_wp2_with fail
              refine (HA.out _).mono ?_
              rintro e w' ⟨rfl, rfl⟩
              go_wp2_with fail
              refine (HB.out _).mono ?_
              rintro e w' ⟨rfl, rfl⟩
              go_wp2_with fail
              refine (HC.out _).mono ?_
              rintro e w' ⟨rfl, rfl⟩
              go_wp2_with fail
              go_ret
              exact ⟨ret_b (by first | exact HR0.out.symm | (rw [HR0.out]; simp; omega)), hb0⟩
            case pos =>
              have HR0 : Hid (r = true) := Lib.hid (by rw [← HR.out, decide_eq_true q0, decide_eq_true q1, decide_eq_true q2, decide_eq_true q3, decide_eq_true q4, decide_eq_true q5]; rfl)
              go_enter Tryz.func81, Tryz.ntmps81
              go_wp2_with fail
              refine (HA.out _).mono ?_
              rintro e w' ⟨rfl, rfl⟩
              go_wp2_with fail
              refine (HB.out _).mono ?_
              rintro e w' ⟨rfl, rfl⟩
              go_wp2_with fail
              refine (HC.out _).mono ?_
              rintro e w' ⟨rfl, rfl⟩
              go_wp2_with fail
              go_ret
              exact ⟨ret_b (by first | exact HR0.out.symm | (rw [HR0.out]; simp; omega)), hb0⟩

theorem mayE_yes (t : Six) (w : World) (h : t.may) : Calls Tryz.prog 81 #[t.v] w fun e w' => e = .returned (.bool true) ∧ Below w.heap.size w w' := by
  obtain ⟨h1, h2, h3, h4, h5, h6, h7, h8, h9⟩ := h
  exact mayE_any t w true true true h1 h2 h3 true (by simp [h4, h5, h6, h7, h8, h9])
theorem mayE_no (t : Six) (w : World) (h : ¬ t.may) : Calls Tryz.prog 81 #[t.v] w fun e w' => e = .returned (.bool false) ∧ Below w.heap.size w w' := by
  refine mayE_any t w _ _ _ rfl rfl rfl false ?_
  rw [Bool.eq_false_iff]
  intro hc
  simp only [Bool.and_eq_true, decide_eq_true_eq] at hc
  exact h ⟨hc.1.1.1.1.1.1.1.1, hc.1.1.1.1.1.1.1.2, hc.1.1.1.1.1.1.2, hc.1.1.1.1.1.2, hc.1.1.1.1.2, hc.1.1.1.2, hc.1.1.2, hc.1.2, hc.2⟩

theorem ent_wid (t : Six) : ∀ (i : Nat) (x : Int), t.nums[2 * i + 1]? = some x → wid x = true := fun i x hx => by
  have hi : i < 6 := by have := (List.getElem?_eq_some_iff.1 hx).1; simp [Six.nums] at this; omega
  match i, hi, hx with
  | 0, _, hx | 1, _, hx | 2, _, hx | 3, _, hx | 4, _, hx | 5, _, hx => simp [Six.nums] at hx; subst hx; rfl
theorem ent_bd {t : Six} (h : t.may) : ∀ (i : Nat) (x : Int), t.nums[i]? = some x → -9223372036854775808 ≤ x ∧ x ≤ 9223372036854775807 := fun i x hx => by
  have hm := List.mem_of_getElem? hx
  simp only [Six.nums, List.mem_cons, List.not_mem_nil, or_false] at hm
  obtain ⟨h1, h2, h3, h4, h5, h6, h7, h8, h9⟩ := h
  have g1 := (fitsB_iff _).1 h1
  have g2 := (fitsB_iff _).1 h2
  have g3 := (fitsB_iff _).1 h3
  omega

theorem entryBytes_no (t : Six) (w : World) (h : ¬ t.may) : Calls Tryz.prog 41 #[t.v] w (GivesH 0 [] w) := by
  have HM := Lib.hid fun W => mayE_no t W h
  clear h
  go_enter Tryz.func41, Tryz.ntmps41
  go_wp2_with fail
  refine (HM.out _).mono ?_
  rintro e w2 ⟨rfl, hbb⟩
  go_wp2_with fail
  go_ret
  exact ⟨none, 0, rfl, rfl, Nat.le_refl _, Nat.zero_le _, Has.none_ _ _, ((Below.refl _ w).alloc (Nat.le_refl _) _).trans (hbb.mono (by simp))⟩

set_option maxHeartbeats 2000000 in
theorem entryBytes_yes (t : Six) (w : World) (h : t.may) : Calls Tryz.prog 41 #[t.v] w (Gives (entB t) w) := by
  have HM := Lib.hid fun W => mayE_yes t W h
  have HN := Lib.hid fun (W : World) (p : Option Addr) (hp : HasI W p t.nums) => nums_any p 12 12 6 t.nums W hp rfl rfl (by omega) (ent_wid t) (ent_bd h)
  obtain ⟨_, _, _, h4, h5, h6, h7, h8, h9⟩ := h
  go_enter Tryz.func41, Tryz.ntmps41
  go_wp2_with fail
  refine (HM.out _).mono ?_
  rintro e w2 ⟨rfl, hbb⟩
  have c0 : w2.cell? ⟨w.heap.size, 0, none⟩ = some (.int .i64 t.a) := by rw [hbb.cell (by simp)]; simp
  have c1 : w2.cell? ⟨w.heap.size, 1, none⟩ = some (.int .i64 t.b) := by rw [hbb.cell (by simp)]; simp
  have c2 : w2.cell? ⟨w.heap.size, 2, none⟩ = some (.int .i64 t.c) := by rw [hbb.cell (by simp)]; simp
  have c3 : w2.cell? ⟨w.heap.size, 3, none⟩ = some (.int .i64 t.d) := by rw [hbb.cell (by simp)]; simp
  have c4 : w2.cell? ⟨w.heap.size, 4, none⟩ = some (.int .i64 t.e) := by rw [hbb.cell (by simp)]; simp
  have c5 : w2.cell? ⟨w.heap.size, 5, none⟩ = some (.int .i64 t.f) := by rw [hbb.cell (by simp)]; simp
  have hb : Below w.heap.size w w2 := ((Below.refl _ w).alloc (Nat.le_refl _) _).trans (hbb.mono (by simp))
  clear hbb
  go_wp2_with fail
  refine (HN.out _ _ (lit_hasI w2 3 t.nums #[.int .i64 t.a, .int .i64 4, .int .i64 (16 * t.b + t.c), .int .i64 1, .int .i64 0, .int .i64 1, .int .i64 t.d, .int .i64 2, .int .i64 t.e, .int .i64 8, .int .i64 t.f, .int .i64 8] rfl _ rfl)).mono ?_
  rintro e w3 ⟨v, rfl, ho, hbb3⟩
  have hb3 : Below w.heap.size w w3 := (hb.alloc hb.size _).trans (hbb3.mono (by have := hb.size; simp; omega))
  have ho3 := owns_lower (c := w.heap.size) ho (by have := hb.size; simp; omega)
  clear hbb3 ho
  go_wp2_with fail
  go_ret
  exact ⟨_, rfl, ho3, hb3⟩

end Go.Proofs.YtmcegjkkgbnjlaaGreat
