/-
  Parts of a proof.
-/
import Derived.Test.YteopgmieindojaaGreatGW23
import Derived.Test.YteopgmieindojaaGreatShapeA
import Derived.Test.YteopgmieindojaaGreatGW01
import Derived.Test.YteopgmieindojaaGreatGW04
import Derived.Test.YteopgmieindojaaGreatMem0
import Derived.Lib.AppendStr
import Derived.Deep.QuietTactic
import Derived.BigQuiet
import Derived.Deep.DeepCutAuto
import Derived.Deep.CutBlock
import Derived.Laws.Closers25
import Derived.Test.YteopgmieindojaaGreatGW16
import Derived.Maps.OwnSet
import Derived.Maps.OwnOps
namespace Go.Proofs.YteopgmieindojaaGreat
open Go.RowKit
end Go.Proofs.YteopgmieindojaaGreat

namespace Go.Proofs.YteopgmieindojaaGreat
open Go.RowKit
def inR (n a b : Int) : Bool := decide (a ≤ n) && decide (n ≤ b)
theorem ownWithin_any (n a b : Int) (w : World) : Calls Tryz.prog 153 #[.int .i64 n, .int .i64 a, .int .i64 b] w fun e w' => e = .returned (.bool (inR n a b)) ∧ w = w' := by
 by_cases h1 : a ≤ n
 ·have d1 : decide (a ≤ n) = true := decide_eq_true h1
  have HR : Hid (inR n a b = decide (n ≤ b)) := Lib.hid (by unfold inR; rw [d1]; rfl)
  by_cases h2 : n ≤ b
  ·have d2 : decide (n ≤ b) = true := decide_eq_true h2
   have HR2 : Hid (inR n a b = true) := Lib.hid (by rw [HR.out, d2])
   clear h1 h2
   go_enter Tryz.func153, Tryz.ntmps153
   go_wp2_with fail
   go_ret
   rw [HR2.out]
   exact ⟨rfl, rfl⟩
  ·have d2 : decide (n ≤ b) = false := decide_eq_false h2
   have HR2 : Hid (inR n a b = false) := Lib.hid (by rw [HR.out, d2])
   clear h1 h2
   go_enter Tryz.func153, Tryz.ntmps153
   go_wp2_with fail
   go_ret
   rw [HR2.out]
   exact ⟨rfl, rfl⟩
 ·have d1 : decide (a ≤ n) = false := decide_eq_false h1
  have HR : Hid (inR n a b = false) := Lib.hid (by unfold inR; rw [d1]; rfl)
  clear h1
  go_enter Tryz.func153, Tryz.ntmps153
  go_wp2_with fail
  go_ret
  rw [HR.out]
  exact ⟨rfl, rfl⟩
theorem ownIsPlace_any (n : Int) (w : World) : Calls Tryz.prog 189 #[.int .i64 n] w fun e w' => e = .returned (.bool (inR n 0 2147483647)) ∧ w = w' := by
 have HW := Lib.hid fun W => ownWithin_any n 0 2147483647 W
 go_enter Tryz.func189, Tryz.ntmps189
 go_wp2_with fail
 refine (HW.out _).mono ?_
 rintro e w' ⟨rfl, rfl⟩
 go_wp2_with fail
 go_ret
 exact ⟨rfl, rfl⟩
theorem ownHas_any (nm : ByteArray) (ty fl al en li sz : Int) (vd vr : Value) (k : Int) (w : World) :
  Calls Tryz.prog 154 #[secV nm ty fl al en li sz vd vr, .int .i64 k] w fun e w' => e = .returned (.bool (hasO fl k)) ∧ Below w.heap.size w w' := by
 go_enter Tryz.func154, Tryz.ntmps154
 go_wp2_with fail
 go_ret
 exact ⟨rfl, (Below.refl _ w).alloc (Nat.le_refl _) _⟩
end Go.Proofs.YteopgmieindojaaGreat

namespace Go.Proofs.YteopgmieindojaaGreat
open Go.RowKit
def HasS (w : World) (p : Option Addr) (ss : List ByteArray) : Prop :=
 ∀ i x, ss[i]? = some x → ∃ a, p = some a ∧ w.cell? (a.add i) = some (.string x)
theorem HasS.below {w w' : World} {p : Option Addr} {ss : List ByteArray} (h : HasS w p ss) (hb : Below w.heap.size w w') : HasS w' p ss := fun i x hx => by
 obtain ⟨a, e, hc⟩ := h i x hx
 exact ⟨a, e, (hb.cell (World.block_lt_of_cell? w _ hc)).trans hc⟩
theorem HasS.at_ {w : World} {p : Option Addr} {ss : List ByteArray} (h : HasS w p ss) {i : Nat} (hi : i < ss.length) :
  ∃ b off x, p = some ⟨b, off, none⟩ ∧ ss[i]? = some x ∧ w.cell? ⟨b, off + i, none⟩ = some (.string x) := by
 obtain ⟨⟨b, off, spot⟩, e, hc⟩ := h i ss[i] (List.getElem?_eq_getElem hi)
 have hs : spot = none := by
  obtain ⟨a0, e0, hc0⟩ := h 0 ss[0] (List.getElem?_eq_getElem (by omega))
  rw [e] at e0
  cases e0
  simpa [Addr.add] using World.cell?_spot hc0
 subst hs
 refine ⟨b, off, ss[i], e, List.getElem?_eq_getElem hi, ?_⟩
 have ha : (⟨b, off, none⟩ : Addr).add i = ⟨b, off + i, none⟩ := by unfold Addr.add; split <;> simp_all
 rwa [ha] at hc
theorem HasS.plain {w : World} {p : Option Addr} {ss : List ByteArray} (h : HasS w p ss) (hl : 0 < ss.length) :
  ∃ b off, p = some ⟨b, off, none⟩ ∧ ∀ i x, ss[i]? = some x → w.cell? ⟨b, off + i, none⟩ = some (.string x) := by
 obtain ⟨b, off, x, e, _, _⟩ := h.at_ hl
 refine ⟨b, off, e, fun i y hy => ?_⟩
 obtain ⟨b', off', y', e', hy', hc⟩ := h.at_ (List.getElem?_eq_some_iff.1 hy).1
 rw [e] at e'
 simp only [Option.some.injEq, Addr.mk.injEq, and_true] at e'
 obtain ⟨rfl, rfl⟩ := e'
 rw [hy] at hy'
 cases hy'
 exact hc
abbrev lst (s : ByteArray) : Nm := s.data.toList
theorem strCells_lst (s : ByteArray) : Lib.strCells s = (lst s).map u8v := by simp [Lib.strCells, u8v]
theorem owns_apart {w : World} {b1 b2 : Nat} {e1 e2 : TypeId} {s1 s2 : Nat} {v1 v2 : Value} {n1 n2 : Nat} {xs1 xs2 : List Value} (h1 : w.ownsRow b1 e1 s1 v1 n1 xs1) (h2 : w.ownsRow b2 e2 s2 v2 n2 xs2) (he : e1 ≠ e2) :
  v1.ownBlock = none ∨ v1.ownBlock ≠ v2.ownBlock := by
 rcases h1.2 with ⟨rfl, _⟩ | ⟨g, cap, cur, rfl, _, hg, _⟩
 ·exact .inl rfl
 ·right
  rcases h2.2 with ⟨rfl, _⟩ | ⟨g', cap', cur', rfl, _, hg', _⟩
  ·simp [Value.ownBlock]
  ·simp only [Value.ownBlock, ne_eq, Option.some.injEq]
   intro e
   subst e
   rw [hg] at hg'
   simp only [Option.some.injEq, Obj.cells.injEq] at hg'
   exact he hg'.2.1
end Go.Proofs.YteopgmieindojaaGreat

namespace Go.Proofs.YteopgmieindojaaGreat
open Go.RowKit
end Go.Proofs.YteopgmieindojaaGreat

namespace Go.Proofs.YteopgmieindojaaGreat
open Go.RowKit
def GivesT (ns : List Nm) (w : World) (e : Ending) (w' : World) : Prop :=
 ∃ v1 v2, e = .returned (.tuple #[v1, v2]) ∧ w'.ownsRow w.heap.size 5 1 v1 (tabOf ns).tb.length ((tabOf ns).tb.map u8v) ∧ w'.ownsRow w.heap.size 3 1 v2 (placesOf ns).length (natV (placesOf ns)) ∧ Below w.heap.size w w'
theorem placesOf_length (ns : List Nm) : (placesOf ns).length = ns.length := by simp [placesOf]
theorem zero_row (w : World) : (w.alloc (.cells #[.int .u8 0] 5)).ownsRow w.heap.size 5 1 (.slice (some ⟨w.heap.size, 0, none⟩) 1 1) 1 ([0].map u8v) :=
 World.ownsRow_lit w #[u8v 0] 1 (Nat.le_refl _) (by unfold maxLen; omega) rfl
theorem one_cell_at (w : World) (x : UInt8) : ∀ j z, [u8v x][j]? = some z → (w.alloc (.cells #[.int .u8 (x.toNat : Int)] 5)).cell? ((⟨w.heap.size, 0, none⟩ : Addr).add j) = some z := fun j z hj => by
 match j, hj with
 | 0, hj => simp at hj; subst hj; simp [Addr.add, u8v]
theorem one_cells (x : UInt8) : ∀ u ∈ [u8v x], u.oneCell' = true := fun u hu => by simp at hu; subst hu; rfl
theorem row_snoc2 (out : List UInt8) (d : UInt8) : out.map u8v ++ [u8v d] = (out ++ [d]).map u8v := by simp
end Go.Proofs.YteopgmieindojaaGreat

namespace Go.Proofs.YteopgmieindojaaGreat
open Go.RowKit Go.Maps Go.WideMaps
theorem may_idx (l : List UInt8) : mayB l = (decide (l.length ≤ 32) && decide (Lib.indexByte l 0 < 0)) := by
 rcases first_of 0 l with ⟨k, h1, h2⟩ | h
 ·rw [mayB_zero h1, idx_some h2 h1]
  simp
 ·rw [idx_none h]
  by_cases hl : l.length ≤ 32
  ·rw [mayB_yes hl fun i y _ hy => h i y hy]
   simp [hl]
  ·rw [mayB_long (by omega)]
   simp [hl]
set_option maxRecDepth 100000 in
theorem sMay_any (s : ByteArray) (w : World) : Calls Tryz.prog 188 #[.string s] w fun e w' => e = .returned (.bool (mayB (lst s))) ∧ w = w' := by
 have HN := Lib.hid (strIdx_any s 0 w)
 have hz : (lst s).length = s.size := by simp
 have hm : mayB (lst s) = (decide (s.size ≤ 32) && decide (Lib.indexByte (lst s) 0 < 0)) := by rw [may_idx, hz]
 clear hz
 by_cases h32 : s.size ≤ 32
 ·have hI : (s.size : Int) ≤ 32 := by omega
  by_cases h0 : Lib.indexByte (lst s) 0 < 0
  ·have HM : Hid (mayB (lst s) = true) := Lib.hid (by rw [hm]; simp [h32, h0])
   have hd : decide (Lib.indexByte s.data.toList (Int.toNat 0).toUInt8 < 0) = true := decide_eq_true h0
   clear hm h0
   generalize Lib.indexByte s.data.toList (Int.toNat 0).toUInt8 = r at *
   have hr : r < 0 := of_decide_eq_true hd
   clear hd
   go_enter Tryz.func188, Tryz.ntmps188
   go_wp2_with fail
   refine HN.out.mono ?_
   rintro e w' ⟨rfl, rfl⟩
   go_wp2_with fail
   go_ret
   exact ⟨by rw [HM.out]; first | rfl | (simp; omega) | fail, rfl⟩
  ·have HM : Hid (mayB (lst s) = false) := Lib.hid (by rw [hm]; simp [h0])
   have hd : ¬ Lib.indexByte s.data.toList (Int.toNat 0).toUInt8 < 0 := h0
   clear hm h0
   generalize Lib.indexByte s.data.toList (Int.toNat 0).toUInt8 = r at *
   go_enter Tryz.func188, Tryz.ntmps188
   go_wp2_with fail
   refine HN.out.mono ?_
   rintro e w' ⟨rfl, rfl⟩
   go_wp2_with fail
   go_ret
   exact ⟨by rw [HM.out]; first | rfl | (simp; omega) | fail, rfl⟩
 ·have HM : Hid (mayB (lst s) = false) := Lib.hid (by rw [hm]; simp [h32])
  have hI : ¬ (s.size : Int) ≤ 32 := by omega
  clear hm
  go_enter Tryz.func188, Tryz.ntmps188
  go_wp2_with fail
  go_ret
  exact ⟨by rw [HM.out]; first | rfl | (simp; omega) | fail, rfl⟩
theorem wpList_insert_own {H : Type} {P : Program} (w : World) {ops : Array Oper} {rest : List Oper} {o : Oper} {a : Act} {Q : Exit → Act → World → Prop}
  (hg : o.guard = none) (m x v : Operand) (t : TypeId) (hop : o.op = Op.insert t m x v)
  (k e : TypeId) (K : Keyed P k) (ht : P.underlying t = some (.map k e)) (R : Value → Option (DataW H × List MemPlace)) (b n : Nat) (D : DataW H)
  (hm : a.eval m = .map (some b)) (hown : w.ownsMap P k R b n D) (hn : n < maxLen) (key val : Value) (kl : Lit) (hx : a.eval x = key) (hv : a.eval v = val) (hkey : keyOf P k key = some kl)
  (d : DataW H) (ps : List MemPlace) (hval : R val = some (d, ps))
  (hK : ∀ w', w'.ownsMap P k R b (n + 1) (D.put kl d) → w.grownBy w' (some b) → wpList P ops Q rest (a.put o.dst undef) w') :
  wpList P ops Q (o :: rest) a w := by
 refine wpList_plain hg fun K' hK' => ?_
 obtain ⟨w', hrun, r1, r2⟩ := hown.update K ht hn hkey hval
 unfold Oper.wp
 simp [execOp, hop, hm, hx, hv, hrun, Result.andThen]
 exact hK' _ _ (hK w' r1 r2)
theorem map_apart {H : Type} {P : Program} {w : World} {b1 b : Nat} {e1 k : TypeId} {s1 : Nat} {v1 : Value} {n1 n : Nat} {xs1 : List Value} {R : Value → Option (DataW H × List MemPlace)} {D : DataW H} (h1 : w.ownsRow b1 e1 s1 v1 n1 xs1) (h2 : w.ownsMap P k R b n D) :
  v1.ownBlock = none ∨ v1.ownBlock ≠ some b := by
 obtain ⟨es, clock, hb, _⟩ := h2
 rcases h1.2 with ⟨rfl, _⟩ | ⟨g, cap, cur, rfl, _, hg, _⟩
 ·exact .inl rfl
 ·right
  simp only [Value.ownBlock, ne_eq, Option.some.injEq]
  intro e
  subst e
  rw [hg] at hb
  cases hb
theorem map_apart2 {H : Type} {P : Program} {w : World} {b1 b : Nat} {e1 k : TypeId} {s1 : Nat} {v1 : Value} {n1 n : Nat} {xs1 : List Value} {R : Value → Option (DataW H × List MemPlace)} {D : DataW H} (h1 : w.ownsRow b1 e1 s1 v1 n1 xs1) (h2 : w.ownsMap P k R b n D) :
  some b ≠ v1.ownBlock := by
 rcases map_apart h1 h2 with h | h
 ·rw [h]; simp
 ·exact fun e => h e.symm
theorem keyLaw : Keyed Tryz.prog 9 := string_keyed Tryz.underlying9
theorem zeroInt (w : World) : (zeroValue 3).run Tryz.prog w = .ok (.int .i64 0) w := by kernel_rfl
def Knows (wr : World) (b k : Nat) (ns : List Nm) : Prop :=
 ∃ D : DataW Unit, wr.ownsMap Tryz.prog 9 (plainElem Tryz.prog 3) b k D ∧ ∀ n : Nm, ((n = [] ∨ n ∈ ns) ∧ Maps.has D (.string n) = true ∧ D.atKey (.string n) (.lit (.int .i64 0)) = .lit (.int .i64 (placeOf ns n : Int))) ∨ (¬ (n = [] ∨ n ∈ ns) ∧ Maps.has D (.string n) = false)
theorem isKey (n : Nm) : WideAt.IsKeyLit (.string n) := trivial
theorem knows_start {wr : World} {b : Nat} (h : wr.ownsMap Tryz.prog 9 (plainElem (H := Unit) Tryz.prog 3) b 1 ((DataW.map []).put (.string []) (.lit (.int .i64 0)))) : Knows wr b 1 [] := by
 refine ⟨_, h, fun n => ?_⟩
 by_cases hn : n = []
 ·subst hn
  refine .inl ⟨.inl rfl, has_put_same isMap_empty (isKey _) _, ?_⟩
  rw [atKey_put_same isMap_empty (isKey _)]
  rfl
 ·refine .inr ⟨by simp [hn], ?_⟩
  rw [has_put_other (by simpa using hn)]
  rfl
theorem knows_old {wr : World} {b k : Nat} {ns : List Nm} {x : Nm} (h : Knows wr b k ns) (hx : x = [] ∨ x ∈ ns) : Knows wr b (k + 1) (ns ++ [x]) := by
 obtain ⟨D, hD, hn⟩ := h
 refine ⟨D, hD.mono (Nat.le_succ _), fun n => ?_⟩
 rcases hn n with ⟨h1, h2, h3⟩ | ⟨h1, h2⟩
 ·refine .inl ⟨?_, h2, by rw [placeOf_old x h1]; exact h3⟩
  rcases h1 with h1 | h1
  ·exact .inl h1
  ·exact .inr (List.mem_append_left _ h1)
 ·refine .inr ⟨fun hc => ?_, h2⟩
  rcases hc with hc | hc
  ·exact h1 (.inl hc)
  ·rcases List.mem_append.1 hc with hc | hc
   ·exact h1 (.inr hc)
   ·simp at hc
    subst hc
    exact h1 hx
theorem knows_new {D : DataW Unit} {wr : World} {b k : Nat} {ns : List Nm} {x : Nm} {p : Nat} (hn : ∀ n : Nm, ((n = [] ∨ n ∈ ns) ∧ Maps.has D (.string n) = true ∧ D.atKey (.string n) (.lit (.int .i64 0)) = .lit (.int .i64 (placeOf ns n : Int))) ∨ (¬ (n = [] ∨ n ∈ ns) ∧ Maps.has D (.string n) = false))
  (hD : IsMap D) (h : wr.ownsMap Tryz.prog 9 (plainElem Tryz.prog 3) b (k + 1) (D.put (.string x) (.lit (.int .i64 (p : Int))))) (h0 : x ≠ []) (hx : x ∉ ns) (hp : p = (tabOf ns).tb.length) : Knows wr b (k + 1) (ns ++ [x]) := by
 subst hp
 refine ⟨_, h, fun n => ?_⟩
 by_cases e : n = x
 ·subst e
  refine .inl ⟨.inr (by simp), has_put_same hD (isKey _) _, ?_⟩
  rw [atKey_put_same hD (isKey _), (tab_new h0 hx).2]
 ·rw [has_put_other (by simpa using e), atKey_put_other (by simpa using e)]
  rcases hn n with ⟨h1, h2, h3⟩ | ⟨h1, h2⟩
  ·refine .inl ⟨?_, h2, by rw [placeOf_old x h1]; exact h3⟩
   rcases h1 with h1 | h1
   ·exact .inl h1
   ·exact .inr (List.mem_append_left _ h1)
  ·refine .inr ⟨fun hc => ?_, h2⟩
   rcases hc with hc | hc
   ·exact h1 (.inl hc)
   ·rcases List.mem_append.1 hc with hc | hc
    ·exact h1 (.inr hc)
    ·simp at hc
     exact e hc
def plRow (ns : List Nm) (len : Nat) : List Value := natV (placesOf ns) ++ List.replicate (len - ns.length) (.int .i64 0)
theorem plRow_zero (len : Nat) : plRow [] len = List.replicate len (.int .i64 0) := by simp [plRow, placesOf, natV]
theorem plRow_full {ns : List Nm} {len : Nat} (h : ns.length = len) : plRow ns len = natV (placesOf ns) := by simp [plRow, h]
theorem natV_length (l : List Nat) : (natV l).length = l.length := by simp [natV]
theorem plRow_step {ns : List Nm} {x : Nm} {len q : Nat} (h : ns.length < len) (hq : q = placeOf (ns ++ [x]) x) : (plRow ns len).set ns.length (.int .i64 (q : Int)) = plRow (ns ++ [x]) len := by
 have hl : (natV (placesOf ns)).length = ns.length := by rw [natV_length, placesOf_length]
 unfold plRow
 rw [List.set_append_right _ _ (by omega), hl, Nat.sub_self, show len - ns.length = (len - (ns ++ [x]).length) + 1 by simp; omega, List.replicate_succ, List.set_cons_zero, placesOf_snoc, ← hq, ← natV_snoc]
 simp
theorem plRow_length {ns : List Nm} {len : Nat} (h : ns.length ≤ len) : (plRow ns len).length = len := by
 unfold plRow
 rw [List.length_append, natV_length, placesOf_length, List.length_replicate]
 omega
set_option maxRecDepth 100000 in
set_option maxHeartbeats 2000000 in
theorem sMake_wide (p : Option Addr) (len cap : Nat) (ss : List ByteArray) (w : World) (h : HasS w p ss) (hlen : ss.length = len) (hl100 : len ≤ 1000) (hs : ∀ s ∈ ss, mayB (lst s) = true) :
  Calls Tryz.prog 124 #[.slice p len cap] w (GivesT (ss.map lst) w) := by
 obtain ⟨i0, hi, hz0, hz1, hz2⟩ := info_parts Tryz.infoU8
 obtain ⟨i1, gi, gz0, gz1, gz2⟩ := info_parts Tryz.infoInt
 have HI := Lib.hid hi
 have H0 := Lib.hid hz0
 have H1 := Lib.hid hz1
 have H2 := Lib.hid hz2
 have GI := Lib.hid gi
 have G0 := Lib.hid gz0
 have G1 := Lib.hid gz1
 have G2 := Lib.hid gz2
 have HS := Lib.hid hs
 have HM := Lib.hid h
 have HL := Lib.hid hlen
 have gb8 : i1.bytes * len ≤ 281474976710656 := by rw [gz2]; omega
 clear hs h hlen hi hz0 hz1 hz2 gi gz0 gz1 gz2
 have hmm := @run_makeMap Tryz.prog
 go_enter Tryz.func124, Tryz.ntmps124
 go_wp2_with (refine wpList_insert_own (H := Unit) _ rfl (.tmp 12) _ _ 265 rfl 9 3 keyLaw Tryz.underlying265 (plainElem Tryz.prog 3) (w.heap.size + 1) 0 _ rfl (by simpa using World.ownsMap_made (w.alloc (.cells #[.int .u8 0] 5)) _ _ _) (by unfold maxLen; omega) _ _ _ rfl rfl (keyOf_string_mk Tryz.underlying9 (by decide)) _ [] (plainElem_int Tryz.underlying3 (by decide)) ?_)
 intro w1 hm1 hg1
 have hk1 : Knows w1 (w.heap.size + 1) 1 [] := knows_start hm1
 have ht1 : w1.ownsRow w.heap.size 5 1 (.slice (some ⟨w.heap.size, 0, none⟩) 1 1) 1 ([0].map u8v) := ((zero_row w).alloc (.map #[] 0)).kept hg1 (.inr (by simp [Value.ownBlock]))
 have hb1 : Below w.heap.size w w1 := (((Below.refl _ w).alloc (Nat.le_refl _) _).alloc (by simp) _).grown hg1 (by simp; omega) (fun g hg => by simp at hg; omega)
 clear hm1 hg1
 go_wp2_with (at_make; refine wpList_make_full _ rfl _ _ 25 rfl w.heap.size 3 i1 (.int .i64 0) 1 Tryz.underlying25 GI.out G0.out G1.out _ _ _ _ len rfl rfl rfl rfl gb8 (by unfold maxLen; omega) hb1.size ?_)
 intro w2 hp2 hg2
 have hk2 : Knows w2 (w.heap.size + 1) 1 [] := let ⟨D, hD, hn⟩ := hk1; ⟨D, hD.kept hg2 (by simp), hn⟩
 have ht2 := ht1.kept hg2 (.inr (by simp [Value.ownBlock]))
 have hb2 : Below w.heap.size w w2 := hb1.grown hg2 hb1.size (fun g hg => by cases hg)
 have hp3 : w2.ownsRow w.heap.size 3 1 (.slice (some ⟨w1.heap.size, 0, none⟩) len len) len (plRow [] len) := by
  rw [plRow_zero, ← toList_madeCells_one]
  exact hp2
 clear hp2 hg2 hk1 ht1 hb1
 generalize w1.heap.size = gp at *
 go_wp2_with fail
 go_loopw [4, 19] (fun out ii wr => ∃ (k n : Nat) (ns : List Nm), k ≤ len ∧ n ≤ 33 * k + 1 ∧ ns = (ss.take k).map lst ∧ ii = .int .i64 (k : Int) ∧ wr.ownsRow w.heap.size 5 1 out n ((tabOf ns).tb.map u8v) ∧ wr.ownsRow w.heap.size 3 1 (.slice (some ⟨gp, 0, none⟩) len len) len (plRow ns len) ∧ Knows wr (w.heap.size + 1) (k + 1) ns ∧ Below w.heap.size w wr) (fun _ ii _ => len - (intOf ii).toNat)
 case atStart => exact ⟨0, 1, [], Nat.zero_le _, Nat.le_refl _, rfl, rfl, ht2, hp3, hk2, hb2⟩
 case round =>
  obtain ⟨k, n, ns, hk, hn, hns, rfl, hown, hpl, hkn, hb⟩ := hrel
  have HN := Lib.hid hns
  clear hns ht2 hp3 hk2 hb2
  by_cases hlt : k < len
  ·obtain ⟨b, off, x, rfl, hx, hc0⟩ := HM.out.at_ (i := k) (by rw [HL.out]; exact hlt)
   have hc := cell_later hb hc0
   have HX := Lib.hid hx
   have hI1 : (k : Int) < (len : Int) := by omega
   have hI0 : (0 : Int) ≤ (k : Int) := by omega
   have hnsl : ns.length = k := by rw [HN.out]; simp; have := HL.out; omega
   have HNL := Lib.hid hnsl
   have hx32 := (all_ne (HS.out x (List.mem_of_getElem? HX.out))).1
   have hxs : (lst x).length = x.size := by simp
   have hsz : x.size ≤ 32 := by omega
   have hn1 : (ss.take (k + 1)).map lst = ns ++ [lst x] := by
    rw [List.take_add_one, HX.out, HN.out]
    simp
   have HN1 := Lib.hid hn1
   obtain ⟨D, hD, hwho⟩ := hkn
   have hkey : keyOf Tryz.prog 9 (.string x) = some (.string (lst x)) := keyOf_string_mk Tryz.underlying9 (by unfold maxLen; omega)
   have HW := Lib.hid hwho
   have HK := Lib.hid hkey
   clear hc0 hx hnsl hx32 hxs hn1 hwho hkey
   rcases HW.out (lst x) with ⟨hold, hhas, hatk⟩ | ⟨hnew, hhas⟩
   ·have HT := Lib.hid (tab_old hold)
    have HO := Lib.hid hold
    have HAT := Lib.hid hatk
    have HAS := Lib.hid hhas
    clear hold hatk hhas
    go_wp2_with (at_lookup; refine wpList_lookup_own_ok_int wr rfl (.tmp 25) (.tmp 26) 265 rfl 9 3 .i64 keyLaw Tryz.underlying265 Tryz.underlying3 (zeroInt _) (w.heap.size + 1) (k + 1) D rfl hD _ _ rfl HK.out ?_)
    intro c hat _
    have hcq : c = (placeOf ns (lst x) : Int) := by rw [HAT.out] at hat; simpa using hat.symm
    have HQ : Hid (placeOf ns (lst x) = placeOf (ns ++ [lst x]) (lst x)) := Lib.hid HT.out.2.symm
    rw [HAS.out]
    clear hat
    obtain ⟨q, hq⟩ : ∃ q, q = placeOf ns (lst x) := ⟨_, rfl⟩
    rw [← hq] at hcq HQ
    subst hcq
    clear hq
    have hcp : wr.cell? ⟨gp, k, none⟩ = some ((plRow ns len)[k]'(by rw [plRow_length (by have := HNL.out; omega)]; exact hlt)) := by
     rw [hpl.cellAt k (by omega)]
     exact List.getElem?_eq_getElem _
    generalize (plRow ns len)[k]'(by rw [plRow_length (by have := HNL.out; omega)]; exact hlt) = u0 at hcp
    have hf := hpl.frozenAt k
    have hst := hpl.stored k (.int .i64 (q : Int))
    rw [show k = ns.length from HNL.out.symm, plRow_step (by have := HNL.out; omega) HQ.out, HNL.out] at hst
    have HST := Lib.hid hst
    have hap := owns_apart hown hpl (by decide)
    have HTB : Hid ((wr.setCell ⟨gp, k, none⟩ (.int .i64 (q : Int))).ownsRow w.heap.size 5 1 u4 n ((tabOf (ns ++ [lst x])).tb.map u8v)) := Lib.hid (by rw [HT.out.1]; exact hown.kept hst.2 hap)
    have HKN : Hid (Knows (wr.setCell ⟨gp, k, none⟩ (.int .i64 (q : Int))) (w.heap.size + 1) (k + 1 + 1) (ns ++ [lst x])) := Lib.hid (knows_old ⟨D, hD.kept hst.2 (map_apart2 hpl hD), HW.out⟩ HO.out)
    have HBL : Hid (Below w.heap.size w (wr.setCell ⟨gp, k, none⟩ (.int .i64 (q : Int)))) := Lib.hid (hb.setCell (hpl.lt gp rfl).1 _)
    clear hst hap hD hown hpl hb
    go_wp2_with fail
    go_roundw
    case rel => exact ⟨k + 1, n, ns ++ [lst x], hlt, by omega, HN1.out.symm, by go_num, HTB.out, HST.out.1, HKN.out, HBL.out⟩
    case measure => simp [intOf]; omega
   ·have HNW : Hid (lst x ≠ [] ∧ lst x ∉ ns) := Lib.hid (not_or.1 hnew)
    have HT := Lib.hid (tab_new (not_or.1 hnew).1 (not_or.1 hnew).2)
    have HAS := Lib.hid hhas
    have hnt : (tabOf ns).tb.length = n := by have := hown.1; simpa using this
    have HNT := Lib.hid hnt
    obtain ⟨p4, c4, rfl, _, _, _, _⟩ := Has.of_owns hown
    clear hnew hhas hnt
    go_wp2_with (at_lookup; refine wpList_lookup_own_ok_int wr rfl (.tmp 25) (.tmp 26) 265 rfl 9 3 .i64 keyLaw Tryz.underlying265 Tryz.underlying3 (zeroInt _) (w.heap.size + 1) (k + 1) D rfl hD _ _ rfl HK.out ?_)
    intro c _ _
    rw [HAS.out]
    go_wp2_with (at_mapUpdate; refine wpList_mapUpdate_own wr rfl (.tmp 34) (.tmp 35) (.tmp 36) 265 rfl 9 3 keyLaw Tryz.underlying265 (plainElem Tryz.prog 3) (w.heap.size + 1) (k + 1) D rfl hD (by unfold maxLen; omega) _ _ _ rfl rfl HK.out _ [] (plainElem_int Tryz.underlying3 (WalkArith.wf_i64 (by omega))) ?_)
    intro w3 hD3 hg3
    have hkn3 : Knows w3 (w.heap.size + 1) (k + 1 + 1) (ns ++ [lst x]) := knows_new HW.out hD.isMap hD3 HNW.out.1 HNW.out.2 HNT.out.symm
    have hown3 := hown.kept hg3 (map_apart hown hD)
    have hpl3 := hpl.kept hg3 (map_apart hpl hD)
    have hb3 : Below w.heap.size w w3 := hb.grown hg3 hb.size (fun g hg => by simp at hg; omega)
    clear hD3 hg3 hown hpl hD hb
    have hap := owns_apart hpl3 hown3 (by decide)
    go_wp2_with (at_builtin; refine Lib.wpList_append_own_string w3 rfl (.tmp 37) (.tmp 38) 31 9 rfl w.heap.size 5 i0 Tryz.underlying31 Tryz.underlying9 HI.out H0.out H1.out H2.out _ n _ rfl hown3 x rfl (by unfold maxLen; omega) (by omega) hb3.size ?_)
    intro v5 w5 hown5 hgrow5 _
    have hpl5 := hpl3.kept hgrow5 hap
    have hb5 : Below w.heap.size w w5 := hb3.grown hgrow5 hb3.size (fun g hg => (hown3.lt g hg).1)
    have hkn5 : Knows w5 (w.heap.size + 1) (k + 1 + 1) (ns ++ [lst x]) := let ⟨D3, hD3, hn3⟩ := hkn3; ⟨D3, hD3.kept hgrow5 (map_apart2 hown3 hD3), hn3⟩
    rw [strCells_lst, ← List.map_append] at hown5
    clear hgrow5 hpl3 hap hown3 hb3 hkn3
    go_wp2_with (at_builtin; refine wpList_append_own _ rfl (.tmp 40) (.tmp 41) 31 rfl w.heap.size 5 i0 (.int .u8 0) 1 1 Tryz.underlying31 HI.out H0.out H1.out H2.out rfl (by decide) _ _ _ rfl (hown5.alloc _) ⟨w5.heap.size, 0, none⟩ 1 1 [u8v 0] rfl rfl (one_cell_at w5 0) (one_cells 0) (by unfold maxLen; omega) (by omega) (by have := hb5.size; simp; omega) ?_)
    intro v6 w6 hown6 hgrow6 _
    have hap6 := owns_apart (hpl5.alloc (.cells #[.int .u8 0] 5)) (hown5.alloc (.cells #[.int .u8 0] 5)) (by decide)
    have hpl6 := (hpl5.alloc (.cells #[.int .u8 0] 5)).kept hgrow6 hap6
    have hb6 : Below w.heap.size w w6 := (hb5.alloc hb5.size _).grown hgrow6 (by have := hb5.size; simp; omega) (fun g hg => (hown5.lt g hg).1)
    have hkn6 : Knows w6 (w.heap.size + 1) (k + 1 + 1) (ns ++ [lst x]) := let ⟨D5, hD5, hn5⟩ := hkn5; ⟨D5, (hD5.alloc (.cells #[.int .u8 0] 5)).kept hgrow6 (map_apart2 (hown5.alloc (.cells #[.int .u8 0] 5)) (hD5.alloc (.cells #[.int .u8 0] 5))), hn5⟩
    rw [row_snoc2] at hown6
    clear hgrow6 hpl5 hap6 hown5 hb5 hkn5
    have hcp : w6.cell? ⟨gp, k, none⟩ = some ((plRow ns len)[k]'(by rw [plRow_length (by have := HNL.out; omega)]; exact hlt)) := by
     rw [hpl6.cellAt k (by omega)]
     exact List.getElem?_eq_getElem _
    generalize (plRow ns len)[k]'(by rw [plRow_length (by have := HNL.out; omega)]; exact hlt) = u0 at hcp
    have hf := hpl6.frozenAt k
    have hst := hpl6.stored k (.int .i64 (n : Int))
    rw [show k = ns.length from HNL.out.symm, plRow_step (q := n) (by have := HNL.out; omega) (by rw [HT.out.2, HNT.out]), HNL.out] at hst
    have HST := Lib.hid hst
    have hap7 := owns_apart hown6 hpl6 (by decide)
    have hlen6 : n + x.size + 1 ≤ 33 * (k + 1) + 1 := by omega
    have HTB : Hid ((w6.setCell ⟨gp, k, none⟩ (.int .i64 (n : Int))).ownsRow w.heap.size 5 1 v6 (n + x.size + 1) ((tabOf (ns ++ [lst x])).tb.map u8v)) := Lib.hid (by rw [HT.out.1, List.map_append]; exact hown6.kept hst.2 hap7)
    have HKN : Hid (Knows (w6.setCell ⟨gp, k, none⟩ (.int .i64 (n : Int))) (w.heap.size + 1) (k + 1 + 1) (ns ++ [lst x])) := Lib.hid (let ⟨D5, hD5, hn5⟩ := hkn6; ⟨D5, hD5.kept hst.2 (map_apart2 hpl6 hD5), hn5⟩)
    have HBL : Hid (Below w.heap.size w (w6.setCell ⟨gp, k, none⟩ (.int .i64 (n : Int)))) := Lib.hid (hb6.setCell (hpl6.lt gp rfl).1 _)
    clear hst hap7 hown6 hpl6 hb6 hkn6
    go_wp2_with fail
    go_roundw
    case rel => exact ⟨k + 1, n + x.size + 1, ns ++ [lst x], hlt, hlen6, HN1.out.symm, by go_num, HTB.out, HST.out.1, HKN.out, HBL.out⟩
    case measure => simp [intOf]; omega
  ·obtain rfl : k = len := by omega
   have ht : ss.take k = ss := List.take_of_length_le (by rw [HL.out]; exact Nat.le_refl _)
   have HNS : Hid (ns = ss.map lst) := Lib.hid (by rw [HN.out, ht])
   have hnt : (tabOf ns).tb.length = n := by have := hown.1; simpa using this
   have hnsl : ns.length = k := by rw [HN.out, ht]; simp; exact HL.out
   rw [plRow_full hnsl] at hpl
   have hkl : (placesOf ns).length = k := by rw [placesOf_length, hnsl]
   rw [← hnt] at hown
   have hpl2 : wr.ownsRow w.heap.size 3 1 (.slice (some ⟨gp, 0, none⟩) k k) (placesOf ns).length (natV (placesOf ns)) := by rw [hkl]; exact hpl
   rw [HNS.out] at hown hpl2
   clear ht hnt hkl hnsl hpl
   go_wp2_with fail
   go_ret2
   exact ⟨_, _, rfl, hown, hpl2, hb⟩
end Go.Proofs.YteopgmieindojaaGreat

namespace Go.Proofs.YteopgmieindojaaGreat
open Go.RowKit
theorem Tryz.infoStr : (Tryz.prog.info? 9).map (fun i => (i.zero, i.size, i.bytes)) = some (some (.string ⟨#[]⟩), 1, 16) := by kernel_rfl
theorem HasS.of_owns {w : World} {base : Nat} {e : TypeId} {v : Value} {n : Nat} {xs : List ByteArray} (h : w.ownsRow base e 1 v n (xs.map Value.string)) :
  ∃ p c, v = .slice p n c ∧ n ≤ c ∧ c ≤ maxLen ∧ xs.length = n ∧ HasS w p xs := by
 have hl : xs.length = n := by have := h.1; simpa using this
 rcases h.2 with ⟨rfl, hn⟩ | ⟨g, cap, cur, rfl, _, hg, hnc, hcm, _, _⟩
 ·subst hn
  have h0 : xs = [] := List.eq_nil_of_length_eq_zero hl
  subst h0
  exact ⟨none, 0, rfl, Nat.le_refl _, Nat.zero_le _, rfl, fun i x hx => by simp at hx⟩
 ·refine ⟨some ⟨g, 0, none⟩, cap, rfl, hnc, hcm, hl, fun i x hx => ⟨_, rfl, ?_⟩⟩
  have hi : i < n := by have := (List.getElem?_eq_some_iff.1 hx).1; omega
  have hc := h.cellAt i (by omega)
  rw [List.getElem?_map, hx] at hc
  have ha : (⟨g, 0, none⟩ : Addr).add i = ⟨g, i, none⟩ := by unfold Addr.add; split <;> simp_all
  rw [ha]
  simpa using hc
theorem one_str (x : ByteArray) : ∀ u ∈ [Value.string x], u.oneCell' = true := fun u hu => by simp at hu; subst hu; rfl
theorem str_snoc (l : List ByteArray) (x : ByteArray) : l.map Value.string ++ [.string x] = (l ++ [x]).map Value.string := by simp
theorem cells6 (w : World) (g : Nat) (v0 v1 v2 v3 v4 v5 : Value) (T : TypeId) (h : w.heap[g]? = some (.cells #[v0, v1, v2, v3, v4, v5] T (0, 0))) :
  w.cell? ⟨g, 0, none⟩ = some v0 ∧ w.cell? ⟨g, 1, none⟩ = some v1 ∧ w.cell? ⟨g, 2, none⟩ = some v2 ∧ w.cell? ⟨g, 3, none⟩ = some v3 ∧ w.cell? ⟨g, 4, none⟩ = some v4 ∧ w.cell? ⟨g, 5, none⟩ = some v5 := by
 refine ⟨?_, ?_, ?_, ?_, ?_, ?_⟩ <;> exact (cell_of_row w g _ _ _ (0, 0) h).trans rfl
theorem heap_new (w : World) (o : Obj) : (w.alloc o).heap[w.heap.size]? = some o := heap_alloc_new w o
end Go.Proofs.YteopgmieindojaaGreat
