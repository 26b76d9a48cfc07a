/-
  The document's example of objects: the object of the zero symbol alone is put in 372 bytes, and got again; the object of nothing may not be.
  An object that is got has few of everything, and is of no more bytes than may be. Nothing here walks the program.
  What Put gives of an object that may be, and Get of bytes that are one's, or none's; an object laid in a block; errors compared.
  Contracts of the reference's ints and sameSec, of two that are alike.
-/
import Derived.Test.YtmcegjkkgbnjlaaJa38
import Derived.Lib.IfaceEq
import Derived.Test.YtmcegjkkgbnjlaaObjMem
import Derived.Test.YtmcegjkkgbnjlaaMem
import Derived.Deep.QuietTactic
import Derived.BigQuiet
import Derived.Deep.DeepCutAuto
namespace Go.Proofs.Ytmcegjkkgbnjlaa
open Go.RowKit

def upO : ObjD := ⟨[], [⟨⟨#[]⟩, 0, 0, 0, 0, 0⟩], [], false, []⟩
def noO : ObjD := ⟨[], [], [], false, []⟩
theorem upO_may : mayO upO = true := by kernel_rfl
theorem noO_may : mayO noO = false := by decide
theorem upO_len : (bytesOf upO).length = 372 := by kernel_rfl
theorem upO_small : SmallD upO := ⟨by decide, by decide, by decide, by decide, (fun _ h => by cases h), (fun _ h => by cases h)⟩
theorem noO_small : SmallD noO := ⟨by decide, by decide, by decide, by decide, (fun _ h => by cases h), (fun _ h => by cases h)⟩
theorem upO_add : AddBd upO := fun _ h => by cases h
theorem upO_got : gotB (bytesOf upO) = some upO := got_back upO_may upO_small upO_add
theorem upO_parts (w : World) : ObjParts (w.alloc (.cells #[.string ⟨#[]⟩, .int .i64 0, .int .i64 0, .int .i64 0, .int .i64 0, .int .i64 0] 145)) (.slice none 0 0) (.slice (some ⟨w.heap.size, 0, none⟩) 1 1) (.slice none 0 0) (.slice none 0 0) upO := by
  have h := heap_alloc_new w (.cells #[.string ⟨#[]⟩, .int .i64 0, .int .i64 0, .int .i64 0, .int .i64 0, .int .i64 0] 145)
  refine ⟨⟨none, 0, rfl, Nat.le_refl _, Nat.zero_le _, fun _ => rfl, fun i x hx => by simp [upO] at hx⟩, ⟨_, 1, rfl, Nat.le_refl _, by unfold maxLen; omega, (fun h => by cases h), fun i x hx => ?_⟩, ⟨none, 0, rfl, Nat.le_refl _, Nat.zero_le _, fun _ => rfl, fun i x hx => by simp [upO] at hx⟩, ⟨none, 0, rfl, Nat.le_refl _, Nat.zero_le _, fun _ => rfl, fun i x hx => by simp [upO] at hx⟩⟩
  have hi : i = 0 := by have := (List.getElem?_eq_some_iff.1 hx).1; simp [upO] at this; omega
  subst hi
  simp only [upO, List.getElem?_cons_zero, Option.some.injEq] at hx
  subst hx
  refine ⟨w.heap.size, 0, rfl, ⟨?_, ?_⟩, ⟨?_, ?_⟩, ⟨?_, ?_⟩, ⟨?_, ?_⟩, ⟨?_, ?_⟩, ⟨?_, ?_⟩⟩
  all_goals first | exact (cell_of_row _ _ _ _ _ (0, 0) h).trans rfl | (refine ⟨?_, ?_⟩ <;> decide) | (show (0 : Nat) ≤ maxLen; exact Nat.zero_le _) | fail

/-- What Put gives of the example. -/
theorem upO_put (w : World) : Calls Try.prog 63 #[.agg #[.slice none 0 0, .slice (some ⟨w.heap.size, 0, none⟩) 1 1, .slice none 0 0, .bool false, .slice none 0 0]] (w.alloc (.cells #[.string ⟨#[]⟩, .int .i64 0, .int .i64 0, .int .i64 0, .int .i64 0, .int .i64 0] 145)) fun e w' =>
    Below w.heap.size w w' ∧ ∃ (p : Option Addr) (c : Nat), e = .returned (.tuple #[.slice p 372 c, .nilIface]) ∧ Has w' p (bytesOf upO) ∧ 372 ≤ c ∧ c ≤ maxLen ∧ (p = none → c = 0) := by
  refine (show Calls Try.prog 63 #[.agg #[.slice none 0 0, .slice (some ⟨w.heap.size, 0, none⟩) 1 1, .slice none 0 0, .bool false, .slice none 0 0]] (w.alloc (.cells #[.string ⟨#[]⟩, .int .i64 0, .int .i64 0, .int .i64 0, .int .i64 0, .int .i64 0] 145)) (GivesPut upO _) from ownPut_any upO _ _ _ _ _ (upO_parts w) upO_small).mono ?_
  rintro e w' ⟨hb, h⟩
  have hb1 : Below w.heap.size w (w.alloc (.cells #[.string ⟨#[]⟩, .int .i64 0, .int .i64 0, .int .i64 0, .int .i64 0, .int .i64 0] 145)) := (Below.refl _ w).alloc (Nat.le_refl _) _
  refine ⟨hb1.trans (hb.mono hb1.size), ?_⟩
  rcases h with ⟨_, v, rfl, ho⟩ | ⟨hf, _⟩
  · rw [upO_len] at ho
    obtain ⟨g, cap, cur, rfl, _⟩ := owns_form ho (by omega)
    obtain ⟨p, c, e, h1, h2, h3, h4⟩ := Has.of_owns ho
    cases e
    exact ⟨_, _, rfl, h4, h1, h2, fun h => by cases h⟩
  · rw [upO_may] at hf
    cases hf
/-- What Get gives of the example's bytes. -/
theorem upO_get (p : Option Addr) (c : Nat) (w : World) (ht : Has w p (bytesOf upO)) (h1 : 372 ≤ c) (h2 : c ≤ maxLen) (h3 : p = none → c = 0) : Calls Try.prog 65 #[.slice p 372 c] w fun e w' =>
    Below w.heap.size w w' ∧ ∃ (p0 p1 p2 p4 : Option Addr) (c0 c1 c2 c4 : Nat), e = .returned (.tuple #[.agg #[.slice p0 0 c0, .slice p1 1 c1, .slice p2 0 c2, .bool false, .slice p4 0 c4], .nilIface]) := by
  have h := ownGet_any p c (bytesOf upO) w ht (by rw [upO_len]; exact h1) h2 h3 (by rw [upO_len]; omega)
  rw [upO_len] at h
  refine h.mono ?_
  rintro e w' ⟨hb, v0, v1, v2, v4, o, hp, _, hr⟩
  refine ⟨hb, ?_⟩
  rw [upO_got] at hr
  rcases hr with ⟨hr, _⟩ | ⟨hr, rfl⟩
  · cases hr
  · cases hr
    obtain ⟨⟨p0, c0, rfl, _⟩, ⟨p1, c1, rfl, _⟩, ⟨p2, c2, rfl, _⟩, ⟨p4, c4, rfl, _⟩⟩ := hp
    exact ⟨p0, p1, p2, p4, c0, c1, c2, c4, rfl⟩
theorem noO_not (W : World) : Calls Try.prog 64 #[.agg #[.slice none 0 0, .slice none 0 0, .slice none 0 0, .bool false, .slice none 0 0]] W fun e w' => e = .returned (.bool false) ∧ Below W.heap.size W w' := by
  have := ownMay_any noO _ _ _ _ W (zero_parts W) noO_small
  rw [noO_may] at this
  exact this
set_option maxRecDepth 100000 in
set_option maxHeartbeats 4000000 in
theorem up_any (w : World) : Calls Try.prog 61 #[] w fun e w' => e = .returned (.bool true) ∧ Below w.heap.size w w' := by
  have HP := Lib.hid (upO_put w)
  go_enter Try.func61, Try.ntmps61
  go_upto_region 2 with (first | (go_at_call 63; refine HP.out.mono ?_; rintro e w2 ⟨hb2, p, c, rfl, hh, h1, h2, h3⟩) | fail)
  have HG := Lib.hid (upO_get p c w2 hh h1 h2 h3)
  have hbs := hb2.size
  clear hh h1 h2 h3 HP
  go_upto_region 3 with (first | (go_at_call 65; refine HG.out.mono ?_; rintro e w3 ⟨hb3, p0, p1, p2, p4, c0, c1, c2, c4, rfl⟩) | fail)
  have hb4 : Below w.heap.size w (w3.alloc (.cells #[.slice p0 0 c0, .slice p1 1 c1, .slice p2 0 c2, .bool false, .slice p4 0 c4] 90)) := (hb2.trans (hb3.mono hbs)).alloc (Nat.le_trans hbs hb3.size) _
  obtain ⟨⟨a0, a1, a2, a3, a4⟩, _⟩ := cells5 _ _ _ _ _ _ _ _ (heap_alloc_new w3 (.cells #[.slice p0 0 c0, .slice p1 1 c1, .slice p2 0 c2, .bool false, .slice p4 0 c4] 90))
  generalize w3.alloc (.cells #[.slice p0 0 c0, .slice p1 1 c1, .slice p2 0 c2, .bool false, .slice p4 0 c4] 90) = w4 at *
  have HN := Lib.hid (noO_not w4)
  clear hb2 hb3 HG
  go_wp2_with fail
  refine HN.out.mono ?_
  rintro e w5 ⟨rfl, hb5⟩
  go_wp2_with fail
  go_ret
  exact ⟨rfl, hb4.trans (hb5.mono hb4.size)⟩
end Go.Proofs.Ytmcegjkkgbnjlaa

namespace Go.Proofs.Ytmcegjkkgbnjlaa
open Go.RowKit

theorem listB_len : ∀ (f : Nat) (l : List UInt8) (r : List Nat), listB f l = some r → r.length ≤ l.length
  | _, [], r, h => by
    unfold listB at h
    cases h
    exact Nat.le_refl _
  | 0, _ :: _, r, h => by unfold listB at h; cases h
  | f + 1, y :: l, r, h => by
    unfold listB at h
    cases hd : digs5 (y :: l) with
    | none => rw [hd] at h; cases h
    | some p =>
      obtain ⟨v, u⟩ := p
      rw [hd] at h
      simp only at h
      cases hr : listB f ((y :: l).drop u) with
      | none => rw [hr] at h; cases h
      | some r' =>
        rw [hr] at h
        simp only [Option.map_some, Option.some.injEq] at h
        subst h
        have hu := digs5_used _ _ _ hd
        have ih := listB_len f _ r' hr
        rw [List.length_drop] at ih
        rw [List.length_cons]
        omega
theorem sigGo_len {l : List UInt8} {hs : Bool} {sy : Int} {t : Ten} {xs : List Int} (h : sigGo l hs sy t = some xs) : xs.length ≤ l.length := by
  unfold sigGo at h
  cases hc : (hs || (t.g != sy)) with
  | true => rw [hc] at h; cases h
  | false =>
    rw [hc, cond_false] at h
    cases hl : listA (win l t.e.toNat t.f.toNat) with
    | none => rw [hl] at h; cases h
    | some r =>
      rw [hl] at h
      simp only [Option.map_some, Option.some.injEq] at h
      subst h
      have h1 := listB_len _ _ _ hl
      have h2 : (win l t.e.toNat t.f.toNat).length ≤ l.length := by unfold win; rw [List.length_drop, List.length_take]; omega
      rw [List.length_map]
      omega
theorem step_sig {l : List UInt8} {L : List Ten} {ns : List Int} {sy : Int} {t : Ten} {st st' : StD} (h : stepB l L ns sy t st = some st') (hs : st.sig.length ≤ l.length) : st'.sig.length ≤ l.length := by
  unfold stepB at h
  cases h4 : (t.b == 4) with
  | true =>
    rw [h4, cond_true] at h
    cases hr : relsAt l L sy st.nm t with
    | none => rw [hr] at h; cases h
    | some r => rw [hr] at h; cases h; exact hs
  | false =>
    rw [h4, cond_false] at h
    cases h17 : (t.b == 17) with
    | true =>
      rw [h17, cond_true] at h
      cases hr : groupAt l L ns sy t with
      | none => rw [hr] at h; cases h
      | some r => rw [hr] at h; cases h; exact hs
    | false =>
      rw [h17, cond_false] at h
      cases hq : (t.b == 1879002115) with
      | true =>
        rw [hq, cond_true] at h
        cases hr : sigGo l st.hasSig sy t with
        | none => rw [hr] at h; cases h
        | some r => rw [hr] at h; cases h; exact sigGo_len hr
      | false => rw [hq, cond_false] at h; cases h; exact hs
theorem rest_sig {l : List UInt8} {L : List Ten} {ns : List Int} {sy : Int} : ∀ (A : List Ten) (st st' : StD), restGo l L ns sy A st = some st' → st.sig.length ≤ l.length → st'.sig.length ≤ l.length
  | [], _, _, h, hs => by cases h; exact hs
  | t :: A, st, st', h, hs => by
    unfold restGo at h
    cases hr : stepB l L ns sy t st with
    | none => rw [hr] at h; cases h
    | some s2 =>
      rw [hr] at h
      exact rest_sig A s2 st' h (step_sig hr hs)
theorem fil_long {l : List UInt8} {x : List Ten × List ByteArray} (h : filB l = some x) : l.length ≤ 16384 := by
  unfold filB at h
  split at h
  · cases h
  · omega
theorem read_sig {l : List UInt8} {o : ObjD} (h : readB l = some o) : o.sig.length ≤ l.length ∧ l.length ≤ 16384 := by
  unfold readB at h
  split at h
  · cases h
  · rename_i L names hf
    split at h
    · cases h
    · split at h
      · cases h
      · split at h
        · cases h
        · rename_i st hst
          cases h
          exact ⟨rest_sig _ _ _ hst (Nat.zero_le _), fil_long hf⟩
theorem got_small {l : List UInt8} {o : ObjD} (h : gotB l = some o) : shapeB o = true ∧ SmallD o ∧ l.length ≤ 16384 := by
  unfold gotB at h
  split at h
  · cases h
  · rename_i o' hr
    cases hs : shapeB o' with
    | false => rw [hs] at h; cases h
    | true =>
      rw [hs] at h
      cases h
      obtain ⟨h1, h2⟩ := read_sig hr
      exact ⟨hs, shape_small hs (by omega), h2⟩
end Go.Proofs.Ytmcegjkkgbnjlaa

namespace Go.Proofs.Ytmcegjkkgbnjlaa
open Go.RowKit

/-- An argument of type api.Obj, laid in a block. -/
theorem obj_laid {w : World} {v0 v1 v2 v4 : Value} {o : ObjD} (hp : ObjParts w v0 v1 v2 v4 o) :
    ObjParts (w.alloc (.cells #[v0, v1, v2, .bool o.hasSig, v4] 90)) v0 v1 v2 v4 o ∧ Below w.heap.size w (w.alloc (.cells #[v0, v1, v2, .bool o.hasSig, v4] 90)) ∧
    (w.alloc (.cells #[v0, v1, v2, .bool o.hasSig, v4] 90)).heap[w.heap.size]? = some (.cells #[v0, v1, v2, .bool o.hasSig, v4] 90 (0, 0)) := by
  have hb : Below w.heap.size w (w.alloc (.cells #[v0, v1, v2, .bool o.hasSig, v4] 90)) := (Below.refl _ w).alloc (Nat.le_refl _) _
  exact ⟨hp.below hb, hb, heap_alloc_new w _⟩
theorem obj_cells {w : World} {g : Nat} {v0 v1 v2 v3 v4 : Value} {T : TypeId} (h : w.heap[g]? = some (.cells #[v0, v1, v2, v3, v4] T (0, 0))) :
    w.cell? ⟨g, 0, none⟩ = some v0 ∧ w.cell? ⟨g, 1, none⟩ = some v1 ∧ w.cell? ⟨g, 2, none⟩ = some v2 ∧ w.cell? ⟨g, 3, none⟩ = some v3 ∧ w.cell? ⟨g, 4, none⟩ = some v4 := (cells5 w g v0 v1 v2 v3 v4 T h).1
/-- What Put gives of an object that may be, with its bytes. -/
def PutYes (o : ObjD) (w : World) (e : Ending) (w' : World) : Prop := Below w.heap.size w w' ∧ ∃ (p : Option Addr) (c : Nat), e = .returned (.tuple #[.slice p (bytesOf o).length c, .nilIface]) ∧ Has w' p (bytesOf o) ∧ (bytesOf o).length ≤ c ∧ c ≤ maxLen ∧ (p = none → c = 0)
theorem oput_yes (o : ObjD) (v0 v1 v2 v4 : Value) (w : World) (hp : ObjParts w v0 v1 v2 v4 o) (hs : SmallD o) (hm : mayO o = true) :
    Calls Try.prog 63 #[objV v0 v1 v2 o.hasSig v4] w (PutYes o w) := by
  refine (ownPut_any o v0 v1 v2 v4 w hp hs).mono ?_
  rintro e w' ⟨hb, ⟨_, v, rfl, ho⟩ | ⟨hf, _⟩⟩
  · refine ⟨hb, ?_⟩
    rcases ho.2 with ⟨h0, hn⟩ | ⟨g, cap, cur, rfl, _⟩
    · obtain ⟨p, c, e, h1, h2, h3, h4⟩ := Has.of_owns ho
      rw [h0] at e
      cases e
    · obtain ⟨p, c, e, h1, h2, h3, h4⟩ := Has.of_owns ho
      cases e
      exact ⟨_, _, rfl, h4, h1, h2, fun h => by cases h⟩
  · rw [hm] at hf
    cases hf
/-- What Get gives of bytes that are an object's. -/
def GetYes (o : ObjD) (w : World) (e : Ending) (w' : World) : Prop := Below w.heap.size w w' ∧ ∃ (p0 p1 p2 p4 : Option Addr) (c0 c1 c2 c4 : Nat), e = .returned (.tuple #[.agg #[.slice p0 o.secs.length c0, .slice p1 o.syms.length c1, .slice p2 o.groups.length c2, .bool o.hasSig, .slice p4 o.sig.length c4], .nilIface]) ∧
  ObjParts w' (.slice p0 o.secs.length c0) (.slice p1 o.syms.length c1) (.slice p2 o.groups.length c2) (.slice p4 o.sig.length c4) o
theorem oget_yes {o : ObjD} {l : List UInt8} (hg : gotB l = some o) (p : Option Addr) (c : Nat) (w : World) (ht : Has w p l) (h1 : l.length ≤ c) (h2 : c ≤ maxLen) (h3 : p = none → c = 0) (hbig : l.length ≤ 100000) :
    Calls Try.prog 65 #[.slice p l.length c] w (GetYes o w) := by
  refine (ownGet_any p c l w ht h1 h2 h3 hbig).mono ?_
  rintro e w' ⟨hb, v0, v1, v2, v4, o', hp, _, hr⟩
  rw [hg] at hr
  rcases hr with ⟨hr, _⟩ | ⟨hr, rfl⟩
  · cases hr
  · cases hr
    obtain ⟨m0, l0, rfl, _⟩ := id hp.1
    obtain ⟨m1, l1, rfl, _⟩ := id hp.2.1
    obtain ⟨m2, l2, rfl, _⟩ := id hp.2.2.1
    obtain ⟨m4, l4, rfl, _⟩ := id hp.2.2.2
    exact ⟨hb, m0, m1, m2, m4, l0, l1, l2, l4, rfl, hp⟩
theorem code_eq (a b : Int) (w : World) : (binOp .eql 93 (.iface 97 (.int .i64 a)) (.iface 97 (.int .i64 b))).run Try.prog w = .ok (.bool (a == b)) w :=
  Lib.run_eql_iface_int w a b Try.underlying93 (by kernel_rfl) Try.underlying97

/-- What Get gives of bytes that are no object's. -/
def GetNo (w : World) (e : Ending) (w' : World) : Prop := Below w.heap.size w w' ∧ ∃ (p0 p1 p2 p4 : Option Addr) (c0 c1 c2 c4 : Nat), e = .returned (.tuple #[.agg #[.slice p0 0 c0, .slice p1 0 c1, .slice p2 0 c2, .bool false, .slice p4 0 c4], .iface 97 (.int .i64 2)])
theorem oget_no {l : List UInt8} (hg : gotB l = none) (p : Option Addr) (c : Nat) (w : World) (ht : Has w p l) (h1 : l.length ≤ c) (h2 : c ≤ maxLen) (h3 : p = none → c = 0) (hbig : l.length ≤ 100000) :
    Calls Try.prog 65 #[.slice p l.length c] w (GetNo w) := by
  refine (ownGet_any p c l w ht h1 h2 h3 hbig).mono ?_
  rintro e w' ⟨hb, v0, v1, v2, v4, o', hp, _, hr⟩
  rw [hg] at hr
  rcases hr with ⟨_, rfl, rfl⟩ | ⟨hr, rfl⟩
  · obtain ⟨m0, l0, rfl, _⟩ := id hp.1
    obtain ⟨m1, l1, rfl, _⟩ := id hp.2.1
    obtain ⟨m2, l2, rfl, _⟩ := id hp.2.2.1
    obtain ⟨m4, l4, rfl, _⟩ := id hp.2.2.2
    exact ⟨hb, m0, m1, m2, m4, l0, l1, l2, l4, rfl⟩
  · cases hr
theorem got_long {l : List UInt8} (h : 16384 < l.length) : gotB l = none := by
  cases hg : gotB l with
  | none => rfl
  | some o => have := (got_small hg).2.2; omega

end Go.Proofs.Ytmcegjkkgbnjlaa

namespace Go.Proofs.Ytmcegjkkgbnjlaa
open Go.RowKit

set_option maxRecDepth 100000 in
set_option maxHeartbeats 1000000 in
theorem refInts_eq (xs : List Int) (p q : Option Addr) (c d : Nat) (w : World) (hp : HasL 1 EInt w p xs) (hq : HasL 1 EInt w q xs) (hm : xs.length ≤ maxLen) :
    Calls Try.prog 101 #[.slice p xs.length c, .slice q xs.length d] w fun e w' => e = .returned (.bool true) ∧ Below w.heap.size w w' := by
  have HP := Lib.hid hp
  have HQ := Lib.hid hq
  clear hp hq
  generalize hln : xs.length = n at *
  have HLN := Lib.hid hln
  have hnn : ((n : Int) != (n : Int)) = false := by simp
  unfold maxLen at hm
  clear hln
  go_enter Try.func101, Try.ntmps101
  go_wp2_with fail
  go_loopw [5] (fun r5 wr => ∃ i : Nat, i ≤ n ∧ r5 = .int .i64 (i : Int) ∧ Below w.heap.size w wr) (fun r5 _ => n - (intOf r5).toNat)
  case atStart => exact ⟨0, Nat.zero_le _, rfl, Below.refl _ _⟩
  case round =>
    obtain ⟨i, hi, rfl, hb⟩ := hrel
    by_cases hlt : i < n
    · obtain ⟨b, off, x, rfl, hx, d0, _⟩ := HP.out.at_ (i := i) (by rw [HLN.out]; exact hlt)
      obtain ⟨b', off', y, rfl, hy, e0, _⟩ := HQ.out.at_ (i := i) (by rw [HLN.out]; exact hlt)
      obtain rfl : y = x := by rw [hx] at hy; cases hy; rfl
      have f0 := cell_later hb d0
      have g0 := cell_later hb e0
      rw [Nat.mul_one] at f0 g0
      have hJ : (i : Int) < (n : Int) := by omega
      have hJ0 : (0 : Int) ≤ (i : Int) := by omega
      have q0 : (y != y) = false := by simp
      clear d0 e0 hx hy
      go_upto_region 6 with fail
      go_cut [25] (fun s25 wx => s25 = .bool false ∧ Below w.heap.size w wx)
      case first =>
        go_quiet (fail)
        go_wp2_with fail
        go_meet
        exact ⟨rfl, below_drewN hb _⟩
      case rest =>
        obtain ⟨rfl, hb2⟩ := hcut
        go_wp2_with fail
        go_roundw
        case rel => exact ⟨i + 1, hlt, by go_num, hb2⟩
        case measure => simp [intOf]; omega
    · have hJ : ¬ (i : Int) < (n : Int) := by omega
      go_wp2_with fail
      go_ret
      exact ⟨rfl, hb⟩

/-- A section's value. -/
def secVal (s : SecD) (vd vr : Value) : Value := .agg #[.string s.name, .int .i64 s.type, .int .i64 s.flags, .int .i64 s.align, .int .i64 s.ent, .int .i64 s.link, .int .i64 s.size, vd, vr]
theorem secVal_cells (w : World) (g : Nat) (v0 v1 v2 v3 v4 v5 v6 v7 v8 : Value) (T : TypeId) (h : w.heap[g]? = some (.cells #[v0, v1, v2, v3, v4, v5, v6, v7, v8] T (0, 0))) :
    w.cell? ⟨g, 0, none⟩ = some v0 ∧ w.cell? ⟨g, 1, none⟩ = some v1 ∧ w.cell? ⟨g, 2, none⟩ = some v2 ∧ w.cell? ⟨g, 3, none⟩ = some v3 ∧ w.cell? ⟨g, 4, none⟩ = some v4 ∧ w.cell? ⟨g, 5, none⟩ = some v5 ∧ w.cell? ⟨g, 6, none⟩ = some v6 ∧ w.cell? ⟨g, 7, none⟩ = some v7 ∧ w.cell? ⟨g, 8, none⟩ = some v8 := by
  refine ⟨?_, ?_, ?_, ?_, ?_, ?_, ?_, ?_, ?_⟩ <;> exact (cell_of_row _ _ _ _ _ (0, 0) h).trans rfl

theorem two_in (w : World) (o1 o2 : Obj) : ((w.alloc o1).alloc o2).heap[w.heap.size]? = some o1 ∧ ((w.alloc o1).alloc o2).heap[w.heap.size + 1]? = some o2 ∧ Below w.heap.size w ((w.alloc o1).alloc o2) := by
  have h1 := heap_alloc_new w o1
  have h2 := heap_alloc_new (w.alloc o1) o2
  have hs : (w.alloc o1).heap.size = w.heap.size + 1 := by simp
  have hb : Below (w.alloc o1).heap.size (w.alloc o1) ((w.alloc o1).alloc o2) := (Below.refl _ _).alloc (Nat.le_refl _) _
  refine ⟨?_, ?_, ((Below.refl _ w).alloc (Nat.le_refl _) _).trans (hb.mono (by omega))⟩
  · rw [hb.block _ (by omega)]
    exact h1
  · rw [← hs]
    exact h2
set_option maxRecDepth 100000 in
set_option maxHeartbeats 2000000 in
theorem sameSec_eq (s : SecD) (vd vr ud ur : Value) (w : World) (hd : IsL 1 EByte w vd s.data) (hr : IsL 4 ERel w vr s.rels) (kd : IsL 1 EByte w ud s.data) (kr : IsL 4 ERel w ur s.rels) :
    Calls Try.prog 102 #[secVal s vd vr, secVal s ud ur] w fun e w' => e = .returned (.bool true) ∧ Below w.heap.size w w' := by
  obtain ⟨dp, dc, rfl, hd1, hd2, hd3, hdh⟩ := hd
  obtain ⟨rp, rc, rfl, hr1, hr2, hr3, hrh⟩ := hr
  obtain ⟨dq, ec, rfl, kd1, kd2, kd3, kdh⟩ := kd
  obtain ⟨rq, sc, rfl, kr1, kr2, kr3, krh⟩ := kr
  unfold secVal
  have HP := Lib.hid hrh
  have HQ := Lib.hid krh
  have hm : s.rels.length ≤ maxLen := Nat.le_trans hr1 hr2
  have h22 := two_in w (.cells #[.string s.name, .int .i64 s.type, .int .i64 s.flags, .int .i64 s.align, .int .i64 s.ent, .int .i64 s.link, .int .i64 s.size, .slice dp s.data.length dc, .slice rp s.rels.length rc] 104) (.cells #[.string s.name, .int .i64 s.type, .int .i64 s.flags, .int .i64 s.align, .int .i64 s.ent, .int .i64 s.link, .int .i64 s.size, .slice dq s.data.length ec, .slice rq s.rels.length sc] 104)
  have HD1 := Lib.hid fun W (hb : Below w.heap.size w W) => conv_now (cap := dc) ((hdh.below EByte.keeps hb).has) rfl
  have HD2 := Lib.hid fun W (hb : Below w.heap.size w W) => conv_now (cap := ec) ((kdh.below EByte.keeps hb).has) rfl
  generalize hln : s.rels.length = n at *
  have HLN := Lib.hid hln
  have hnn : ((n : Int) != (n : Int)) = false := by simp
  have q1 : (s.type != s.type) = false := by simp
  have q2 : (s.flags != s.flags) = false := by simp
  have q3 : (s.align != s.align) = false := by simp
  have q4 : (s.ent != s.ent) = false := by simp
  have q5 : (s.link != s.link) = false := by simp
  have q6 : (s.size != s.size) = false := by simp
  unfold maxLen at hm
  clear hrh krh hln hdh kdh hd1 hd2 hd3 hr1 hr2 hr3 kd1 kd2 kd3 kr1 kr2 kr3
  go_enter Try.func102, Try.ntmps102
  go_upto_region 1 with fail
  generalize hW2 : (w.alloc (.cells #[.string s.name, .int .i64 s.type, .int .i64 s.flags, .int .i64 s.align, .int .i64 s.ent, .int .i64 s.link, .int .i64 s.size, .slice dp s.data.length dc, .slice rp n rc] 104)).alloc (.cells #[.string s.name, .int .i64 s.type, .int .i64 s.flags, .int .i64 s.align, .int .i64 s.ent, .int .i64 s.link, .int .i64 s.size, .slice dq s.data.length ec, .slice rq n sc] 104) = W2 at *
  clear hW2
  obtain ⟨g1, g2, hb⟩ := h22
  obtain ⟨a0, a1, a2, a3, a4, a5, a6, a7, a8⟩ := secVal_cells _ _ _ _ _ _ _ _ _ _ _ _ g1
  obtain ⟨b0, b1, b2, b3, b4, b5, b6, b7, b8⟩ := secVal_cells _ _ _ _ _ _ _ _ _ _ _ _ g2
  have k1 := HD1.out W2 hb
  have k2 := HD2.out W2 hb
  generalize s.data.length = dl at *
  generalize str s.data = ds at *
  clear g1 g2 HD1 HD2
  go_upto_region 3 with fail
  go_upto_region 5 with fail
  clear a0 a1 a2 a3 a4 a5 a6 a7 b0 b1 b2 b3 b4 b5 b6 b7 k1 k2 q1 q2 q3 q4 q5 q6
  have HP2 := Lib.hid (HP.out.below ERel.keeps hb)
  have HQ2 := Lib.hid (HQ.out.below ERel.keeps hb)
  have hbs := hb.size
  generalize hgb : w.heap.size = gb at *
  go_wp2_with fail
  go_loopw [5] (fun r5 wr => ∃ i : Nat, i ≤ n ∧ r5 = .int .i64 (i : Int) ∧ Below W2.heap.size W2 wr) (fun r5 _ => n - (intOf r5).toNat)
  case atStart => exact ⟨0, Nat.zero_le _, rfl, Below.refl _ _⟩
  case round =>
    obtain ⟨i, hi, rfl, hbr⟩ := hrel
    have e8 := cell_later hbr a8
    have f8 := cell_later hbr b8
    by_cases hlt : i < n
    · obtain ⟨b, off, x, rfl, hx, ⟨d0, _⟩, ⟨d1, _⟩, ⟨d2, _⟩, d3, _⟩ := HP2.out.at_ (i := i) (by rw [HLN.out]; exact hlt)
      obtain ⟨b', off', y, rfl, hy, ⟨c0, _⟩, ⟨c1, _⟩, ⟨c2, _⟩, c3, _⟩ := HQ2.out.at_ (i := i) (by rw [HLN.out]; exact hlt)
      obtain rfl : y = x := by rw [hx] at hy; cases hy; rfl
      have m0 := cell_later hbr d0
      have m1 := cell_later hbr d1
      have m2 := cell_later hbr d2
      have m3 := cell_later hbr d3
      have n0 := cell_later hbr c0
      have n1 := cell_later hbr c1
      have n2 := cell_later hbr c2
      have n3 := cell_later hbr c3
      have hJ : (i : Int) < (n : Int) := by omega
      have hJ0 : (0 : Int) ≤ (i : Int) := by omega
      clear d0 d1 d2 d3 c0 c1 c2 c3 hx hy
      go_upto_region 8 with fail
      go_cut [86] (fun s86 wx => s86 = .bool false ∧ Below W2.heap.size W2 wx)
      case first =>
        go_quiet (fail)
        go_wp2_with fail
        go_meet
        exact ⟨by simp, below_drewN hbr _⟩
      case rest =>
        obtain ⟨rfl, hb3⟩ := hcut
        go_wp2_with fail
        go_roundw
        case rel => exact ⟨i + 1, hlt, by go_num, hb3⟩
        case measure => simp [intOf]; omega
    · have hJ : ¬ (i : Int) < (n : Int) := by omega
      go_wp2_with fail
      go_ret
      subst hgb
      exact ⟨rfl, hb.trans (hbr.mono hbs)⟩
end Go.Proofs.Ytmcegjkkgbnjlaa
