/-
  The document's example of objects: the object of the zero symbol alone is put in 372 bytes, and got again; the object of nothing may not be.
  An object that is got has few of everything, and is of no more bytes than may be. Nothing here walks the program.
  What Put gives of an object that may be, and Get of bytes that are one's, or none's; an object laid in a block; errors compared.
  Contract of the reference's relParts.
-/
import Derived.Test.YtmcegjkkgbnjlaaGreatJp38
import Derived.Lib.IfaceEq
import Derived.Test.YtmcegjkkgbnjlaaGreatJp04
import Derived.Test.YtmcegjkkgbnjlaaGreatJp23
namespace Go.Proofs.YtmcegjkkgbnjlaaGreat
open Go.RowKit

def upO : ObjD := ⟨[], [⟨⟨#[]⟩, 0, 0, 0, 0, 0⟩], [], false, []⟩
def noO : ObjD := ⟨[], [], [], false, []⟩
theorem upO_may : mayO upO = true := by kernel_rfl
theorem noO_may : mayO noO = false := by decide
theorem upO_len : (bytesOf upO).length = 372 := by kernel_rfl
theorem upO_small : SmallD upO := ⟨by decide, by decide, by decide, by decide, (fun _ h => by cases h), (fun _ h => by cases h)⟩
theorem noO_small : SmallD noO := ⟨by decide, by decide, by decide, by decide, (fun _ h => by cases h), (fun _ h => by cases h)⟩
theorem upO_add : AddBd upO := fun _ h => by cases h
theorem upO_got : gotB (bytesOf upO) = some upO := got_back upO_may upO_small upO_add
theorem upO_parts (w : World) : ObjParts (w.alloc (.cells #[.string ⟨#[]⟩, .int .i64 0, .int .i64 0, .int .i64 0, .int .i64 0, .int .i64 0] 45)) (.slice none 0 0) (.slice (some ⟨w.heap.size, 0, none⟩) 1 1) (.slice none 0 0) (.slice none 0 0) upO := by
  have h := heap_alloc_new w (.cells #[.string ⟨#[]⟩, .int .i64 0, .int .i64 0, .int .i64 0, .int .i64 0, .int .i64 0] 45)
  refine ⟨⟨none, 0, rfl, Nat.le_refl _, Nat.zero_le _, fun _ => rfl, fun i x hx => by simp [upO] at hx⟩, ⟨_, 1, rfl, Nat.le_refl _, by unfold maxLen; omega, (fun h => by cases h), fun i x hx => ?_⟩, ⟨none, 0, rfl, Nat.le_refl _, Nat.zero_le _, fun _ => rfl, fun i x hx => by simp [upO] at hx⟩, ⟨none, 0, rfl, Nat.le_refl _, Nat.zero_le _, fun _ => rfl, fun i x hx => by simp [upO] at hx⟩⟩
  have hi : i = 0 := by have := (List.getElem?_eq_some_iff.1 hx).1; simp [upO] at this; omega
  subst hi
  simp only [upO, List.getElem?_cons_zero, Option.some.injEq] at hx
  subst hx
  refine ⟨w.heap.size, 0, rfl, ⟨?_, ?_⟩, ⟨?_, ?_⟩, ⟨?_, ?_⟩, ⟨?_, ?_⟩, ⟨?_, ?_⟩, ⟨?_, ?_⟩⟩
  all_goals first | exact (cell_of_row _ _ _ _ _ (0, 0) h).trans rfl | (refine ⟨?_, ?_⟩ <;> decide) | (show (0 : Nat) ≤ maxLen; exact Nat.zero_le _) | fail

/-- What Put gives of the example. -/
theorem upO_put (w : World) : Calls Tryz.prog 8 #[.agg #[.slice none 0 0, .slice (some ⟨w.heap.size, 0, none⟩) 1 1, .slice none 0 0, .bool false, .slice none 0 0]] (w.alloc (.cells #[.string ⟨#[]⟩, .int .i64 0, .int .i64 0, .int .i64 0, .int .i64 0, .int .i64 0] 45)) fun e w' =>
    Below w.heap.size w w' ∧ ∃ (p : Option Addr) (c : Nat), e = .returned (.tuple #[.slice p 372 c, .nilIface]) ∧ Has w' p (bytesOf upO) ∧ 372 ≤ c ∧ c ≤ maxLen ∧ (p = none → c = 0) := by
  refine (show Calls Tryz.prog 8 #[.agg #[.slice none 0 0, .slice (some ⟨w.heap.size, 0, none⟩) 1 1, .slice none 0 0, .bool false, .slice none 0 0]] (w.alloc (.cells #[.string ⟨#[]⟩, .int .i64 0, .int .i64 0, .int .i64 0, .int .i64 0, .int .i64 0] 45)) (GivesPut upO _) from ownPut_any upO _ _ _ _ _ (upO_parts w) upO_small).mono ?_
  rintro e w' ⟨hb, h⟩
  have hb1 : Below w.heap.size w (w.alloc (.cells #[.string ⟨#[]⟩, .int .i64 0, .int .i64 0, .int .i64 0, .int .i64 0, .int .i64 0] 45)) := (Below.refl _ w).alloc (Nat.le_refl _) _
  refine ⟨hb1.trans (hb.mono hb1.size), ?_⟩
  rcases h with ⟨_, v, rfl, ho⟩ | ⟨hf, _⟩
  · rw [upO_len] at ho
    obtain ⟨g, cap, cur, rfl, _⟩ := owns_form ho (by omega)
    obtain ⟨p, c, e, h1, h2, h3, h4⟩ := Has.of_owns ho
    cases e
    exact ⟨_, _, rfl, h4, h1, h2, fun h => by cases h⟩
  · rw [upO_may] at hf
    cases hf
/-- What Get gives of the example's bytes. -/
theorem upO_get (p : Option Addr) (c : Nat) (w : World) (ht : Has w p (bytesOf upO)) (h1 : 372 ≤ c) (h2 : c ≤ maxLen) (h3 : p = none → c = 0) : Calls Tryz.prog 11 #[.slice p 372 c] w fun e w' =>
    Below w.heap.size w w' ∧ ∃ (p0 p1 p2 p4 : Option Addr) (c0 c1 c2 c4 : Nat), e = .returned (.tuple #[.agg #[.slice p0 0 c0, .slice p1 1 c1, .slice p2 0 c2, .bool false, .slice p4 0 c4], .nilIface]) := by
  have h := ownGet_any p c (bytesOf upO) w ht (by rw [upO_len]; exact h1) h2 h3 (by rw [upO_len]; omega)
  rw [upO_len] at h
  refine h.mono ?_
  rintro e w' ⟨hb, v0, v1, v2, v4, o, hp, _, hr⟩
  refine ⟨hb, ?_⟩
  rw [upO_got] at hr
  rcases hr with ⟨hr, _⟩ | ⟨hr, rfl⟩
  · cases hr
  · cases hr
    obtain ⟨⟨p0, c0, rfl, _⟩, ⟨p1, c1, rfl, _⟩, ⟨p2, c2, rfl, _⟩, ⟨p4, c4, rfl, _⟩⟩ := hp
    exact ⟨p0, p1, p2, p4, c0, c1, c2, c4, rfl⟩
theorem noO_not (W : World) : Calls Tryz.prog 9 #[.agg #[.slice none 0 0, .slice none 0 0, .slice none 0 0, .bool false, .slice none 0 0]] W fun e w' => e = .returned (.bool false) ∧ Below W.heap.size W w' := by
  have := ownMay_any noO _ _ _ _ W (zero_parts W) noO_small
  rw [noO_may] at this
  exact this
set_option maxRecDepth 100000 in
set_option maxHeartbeats 4000000 in
theorem up_any (w : World) : Calls Tryz.prog 5 #[] w fun e w' => e = .returned (.bool true) ∧ Below w.heap.size w w' := by
  have HP := Lib.hid (upO_put w)
  go_enter Tryz.func5, Tryz.ntmps5
  go_upto_region 2 with (first | (go_at_call 8; refine HP.out.mono ?_; rintro e w2 ⟨hb2, p, c, rfl, hh, h1, h2, h3⟩) | fail)
  have HG := Lib.hid (upO_get p c w2 hh h1 h2 h3)
  have hbs := hb2.size
  clear hh h1 h2 h3 HP
  go_upto_region 3 with (first | (go_at_call 11; refine HG.out.mono ?_; rintro e w3 ⟨hb3, p0, p1, p2, p4, c0, c1, c2, c4, rfl⟩) | fail)
  have hb4 : Below w.heap.size w (w3.alloc (.cells #[.slice p0 0 c0, .slice p1 1 c1, .slice p2 0 c2, .bool false, .slice p4 0 c4] 27)) := (hb2.trans (hb3.mono hbs)).alloc (Nat.le_trans hbs hb3.size) _
  obtain ⟨⟨a0, a1, a2, a3, a4⟩, _⟩ := cells5 _ _ _ _ _ _ _ _ (heap_alloc_new w3 (.cells #[.slice p0 0 c0, .slice p1 1 c1, .slice p2 0 c2, .bool false, .slice p4 0 c4] 27))
  generalize w3.alloc (.cells #[.slice p0 0 c0, .slice p1 1 c1, .slice p2 0 c2, .bool false, .slice p4 0 c4] 27) = w4 at *
  have HN := Lib.hid (noO_not w4)
  clear hb2 hb3 HG
  go_wp2_with fail
  refine HN.out.mono ?_
  rintro e w5 ⟨rfl, hb5⟩
  go_wp2_with fail
  go_ret
  exact ⟨rfl, hb4.trans (hb5.mono hb4.size)⟩
end Go.Proofs.YtmcegjkkgbnjlaaGreat

namespace Go.Proofs.YtmcegjkkgbnjlaaGreat
open Go.RowKit

theorem listB_len : ∀ (f : Nat) (l : List UInt8) (r : List Nat), listB f l = some r → r.length ≤ l.length
  | _, [], r, h => by
    unfold listB at h
    cases h
    exact Nat.le_refl _
  | 0, _ :: _, r, h => by unfold listB at h; cases h
  | f + 1, y :: l, r, h => by
    unfold listB at h
    cases hd : digs5 (y :: l) with
    | none => rw [hd] at h; cases h
    | some p =>
      obtain ⟨v, u⟩ := p
      rw [hd] at h
      simp only at h
      cases hr : listB f ((y :: l).drop u) with
      | none => rw [hr] at h; cases h
      | some r' =>
        rw [hr] at h
        simp only [Option.map_some, Option.some.injEq] at h
        subst h
        have hu := digs5_used _ _ _ hd
        have ih := listB_len f _ r' hr
        rw [List.length_drop] at ih
        rw [List.length_cons]
        omega
theorem sigGo_len {l : List UInt8} {hs : Bool} {sy : Int} {t : Ten} {xs : List Int} (h : sigGo l hs sy t = some xs) : xs.length ≤ l.length := by
  unfold sigGo at h
  cases hc : (hs || (t.g != sy)) with
  | true => rw [hc] at h; cases h
  | false =>
    rw [hc, cond_false] at h
    cases hl : listA (win l t.e.toNat t.f.toNat) with
    | none => rw [hl] at h; cases h
    | some r =>
      rw [hl] at h
      simp only [Option.map_some, Option.some.injEq] at h
      subst h
      have h1 := listB_len _ _ _ hl
      have h2 : (win l t.e.toNat t.f.toNat).length ≤ l.length := by unfold win; rw [List.length_drop, List.length_take]; omega
      rw [List.length_map]
      omega
theorem step_sig {l : List UInt8} {L : List Ten} {ns : List Int} {sy : Int} {t : Ten} {st st' : StD} (h : stepB l L ns sy t st = some st') (hs : st.sig.length ≤ l.length) : st'.sig.length ≤ l.length := by
  unfold stepB at h
  cases h4 : (t.b == 4) with
  | true =>
    rw [h4, cond_true] at h
    cases hr : relsAt l L sy st.nm t with
    | none => rw [hr] at h; cases h
    | some r => rw [hr] at h; cases h; exact hs
  | false =>
    rw [h4, cond_false] at h
    cases h17 : (t.b == 17) with
    | true =>
      rw [h17, cond_true] at h
      cases hr : groupAt l L ns sy t with
      | none => rw [hr] at h; cases h
      | some r => rw [hr] at h; cases h; exact hs
    | false =>
      rw [h17, cond_false] at h
      cases hq : (t.b == 1879002115) with
      | true =>
        rw [hq, cond_true] at h
        cases hr : sigGo l st.hasSig sy t with
        | none => rw [hr] at h; cases h
        | some r => rw [hr] at h; cases h; exact sigGo_len hr
      | false => rw [hq, cond_false] at h; cases h; exact hs
theorem rest_sig {l : List UInt8} {L : List Ten} {ns : List Int} {sy : Int} : ∀ (A : List Ten) (st st' : StD), restGo l L ns sy A st = some st' → st.sig.length ≤ l.length → st'.sig.length ≤ l.length
  | [], _, _, h, hs => by cases h; exact hs
  | t :: A, st, st', h, hs => by
    unfold restGo at h
    cases hr : stepB l L ns sy t st with
    | none => rw [hr] at h; cases h
    | some s2 =>
      rw [hr] at h
      exact rest_sig A s2 st' h (step_sig hr hs)
theorem fil_long {l : List UInt8} {x : List Ten × List ByteArray} (h : filB l = some x) : l.length ≤ 16384 := by
  unfold filB at h
  split at h
  · cases h
  · omega
theorem read_sig {l : List UInt8} {o : ObjD} (h : readB l = some o) : o.sig.length ≤ l.length ∧ l.length ≤ 16384 := by
  unfold readB at h
  split at h
  · cases h
  · rename_i L names hf
    split at h
    · cases h
    · split at h
      · cases h
      · split at h
        · cases h
        · rename_i st hst
          cases h
          exact ⟨rest_sig _ _ _ hst (Nat.zero_le _), fil_long hf⟩
theorem got_small {l : List UInt8} {o : ObjD} (h : gotB l = some o) : shapeB o = true ∧ SmallD o ∧ l.length ≤ 16384 := by
  unfold gotB at h
  split at h
  · cases h
  · rename_i o' hr
    cases hs : shapeB o' with
    | false => rw [hs] at h; cases h
    | true =>
      rw [hs] at h
      cases h
      obtain ⟨h1, h2⟩ := read_sig hr
      exact ⟨hs, shape_small hs (by omega), h2⟩
end Go.Proofs.YtmcegjkkgbnjlaaGreat

namespace Go.Proofs.YtmcegjkkgbnjlaaGreat
open Go.RowKit

/-- An argument of type api.Obj, laid in a block. -/
theorem obj_laid {w : World} {v0 v1 v2 v4 : Value} {o : ObjD} (hp : ObjParts w v0 v1 v2 v4 o) :
    ObjParts (w.alloc (.cells #[v0, v1, v2, .bool o.hasSig, v4] 27)) v0 v1 v2 v4 o ∧ Below w.heap.size w (w.alloc (.cells #[v0, v1, v2, .bool o.hasSig, v4] 27)) ∧
    (w.alloc (.cells #[v0, v1, v2, .bool o.hasSig, v4] 27)).heap[w.heap.size]? = some (.cells #[v0, v1, v2, .bool o.hasSig, v4] 27 (0, 0)) := by
  have hb : Below w.heap.size w (w.alloc (.cells #[v0, v1, v2, .bool o.hasSig, v4] 27)) := (Below.refl _ w).alloc (Nat.le_refl _) _
  exact ⟨hp.below hb, hb, heap_alloc_new w _⟩
theorem obj_cells {w : World} {g : Nat} {v0 v1 v2 v3 v4 : Value} {T : TypeId} (h : w.heap[g]? = some (.cells #[v0, v1, v2, v3, v4] T (0, 0))) :
    w.cell? ⟨g, 0, none⟩ = some v0 ∧ w.cell? ⟨g, 1, none⟩ = some v1 ∧ w.cell? ⟨g, 2, none⟩ = some v2 ∧ w.cell? ⟨g, 3, none⟩ = some v3 ∧ w.cell? ⟨g, 4, none⟩ = some v4 := (cells5 w g v0 v1 v2 v3 v4 T h).1
/-- What Put gives of an object that may be, with its bytes. -/
def PutYes (o : ObjD) (w : World) (e : Ending) (w' : World) : Prop := Below w.heap.size w w' ∧ ∃ (p : Option Addr) (c : Nat), e = .returned (.tuple #[.slice p (bytesOf o).length c, .nilIface]) ∧ Has w' p (bytesOf o) ∧ (bytesOf o).length ≤ c ∧ c ≤ maxLen ∧ (p = none → c = 0)
theorem oput_yes (o : ObjD) (v0 v1 v2 v4 : Value) (w : World) (hp : ObjParts w v0 v1 v2 v4 o) (hs : SmallD o) (hm : mayO o = true) :
    Calls Tryz.prog 8 #[objV v0 v1 v2 o.hasSig v4] w (PutYes o w) := by
  refine (ownPut_any o v0 v1 v2 v4 w hp hs).mono ?_
  rintro e w' ⟨hb, ⟨_, v, rfl, ho⟩ | ⟨hf, _⟩⟩
  · refine ⟨hb, ?_⟩
    rcases ho.2 with ⟨h0, hn⟩ | ⟨g, cap, cur, rfl, _⟩
    · obtain ⟨p, c, e, h1, h2, h3, h4⟩ := Has.of_owns ho
      rw [h0] at e
      cases e
    · obtain ⟨p, c, e, h1, h2, h3, h4⟩ := Has.of_owns ho
      cases e
      exact ⟨_, _, rfl, h4, h1, h2, fun h => by cases h⟩
  · rw [hm] at hf
    cases hf
/-- What Get gives of bytes that are an object's. -/
def GetYes (o : ObjD) (w : World) (e : Ending) (w' : World) : Prop := Below w.heap.size w w' ∧ ∃ (p0 p1 p2 p4 : Option Addr) (c0 c1 c2 c4 : Nat), e = .returned (.tuple #[.agg #[.slice p0 o.secs.length c0, .slice p1 o.syms.length c1, .slice p2 o.groups.length c2, .bool o.hasSig, .slice p4 o.sig.length c4], .nilIface]) ∧
  ObjParts w' (.slice p0 o.secs.length c0) (.slice p1 o.syms.length c1) (.slice p2 o.groups.length c2) (.slice p4 o.sig.length c4) o
theorem oget_yes {o : ObjD} {l : List UInt8} (hg : gotB l = some o) (p : Option Addr) (c : Nat) (w : World) (ht : Has w p l) (h1 : l.length ≤ c) (h2 : c ≤ maxLen) (h3 : p = none → c = 0) (hbig : l.length ≤ 100000) :
    Calls Tryz.prog 11 #[.slice p l.length c] w (GetYes o w) := by
  refine (ownGet_any p c l w ht h1 h2 h3 hbig).mono ?_
  rintro e w' ⟨hb, v0, v1, v2, v4, o', hp, _, hr⟩
  rw [hg] at hr
  rcases hr with ⟨hr, _⟩ | ⟨hr, rfl⟩
  · cases hr
  · cases hr
    obtain ⟨m0, l0, rfl, _⟩ := id hp.1
    obtain ⟨m1, l1, rfl, _⟩ := id hp.2.1
    obtain ⟨m2, l2, rfl, _⟩ := id hp.2.2.1
    obtain ⟨m4, l4, rfl, _⟩ := id hp.2.2.2
    exact ⟨hb, m0, m1, m2, m4, l0, l1, l2, l4, rfl, hp⟩
theorem code_eq (a b : Int) (w : World) : (binOp .eql 33 (.iface 36 (.int .i64 a)) (.iface 36 (.int .i64 b))).run Tryz.prog w = .ok (.bool (a == b)) w :=
  Lib.run_eql_iface_int w a b Tryz.underlying33 (by kernel_rfl) Tryz.underlying36

/-- What Get gives of bytes that are no object's. -/
def GetNo (w : World) (e : Ending) (w' : World) : Prop := Below w.heap.size w w' ∧ ∃ (p0 p1 p2 p4 : Option Addr) (c0 c1 c2 c4 : Nat), e = .returned (.tuple #[.agg #[.slice p0 0 c0, .slice p1 0 c1, .slice p2 0 c2, .bool false, .slice p4 0 c4], .iface 36 (.int .i64 2)])
theorem oget_no {l : List UInt8} (hg : gotB l = none) (p : Option Addr) (c : Nat) (w : World) (ht : Has w p l) (h1 : l.length ≤ c) (h2 : c ≤ maxLen) (h3 : p = none → c = 0) (hbig : l.length ≤ 100000) :
    Calls Tryz.prog 11 #[.slice p l.length c] w (GetNo w) := by
  refine (ownGet_any p c l w ht h1 h2 h3 hbig).mono ?_
  rintro e w' ⟨hb, v0, v1, v2, v4, o', hp, _, hr⟩
  rw [hg] at hr
  rcases hr with ⟨_, rfl, rfl⟩ | ⟨hr, rfl⟩
  · obtain ⟨m0, l0, rfl, _⟩ := id hp.1
    obtain ⟨m1, l1, rfl, _⟩ := id hp.2.1
    obtain ⟨m2, l2, rfl, _⟩ := id hp.2.2.1
    obtain ⟨m4, l4, rfl, _⟩ := id hp.2.2.2
    exact ⟨hb, m0, m1, m2, m4, l0, l1, l2, l4, rfl⟩
  · cases hr
theorem got_long {l : List UInt8} (h : 16384 < l.length) : gotB l = none := by
  cases hg : gotB l with
  | none => rfl
  | some o => have := (got_small hg).2.2; omega

end Go.Proofs.YtmcegjkkgbnjlaaGreat

namespace Go.Proofs.YtmcegjkkgbnjlaaGreat
open Go.RowKit

theorem Tryz.infoRefPart : (Tryz.prog.info? 56).map (fun i => (i.zero, i.size, i.bytes)) = some (some (.agg #[.int .i64 0, .int .i64 0, .int .i64 0, .int .i64 0, .int .i64 0, .int .i64 0, .int .i64 0, .int .i64 0, .int .i64 0, .int .i64 0, .string ⟨#[]⟩, .slice none 0 0]), 12, 120) := by kernel_rfl
set_option maxRecDepth 100000 in
set_option maxHeartbeats 4000000 in
theorem relParts_any (o : ObjD) (v0 v1 v2 v4 : Value) (a : Int) (w : World) (hp : IsL 9 ESec w v0 o.secs) (hl : Lays o) :
    Calls Tryz.prog 16 #[objV v0 v1 v2 o.hasSig v4, .int .i64 a] w (GivesParts 56 true w.heap.size (relPs a o.secs o.secs.length) w) := by
  obtain ⟨i0, hi, hz0, hz1, hz2⟩ := info_parts Tryz.infoRefPart
  have HI := Lib.hid hi
  have H0 := Lib.hid hz0
  have H1 := Lib.hid hz1
  have H2 := Lib.hid hz2
  obtain ⟨i1, gi, gz0, gz1, gz2⟩ := info_parts Tryz.infoU8
  have GI := Lib.hid gi
  have G0 := Lib.hid gz0
  have G1 := Lib.hid gz1
  have G2 := Lib.hid gz2
  have hb1 : Below w.heap.size w (w.alloc (.cells #[v0, v1, v2, .bool o.hasSig, v4] 27)) := (Below.refl _ w).alloc (Nat.le_refl _) _
  have hq := hp.below ESec.keeps hb1
  obtain ⟨p0, c0, rfl, q1, q2, _, hqh⟩ := hq
  have a0 : (w.alloc (.cells #[.slice p0 o.secs.length c0, v1, v2, .bool o.hasSig, v4] 27)).cell? ⟨w.heap.size, 0, none⟩ = some (.slice p0 o.secs.length c0) := by simp
  have hgs : (w.alloc (.cells #[.slice p0 o.secs.length c0, v1, v2, .bool o.hasSig, v4] 27)).heap.size = w.heap.size + 1 := by simp
  have hns := hl.nsec
  have HS := Lib.hid hl.secs
  have HQ := Lib.hid hqh
  have HB1 := Lib.hid hb1
  generalize hql : o.secs.length = ql at *
  have HQL := Lib.hid hql
  have HGS := Lib.hid hgs
  clear hp hl hi hz0 hz1 hz2 gi gz0 gz1 gz2 hb1 hqh hql q1 q2
  go_enter Tryz.func16, Tryz.ntmps16
  go_upto_region 1 with fail
  generalize w.alloc (.cells #[.slice p0 ql c0, v1, v2, .bool o.hasSig, v4] 27) = W1 at *
  have hgs2 : w.heap.size < W1.heap.size := by omega
  clear hgs
  generalize o.hasSig = sg at *
  go_wp2_with fail
  go_loopw [5, 6] (fun r5 r6 wr => ∃ (k : Nat) (pv : List PV) (pd : List PartD), k ≤ ql ∧ r6 = .int .i64 ((k : Int) + 1) ∧ pd = relPs a o.secs k ∧ pd.length ≤ k ∧ wr.ownsRow W1.heap.size 56 12 r5 pd.length (pvs true pv) ∧ PartsAt wr (fun b => W1.heap.size ≤ b ∧ some b ≠ r5.ownBlock) pv pd ∧ Below W1.heap.size W1 wr) (fun _ r6 _ => ql + 1 - (intOf r6).toNat)
  case atStart => exact ⟨0, [], [], Nat.zero_le _, rfl, rfl, Nat.le_refl _, World.ownsRow_nil _ _ _ _, PartsAt.nil _ _, Below.refl _ _⟩
  case round =>
    obtain ⟨k, pv, pd, hk, rfl, hpd, hpl, hown, hpa, hb⟩ := hrel
    have HPD := Lib.hid hpd
    have HPA := Lib.hid hpa
    have z0 := cell_later hb a0
    clear hpd hpa
    by_cases hlt : k < ql
    · obtain ⟨b, off, s, rfl, hsk, hse⟩ := HQ.out.at_ (i := k) (by rw [HQL.out]; exact hlt)
      obtain ⟨_, _, _, _, _, _, _, _, ⟨vr, d8, hvr⟩⟩ := hse
      obtain ⟨rp, rc, rfl, r1, r2, _, hrh⟩ := hvr
      have e8 := cell_later hb d8
      have HRH := Lib.hid (hrh.below ERel.keeps hb)
      have hsm := HS.out s (List.mem_of_getElem? hsk)
      have hrl := hsm.2.2.2.2.2.2.2.2.1
      have HR := Lib.hid hsm.2.2.2.2.2.2.2.2.2.2
      have HPS := Lib.hid (relPs_succ (a := a) hsk)
      generalize hrn : s.rels.length = rl at *
      have HRN := Lib.hid hrn
      have hJ : (k : Int) + 1 ≤ (ql : Int) := by omega
      have k1 : IntKind.i64.wrap ((k : Int) + 1 - 1) = (k : Int) := by rw [show (k : Int) + 1 - 1 = (k : Int) by omega]; exact IntWalk.i64_in _ (by omega)
      have k2 : (0 : Int) ≤ (k : Int) := by omega
      have k3 : (k : Int) < (ql : Int) := by omega
      have k4 : IntKind.i64.wrap ((k : Int) + 1 + 1) = (k : Int) + 1 + 1 := IntWalk.i64_in _ (by omega)
      clear hsk d8 hrh hsm hrn r1 r2
      generalize wr = wo at *
      go_wp2_with fail
      go_loopw [7, 9] (fun r7 r9 wx => ∃ (j n : Nat), j ≤ rl ∧ r9 = .int .i64 (j : Int) ∧ n = 24 * j ∧ wx.ownsRow wo.heap.size 5 1 r7 n ((relsBy (s.rels.take j)).map u8v) ∧ Below wo.heap.size wo wx) (fun _ r9 _ => rl - (intOf r9).toNat)
      case atStart => exact ⟨0, 0, Nat.zero_le _, rfl, rfl, World.ownsRow_nil _ _ _ _, Below.refl _ _⟩
      case round =>
        obtain ⟨j, n, hj, rfl, hn, hob, hbx⟩ := hrel
        have HN := Lib.hid hn
        by_cases hjl : j < rl
        · obtain ⟨b2, off2, r, rfl, hrj, ⟨x0, _⟩, ⟨x1, _⟩, ⟨x2, _⟩, ⟨x3, _⟩⟩ := HRH.out.at_ (i := j) (by rw [HRN.out]; exact hjl)
          have d0 := cell_later hbx x0
          have d1 := cell_later hbx x1
          have d2 := cell_later hbx x2
          have d3 := cell_later hbx x3
          have hmay := HR.out r (List.mem_of_getElem? hrj)
          have HC := Lib.hid fun W => relBytes_yes (fouOf r) W hmay.1 hmay.2
          have HST : Hid (relsBy (s.rels.take (j + 1)) = relsBy (s.rels.take j) ++ relB (fouOf r)) := Lib.hid (by rw [List.take_add_one, hrj]; exact relsBy_snoc _ _)
          have hJ1 : (j : Int) < (rl : Int) := by omega
          have hJ2 : (0 : Int) ≤ (j : Int) := by omega
          clear hrj hmay x0 x1 x2 x3 hn
          go_wp2_with fail
          refine (HC.out _).mono ?_
          rintro e w2 ⟨v2', rfl, hown2, hbb2⟩
          have hob2 := owns_below hob hbb2
          have hbx2 : Below wo.heap.size wo w2 := hbx.trans (hbb2.mono hbx.size)
          obtain ⟨p2, cc2, rfl, g1, g2, g3, g4⟩ := Has.of_owns hown2
          have hpn : p2 = none → cc2 = 0 := fun h => by
            subst h
            rcases hown2.2 with ⟨h1, _⟩ | ⟨g, cap, cur, h1, _⟩ <;> simp at h1
            exact h1.2
          have HG4 := Lib.hid g4
          have hn80 : n ≤ 2000 := by have := HN.out; omega
          clear hown2 hbb2 hob hbx d0 d1 d2 d3 g4
          go_wp2_with (at_builtin; refine wpList_append_bytes _ rfl (.tmp 30) (.tmp 35) 31 rfl wo.heap.size 5 i1 Tryz.underlying31 GI.out G0.out G1.out G2.out _ n _ rfl hob2 p2 24 cc2 (relB (fouOf r)) rfl HG4.out rfl hpn (by omega) hbx2.size ?_)
          intro v3 w3 hob3 hg3 _
          have hbx3 : Below wo.heap.size wo w3 := hbx2.grown hg3 hbx2.size (fun g hg => (hob2.lt g hg).1)
          rw [← List.map_append, ← HST.out] at hob3
          clear hob2 hbx2 hg3
          go_wp2_with fail
          go_roundw
          case rel => exact ⟨j + 1, n + 24, hjl, by go_num, by have := HN.out; omega, hob3, hbx3⟩
          case measure => simp [intOf]; omega
        · obtain rfl : j = rl := by omega
          have hobd : wr.ownsRow wo.heap.size 5 1 u7 n ((relsBy s.rels).map u8v) := by
            rw [List.take_of_length_le (by rw [HRN.out]; exact Nat.le_refl _)] at hob
            exact hob
          have hown2 := owns_belowN hown hbx
          have hpa2 : Hid (PartsAt wr (fun b => W1.heap.size ≤ b ∧ some b ≠ u5.ownBlock) pv pd) := Lib.hid (HPA.out.below hbx)
          have hb2 : Below W1.heap.size W1 wr := hb.trans (hbx.mono hb.size)
          have hbs := hb.size
          have hJ1 : ¬ (j : Int) < (j : Int) := by omega
          have hu5 := fun g hg => (hown.lt g hg).2
          clear hob hown HPA hb e8 z0 hn
          rcases Nat.eq_zero_or_pos j with h0 | h0
          · subst h0
            have hE : Hid (relPs a o.secs (k + 1) = pd) := Lib.hid (by rw [HPS.out, ← HPD.out]; unfold relPart; rw [if_pos HRN.out]; simp)
            go_wp2_with fail
            go_roundw
            case rel => exact ⟨k + 1, pv, pd, hlt, by go_num, hE.out.symm, by omega, hown2, hpa2.out, hb2⟩
            case measure => simp [intOf]; omega
          · have hj0 : (0 : Int) < (j : Int) := by omega
            obtain ⟨p7, c7, rfl, _, _, _, _⟩ := Has.of_owns hobd
            have hsl : PartsAt wr (fun b => W1.heap.size ≤ b ∧ some b ≠ u5.ownBlock) [⟨relHead a ((k : Int) + 1), nRela, (.slice p7 n c7)⟩] [⟨relHead a ((k : Int) + 1), nRela, relsBy s.rels⟩] := PartsAt.one (SlB.of_owns hobd fun b hb => by
              have h1 := (hobd.lt b hb).1
              exact ⟨by omega, fun e => by have := hu5 b e.symm; omega⟩)
            have HSL := Lib.hid hsl
            have hE : Hid (relPs a o.secs (k + 1) = pd ++ [⟨relHead a ((k : Int) + 1), nRela, relsBy s.rels⟩]) := Lib.hid (by rw [HPS.out, ← HPD.out]; unfold relPart; rw [if_neg (by rw [HRN.out]; omega)])
            have h1c : ∀ u ∈ PV.cells true ⟨relHead a ((k : Int) + 1), nRela, (.slice p7 n c7)⟩, u.oneCell' = true := fun u hu => (hsl.oneCell (q := true)) u (by simpa [pvs] using hu)
            have H1C := Lib.hid h1c
            have hbz := hb2.size
            clear hsl hu5 h1c hobd
            go_wp2_with (at_builtin; refine wpList_append_own_at _ rfl (.tmp 40) (.tmp 46) 57 rfl W1.heap.size 56 i0 _ 12 120 Tryz.underlying57 HI.out H0.out H1.out H2.out rfl (by decide) _ pd.length _ rfl (hown2.alloc _) ⟨wr.heap.size, 0, none⟩ 1 1 (PV.cells true ⟨relHead a ((k : Int) + 1), nRela, (.slice p7 n c7)⟩) rfl rfl (ten_cell_at wr _ _) H1C.out (by unfold maxLen; omega) (by omega) (by simp; omega) ?_)
            intro v1 w4 hown4 hg4 _ hat4
            have HP := Lib.hid (push_part hpa2.out HSL.out hown4 hg4 hat4)
            have hb4 : Below W1.heap.size W1 w4 := (hb2.alloc hb2.size _).grown hg4 (by simp; omega) (fun g hg => (hown2.lt g hg).1)
            clear hown4 hg4 hat4 hown2 hpa2 HSL hb2
            go_wp2_with fail
            go_roundw
            case rel => exact ⟨k + 1, _, _, hlt, by go_num, hE.out.symm, by simp; omega, HP.out.1, HP.out.2, hb4⟩
            case measure => simp [intOf]; omega
    · obtain rfl : k = ql := by omega
      have hJ : ¬ (k : Int) + 1 ≤ (k : Int) := by omega
      go_wp2_with fail
      go_ret
      refine ⟨u5, pv, rfl, ?_, ?_, HB1.out.trans (hb.mono (by omega))⟩
      · rw [← HPD.out]
        exact owns_lower hown (by omega)
      · rw [← HPD.out]
        exact HPA.out.weaken fun b hb h => ⟨by omega, h.2⟩
end Go.Proofs.YtmcegjkkgbnjlaaGreat
