/-
  The document's example of objects: the object of the zero symbol alone is put in 372 bytes, and got again; the object of nothing may not be.
  Contracts of the reference's ints and sameSec, of two that are alike.
  Contract of the reference's Same, of two objects that are alike.
-/
import Derived.Test.YtenmcmnhiejbgaaGreatJg34
import Derived.Test.YtenmcmnhiejbgaaGreatObjMem
import Derived.Test.YtenmcmnhiejbgaaGreatMem
import Derived.Deep.QuietTactic
import Derived.BigQuiet
import Derived.Deep.DeepCutAuto
import Derived.Test.YtenmcmnhiejbgaaGreatJg21
import Derived.Test.YtenmcmnhiejbgaaGreatJg19
namespace Go.Proofs.YtenmcmnhiejbgaaGreat
open Go.RowKit

def upO : ObjD := ⟨[], [⟨⟨#[]⟩, 0, 0, 0, 0, 0⟩], [], false, []⟩
def noO : ObjD := ⟨[], [], [], false, []⟩
theorem upO_may : mayO upO = true := by kernel_rfl
theorem noO_may : mayO noO = false := by decide
theorem upO_len : (bytesOf upO).length = 372 := by kernel_rfl
theorem upO_small : SmallD upO := ⟨by decide, by decide, by decide, by decide, (fun _ h => by cases h), (fun _ h => by cases h)⟩
theorem noO_small : SmallD noO := ⟨by decide, by decide, by decide, by decide, (fun _ h => by cases h), (fun _ h => by cases h)⟩
theorem upO_got : gotB (bytesOf upO) = some upO := by kernel_rfl
theorem upO_parts (w : World) : ObjParts (w.alloc (.cells #[.string ⟨#[]⟩, .int .i64 0, .int .i64 0, .int .i64 0, .int .i64 0, .int .i64 0] 45)) (.slice none 0 0) (.slice (some ⟨w.heap.size, 0, none⟩) 1 1) (.slice none 0 0) (.slice none 0 0) upO := by
  have h := heap_alloc_new w (.cells #[.string ⟨#[]⟩, .int .i64 0, .int .i64 0, .int .i64 0, .int .i64 0, .int .i64 0] 45)
  refine ⟨⟨none, 0, rfl, Nat.le_refl _, Nat.zero_le _, fun _ => rfl, fun i x hx => by simp [upO] at hx⟩, ⟨_, 1, rfl, Nat.le_refl _, by unfold maxLen; omega, (fun h => by cases h), fun i x hx => ?_⟩, ⟨none, 0, rfl, Nat.le_refl _, Nat.zero_le _, fun _ => rfl, fun i x hx => by simp [upO] at hx⟩, ⟨none, 0, rfl, Nat.le_refl _, Nat.zero_le _, fun _ => rfl, fun i x hx => by simp [upO] at hx⟩⟩
  have hi : i = 0 := by have := (List.getElem?_eq_some_iff.1 hx).1; simp [upO] at this; omega
  subst hi
  simp only [upO, List.getElem?_cons_zero, Option.some.injEq] at hx
  subst hx
  refine ⟨w.heap.size, 0, rfl, ⟨?_, ?_⟩, ⟨?_, ?_⟩, ⟨?_, ?_⟩, ⟨?_, ?_⟩, ⟨?_, ?_⟩, ⟨?_, ?_⟩⟩
  all_goals first | exact (cell_of_row _ _ _ _ _ (0, 0) h).trans rfl | (refine ⟨?_, ?_⟩ <;> decide) | (show (0 : Nat) ≤ maxLen; exact Nat.zero_le _) | fail

/-- What Put gives of the example. -/
theorem upO_put (w : World) : Calls Tryz.prog 8 #[.agg #[.slice none 0 0, .slice (some ⟨w.heap.size, 0, none⟩) 1 1, .slice none 0 0, .bool false, .slice none 0 0]] (w.alloc (.cells #[.string ⟨#[]⟩, .int .i64 0, .int .i64 0, .int .i64 0, .int .i64 0, .int .i64 0] 45)) fun e w' =>
    Below w.heap.size w w' ∧ ∃ (p : Option Addr) (c : Nat), e = .returned (.tuple #[.slice p 372 c, .nilIface]) ∧ Has w' p (bytesOf upO) ∧ 372 ≤ c ∧ c ≤ maxLen ∧ (p = none → c = 0) := by
  refine (show Calls Tryz.prog 8 #[.agg #[.slice none 0 0, .slice (some ⟨w.heap.size, 0, none⟩) 1 1, .slice none 0 0, .bool false, .slice none 0 0]] (w.alloc (.cells #[.string ⟨#[]⟩, .int .i64 0, .int .i64 0, .int .i64 0, .int .i64 0, .int .i64 0] 45)) (GivesPut upO _) from ownPut_any upO _ _ _ _ _ (upO_parts w) upO_small).mono ?_
  rintro e w' ⟨hb, h⟩
  have hb1 : Below w.heap.size w (w.alloc (.cells #[.string ⟨#[]⟩, .int .i64 0, .int .i64 0, .int .i64 0, .int .i64 0, .int .i64 0] 45)) := (Below.refl _ w).alloc (Nat.le_refl _) _
  refine ⟨hb1.trans (hb.mono hb1.size), ?_⟩
  rcases h with ⟨_, v, rfl, ho⟩ | ⟨hf, _⟩
  · rw [upO_len] at ho
    obtain ⟨g, cap, cur, rfl, _⟩ := owns_form ho (by omega)
    obtain ⟨p, c, e, h1, h2, h3, h4⟩ := Has.of_owns ho
    cases e
    exact ⟨_, _, rfl, h4, h1, h2, fun h => by cases h⟩
  · rw [upO_may] at hf
    cases hf
/-- What Get gives of the example's bytes. -/
theorem upO_get (p : Option Addr) (c : Nat) (w : World) (ht : Has w p (bytesOf upO)) (h1 : 372 ≤ c) (h2 : c ≤ maxLen) (h3 : p = none → c = 0) : Calls Tryz.prog 11 #[.slice p 372 c] w fun e w' =>
    Below w.heap.size w w' ∧ ∃ (p0 p1 p2 p4 : Option Addr) (c0 c1 c2 c4 : Nat), e = .returned (.tuple #[.agg #[.slice p0 0 c0, .slice p1 1 c1, .slice p2 0 c2, .bool false, .slice p4 0 c4], .nilIface]) := by
  have h := ownGet_any p c (bytesOf upO) w ht (by rw [upO_len]; exact h1) h2 h3 (by rw [upO_len]; omega)
  rw [upO_len] at h
  refine h.mono ?_
  rintro e w' ⟨hb, v0, v1, v2, v4, o, hp, _, hr⟩
  refine ⟨hb, ?_⟩
  rw [upO_got] at hr
  rcases hr with ⟨hr, _⟩ | ⟨hr, rfl⟩
  · cases hr
  · cases hr
    obtain ⟨⟨p0, c0, rfl, _⟩, ⟨p1, c1, rfl, _⟩, ⟨p2, c2, rfl, _⟩, ⟨p4, c4, rfl, _⟩⟩ := hp
    exact ⟨p0, p1, p2, p4, c0, c1, c2, c4, rfl⟩
theorem noO_not (W : World) : Calls Tryz.prog 9 #[.agg #[.slice none 0 0, .slice none 0 0, .slice none 0 0, .bool false, .slice none 0 0]] W fun e w' => e = .returned (.bool false) ∧ Below W.heap.size W w' := by
  have := ownMay_any noO _ _ _ _ W (zero_parts W) noO_small
  rw [noO_may] at this
  exact this
set_option maxRecDepth 100000 in
set_option maxHeartbeats 4000000 in
theorem up_any (w : World) : Calls Tryz.prog 5 #[] w fun e w' => e = .returned (.bool true) ∧ Below w.heap.size w w' := by
  have HP := Lib.hid (upO_put w)
  go_enter Tryz.func5, Tryz.ntmps5
  go_upto_region 2 with (first | (go_at_call 8; refine HP.out.mono ?_; rintro e w2 ⟨hb2, p, c, rfl, hh, h1, h2, h3⟩) | fail)
  have HG := Lib.hid (upO_get p c w2 hh h1 h2 h3)
  have hbs := hb2.size
  clear hh h1 h2 h3 HP
  go_upto_region 3 with (first | (go_at_call 11; refine HG.out.mono ?_; rintro e w3 ⟨hb3, p0, p1, p2, p4, c0, c1, c2, c4, rfl⟩) | fail)
  have hb4 : Below w.heap.size w (w3.alloc (.cells #[.slice p0 0 c0, .slice p1 1 c1, .slice p2 0 c2, .bool false, .slice p4 0 c4] 27)) := (hb2.trans (hb3.mono hbs)).alloc (Nat.le_trans hbs hb3.size) _
  obtain ⟨⟨a0, a1, a2, a3, a4⟩, _⟩ := cells5 _ _ _ _ _ _ _ _ (heap_alloc_new w3 (.cells #[.slice p0 0 c0, .slice p1 1 c1, .slice p2 0 c2, .bool false, .slice p4 0 c4] 27))
  generalize w3.alloc (.cells #[.slice p0 0 c0, .slice p1 1 c1, .slice p2 0 c2, .bool false, .slice p4 0 c4] 27) = w4 at *
  have HN := Lib.hid (noO_not w4)
  clear hb2 hb3 HG
  go_wp2_with fail
  refine HN.out.mono ?_
  rintro e w5 ⟨rfl, hb5⟩
  go_wp2_with fail
  go_ret
  exact ⟨rfl, hb4.trans (hb5.mono hb4.size)⟩
end Go.Proofs.YtenmcmnhiejbgaaGreat

namespace Go.Proofs.YtenmcmnhiejbgaaGreat
open Go.RowKit

set_option maxRecDepth 100000 in
set_option maxHeartbeats 1000000 in
theorem refInts_eq (xs : List Int) (p q : Option Addr) (c d : Nat) (w : World) (hp : HasL 1 EInt w p xs) (hq : HasL 1 EInt w q xs) (hm : xs.length ≤ maxLen) :
    Calls Tryz.prog 32 #[.slice p xs.length c, .slice q xs.length d] w fun e w' => e = .returned (.bool true) ∧ Below w.heap.size w w' := by
  have HP := Lib.hid hp
  have HQ := Lib.hid hq
  clear hp hq
  generalize hln : xs.length = n at *
  have HLN := Lib.hid hln
  have hnn : ((n : Int) != (n : Int)) = false := by simp
  unfold maxLen at hm
  clear hln
  go_enter Tryz.func32, Tryz.ntmps32
  go_wp2_with fail
  go_loopw [5] (fun r5 wr => ∃ i : Nat, i ≤ n ∧ r5 = .int .i64 (i : Int) ∧ Below w.heap.size w wr) (fun r5 _ => n - (intOf r5).toNat)
  case atStart => exact ⟨0, Nat.zero_le _, rfl, Below.refl _ _⟩
  case round =>
    obtain ⟨i, hi, rfl, hb⟩ := hrel
    by_cases hlt : i < n
    · obtain ⟨b, off, x, rfl, hx, d0, _⟩ := HP.out.at_ (i := i) (by rw [HLN.out]; exact hlt)
      obtain ⟨b', off', y, rfl, hy, e0, _⟩ := HQ.out.at_ (i := i) (by rw [HLN.out]; exact hlt)
      obtain rfl : y = x := by rw [hx] at hy; cases hy; rfl
      have f0 := cell_later hb d0
      have g0 := cell_later hb e0
      rw [Nat.mul_one] at f0 g0
      have hJ : (i : Int) < (n : Int) := by omega
      have hJ0 : (0 : Int) ≤ (i : Int) := by omega
      have q0 : (y != y) = false := by simp
      clear d0 e0 hx hy
      go_upto_region 6 with fail
      go_cut [25] (fun s25 wx => s25 = .bool false ∧ Below w.heap.size w wx)
      case first =>
        go_quiet (fail)
        go_wp2_with fail
        go_meet
        exact ⟨rfl, below_drewN hb _⟩
      case rest =>
        obtain ⟨rfl, hb2⟩ := hcut
        go_wp2_with fail
        go_roundw
        case rel => exact ⟨i + 1, hlt, by go_num, hb2⟩
        case measure => simp [intOf]; omega
    · have hJ : ¬ (i : Int) < (n : Int) := by omega
      go_wp2_with fail
      go_ret
      exact ⟨rfl, hb⟩

/-- A section's value. -/
def secVal (s : SecD) (vd vr : Value) : Value := .agg #[.string s.name, .int .i64 s.type, .int .i64 s.flags, .int .i64 s.align, .int .i64 s.ent, .int .i64 s.link, .int .i64 s.size, vd, vr]
theorem secVal_cells (w : World) (g : Nat) (v0 v1 v2 v3 v4 v5 v6 v7 v8 : Value) (T : TypeId) (h : w.heap[g]? = some (.cells #[v0, v1, v2, v3, v4, v5, v6, v7, v8] T (0, 0))) :
    w.cell? ⟨g, 0, none⟩ = some v0 ∧ w.cell? ⟨g, 1, none⟩ = some v1 ∧ w.cell? ⟨g, 2, none⟩ = some v2 ∧ w.cell? ⟨g, 3, none⟩ = some v3 ∧ w.cell? ⟨g, 4, none⟩ = some v4 ∧ w.cell? ⟨g, 5, none⟩ = some v5 ∧ w.cell? ⟨g, 6, none⟩ = some v6 ∧ w.cell? ⟨g, 7, none⟩ = some v7 ∧ w.cell? ⟨g, 8, none⟩ = some v8 := by
  refine ⟨?_, ?_, ?_, ?_, ?_, ?_, ?_, ?_, ?_⟩ <;> exact (cell_of_row _ _ _ _ _ (0, 0) h).trans rfl

theorem two_in (w : World) (o1 o2 : Obj) : ((w.alloc o1).alloc o2).heap[w.heap.size]? = some o1 ∧ ((w.alloc o1).alloc o2).heap[w.heap.size + 1]? = some o2 ∧ Below w.heap.size w ((w.alloc o1).alloc o2) := by
  have h1 := heap_alloc_new w o1
  have h2 := heap_alloc_new (w.alloc o1) o2
  have hs : (w.alloc o1).heap.size = w.heap.size + 1 := by simp
  have hb : Below (w.alloc o1).heap.size (w.alloc o1) ((w.alloc o1).alloc o2) := (Below.refl _ _).alloc (Nat.le_refl _) _
  refine ⟨?_, ?_, ((Below.refl _ w).alloc (Nat.le_refl _) _).trans (hb.mono (by omega))⟩
  · rw [hb.block _ (by omega)]
    exact h1
  · rw [← hs]
    exact h2
set_option maxRecDepth 100000 in
set_option maxHeartbeats 2000000 in
theorem sameSec_eq (s : SecD) (vd vr ud ur : Value) (w : World) (hd : IsL 1 EByte w vd s.data) (hr : IsL 4 ERel w vr s.rels) (kd : IsL 1 EByte w ud s.data) (kr : IsL 4 ERel w ur s.rels) :
    Calls Tryz.prog 33 #[secVal s vd vr, secVal s ud ur] w fun e w' => e = .returned (.bool true) ∧ Below w.heap.size w w' := by
  obtain ⟨dp, dc, rfl, hd1, hd2, hd3, hdh⟩ := hd
  obtain ⟨rp, rc, rfl, hr1, hr2, hr3, hrh⟩ := hr
  obtain ⟨dq, ec, rfl, kd1, kd2, kd3, kdh⟩ := kd
  obtain ⟨rq, sc, rfl, kr1, kr2, kr3, krh⟩ := kr
  unfold secVal
  have HP := Lib.hid hrh
  have HQ := Lib.hid krh
  have hm : s.rels.length ≤ maxLen := Nat.le_trans hr1 hr2
  have h22 := two_in w (.cells #[.string s.name, .int .i64 s.type, .int .i64 s.flags, .int .i64 s.align, .int .i64 s.ent, .int .i64 s.link, .int .i64 s.size, .slice dp s.data.length dc, .slice rp s.rels.length rc] 48) (.cells #[.string s.name, .int .i64 s.type, .int .i64 s.flags, .int .i64 s.align, .int .i64 s.ent, .int .i64 s.link, .int .i64 s.size, .slice dq s.data.length ec, .slice rq s.rels.length sc] 48)
  have HD1 := Lib.hid fun W (hb : Below w.heap.size w W) => conv_now (cap := dc) ((hdh.below EByte.keeps hb).has) rfl
  have HD2 := Lib.hid fun W (hb : Below w.heap.size w W) => conv_now (cap := ec) ((kdh.below EByte.keeps hb).has) rfl
  generalize hln : s.rels.length = n at *
  have HLN := Lib.hid hln
  have hnn : ((n : Int) != (n : Int)) = false := by simp
  have q1 : (s.type != s.type) = false := by simp
  have q2 : (s.flags != s.flags) = false := by simp
  have q3 : (s.align != s.align) = false := by simp
  have q4 : (s.ent != s.ent) = false := by simp
  have q5 : (s.link != s.link) = false := by simp
  have q6 : (s.size != s.size) = false := by simp
  unfold maxLen at hm
  clear hrh krh hln hdh kdh hd1 hd2 hd3 hr1 hr2 hr3 kd1 kd2 kd3 kr1 kr2 kr3
  go_enter Tryz.func33, Tryz.ntmps33
  go_upto_region 1 with fail
  generalize hW2 : (w.alloc (.cells #[.string s.name, .int .i64 s.type, .int .i64 s.flags, .int .i64 s.align, .int .i64 s.ent, .int .i64 s.link, .int .i64 s.size, .slice dp s.data.length dc, .slice rp n rc] 48)).alloc (.cells #[.string s.name, .int .i64 s.type, .int .i64 s.flags, .int .i64 s.align, .int .i64 s.ent, .int .i64 s.link, .int .i64 s.size, .slice dq s.data.length ec, .slice rq n sc] 48) = W2 at *
  clear hW2
  obtain ⟨g1, g2, hb⟩ := h22
  obtain ⟨a0, a1, a2, a3, a4, a5, a6, a7, a8⟩ := secVal_cells _ _ _ _ _ _ _ _ _ _ _ _ g1
  obtain ⟨b0, b1, b2, b3, b4, b5, b6, b7, b8⟩ := secVal_cells _ _ _ _ _ _ _ _ _ _ _ _ g2
  have k1 := HD1.out W2 hb
  have k2 := HD2.out W2 hb
  generalize s.data.length = dl at *
  generalize str s.data = ds at *
  clear g1 g2 HD1 HD2
  go_upto_region 3 with fail
  go_upto_region 5 with fail
  clear a0 a1 a2 a3 a4 a5 a6 a7 b0 b1 b2 b3 b4 b5 b6 b7 k1 k2 q1 q2 q3 q4 q5 q6
  have HP2 := Lib.hid (HP.out.below ERel.keeps hb)
  have HQ2 := Lib.hid (HQ.out.below ERel.keeps hb)
  have hbs := hb.size
  generalize hgb : w.heap.size = gb at *
  go_wp2_with fail
  go_loopw [5] (fun r5 wr => ∃ i : Nat, i ≤ n ∧ r5 = .int .i64 (i : Int) ∧ Below W2.heap.size W2 wr) (fun r5 _ => n - (intOf r5).toNat)
  case atStart => exact ⟨0, Nat.zero_le _, rfl, Below.refl _ _⟩
  case round =>
    obtain ⟨i, hi, rfl, hbr⟩ := hrel
    have e8 := cell_later hbr a8
    have f8 := cell_later hbr b8
    by_cases hlt : i < n
    · obtain ⟨b, off, x, rfl, hx, ⟨d0, _⟩, ⟨d1, _⟩, ⟨d2, _⟩, d3, _⟩ := HP2.out.at_ (i := i) (by rw [HLN.out]; exact hlt)
      obtain ⟨b', off', y, rfl, hy, ⟨c0, _⟩, ⟨c1, _⟩, ⟨c2, _⟩, c3, _⟩ := HQ2.out.at_ (i := i) (by rw [HLN.out]; exact hlt)
      obtain rfl : y = x := by rw [hx] at hy; cases hy; rfl
      have m0 := cell_later hbr d0
      have m1 := cell_later hbr d1
      have m2 := cell_later hbr d2
      have m3 := cell_later hbr d3
      have n0 := cell_later hbr c0
      have n1 := cell_later hbr c1
      have n2 := cell_later hbr c2
      have n3 := cell_later hbr c3
      have hJ : (i : Int) < (n : Int) := by omega
      have hJ0 : (0 : Int) ≤ (i : Int) := by omega
      clear d0 d1 d2 d3 c0 c1 c2 c3 hx hy
      go_upto_region 8 with fail
      go_cut [86] (fun s86 wx => s86 = .bool false ∧ Below W2.heap.size W2 wx)
      case first =>
        go_quiet (fail)
        go_wp2_with fail
        go_meet
        exact ⟨by simp, below_drewN hbr _⟩
      case rest =>
        obtain ⟨rfl, hb3⟩ := hcut
        go_wp2_with fail
        go_roundw
        case rel => exact ⟨i + 1, hlt, by go_num, hb3⟩
        case measure => simp [intOf]; omega
    · have hJ : ¬ (i : Int) < (n : Int) := by omega
      go_wp2_with fail
      go_ret
      subst hgb
      exact ⟨rfl, hb.trans (hbr.mono hbs)⟩
end Go.Proofs.YtenmcmnhiejbgaaGreat

namespace Go.Proofs.YtenmcmnhiejbgaaGreat
open Go.RowKit

theorem HasL.at_two {α : Type} {k : Nat} {E : World → Nat → Nat → α → Prop} {w : World} {p q : Option Addr} {xs : List α} (h : HasL k E w p xs) (h' : HasL k E w q xs) {i : Nat} (hi : i < xs.length) :
    ∃ b off b' off' x, p = some ⟨b, off, none⟩ ∧ q = some ⟨b', off', none⟩ ∧ E w b (off + i * k) x ∧ E w b' (off' + i * k) x := by
  obtain ⟨b, off, e, hx⟩ := h i xs[i] (List.getElem?_eq_getElem hi)
  obtain ⟨b', off', e', hx'⟩ := h' i xs[i] (List.getElem?_eq_getElem hi)
  exact ⟨b, off, b', off', xs[i], e, e', hx, hx'⟩
set_option maxRecDepth 100000 in
set_option maxHeartbeats 4000000 in
theorem refSame_eq (o : ObjD) (v0 v1 v2 v4 u0 u1 u2 u4 : Value) (w : World) (hp : ObjParts w v0 v1 v2 v4 o) (hq : ObjParts w u0 u1 u2 u4 o) :
    Calls Tryz.prog 13 #[objV v0 v1 v2 o.hasSig v4, objV u0 u1 u2 o.hasSig u4] w fun e w' => e = .returned (.bool true) ∧ Below w.heap.size w w' := by
  obtain ⟨hp0, hp1, hp2, hp4⟩ := hp
  obtain ⟨p0, c0, rfl, q01, q02, _, hqh⟩ := hp0
  obtain ⟨p1, c1, rfl, y01, y02, _, hyh⟩ := hp1
  obtain ⟨p2, c2, rfl, g01, g02, _, hgh⟩ := hp2
  obtain ⟨p4, c4, rfl, x01, x02, _, hxh⟩ := hp4
  obtain ⟨kp0, kp1, kp2, kp4⟩ := hq
  obtain ⟨r0, d0, rfl, _, _, _, kqh⟩ := kp0
  obtain ⟨r1, d1, rfl, _, _, _, kyh⟩ := kp1
  obtain ⟨r2, d2, rfl, _, _, _, kgh⟩ := kp2
  obtain ⟨r4, d4, rfl, _, _, _, kxh⟩ := kp4
  have hqm := Nat.le_trans q01 q02
  have hym := Nat.le_trans y01 y02
  have hgm := Nat.le_trans g01 g02
  have hxm := Nat.le_trans x01 x02
  have h22 := two_in w (.cells #[.slice p0 o.secs.length c0, .slice p1 o.syms.length c1, .slice p2 o.groups.length c2, .bool o.hasSig, .slice p4 o.sig.length c4] 27) (.cells #[.slice r0 o.secs.length d0, .slice r1 o.syms.length d1, .slice r2 o.groups.length d2, .bool o.hasSig, .slice r4 o.sig.length d4] 27)
  have HSG := Lib.hid fun W (hb : Below w.heap.size w W) => refInts_eq o.sig p4 r4 c4 d4 W (hxh.below EInt.keeps hb) (kxh.below EInt.keeps hb) hxm
  have HQ := Lib.hid fun W (hb : Below w.heap.size w W) => And.intro (hqh.below ESec.keeps hb) (kqh.below ESec.keeps hb)
  have HY := Lib.hid fun W (hb : Below w.heap.size w W) => And.intro (hyh.below ESym.keeps hb) (kyh.below ESym.keeps hb)
  have HG := Lib.hid fun W (hb : Below w.heap.size w W) => And.intro (hgh.below EGroup.keeps hb) (kgh.below EGroup.keeps hb)
  unfold maxLen at hqm hym hgm hxm
  clear hqh kqh hyh kyh hgh kgh hxh kxh q01 q02 y01 y02 g01 g02 x01 x02
  generalize hql : o.secs.length = ql at *
  generalize hyl : o.syms.length = yl at *
  generalize hgln : o.groups.length = gl at *
  generalize hxl : o.sig.length = xl at *
  generalize o.hasSig = sg at *
  have HQL := Lib.hid hql
  have HYL := Lib.hid hyl
  have HGL := Lib.hid hgln
  have n1 : ((ql : Int) != (ql : Int)) = false := by simp
  have n2 : ((yl : Int) != (yl : Int)) = false := by simp
  have n3 : ((gl : Int) != (gl : Int)) = false := by simp
  have n4 : (sg != sg) = false := by simp
  clear hql hyl hgln hxl
  go_enter Tryz.func13, Tryz.ntmps13
  go_upto_region 1 with fail
  generalize hW2 : (w.alloc (.cells #[.slice p0 ql c0, .slice p1 yl c1, .slice p2 gl c2, .bool sg, .slice p4 xl c4] 27)).alloc (.cells #[.slice r0 ql d0, .slice r1 yl d1, .slice r2 gl d2, .bool sg, .slice r4 xl d4] 27) = W2 at *
  clear hW2
  obtain ⟨g1, g2, hb⟩ := h22
  obtain ⟨⟨a0, a1, a2, a3, a4⟩, _⟩ := cells5 _ _ _ _ _ _ _ _ g1
  obtain ⟨⟨b0, b1, b2, b3, b4⟩, _⟩ := cells5 _ _ _ _ _ _ _ _ g2
  have HSG2 := Lib.hid (HSG.out W2 hb)
  have hbs := hb.size
  clear g1 g2 HSG
  generalize hgb : w.heap.size = gb at *
  go_wp2_with fail
  refine HSG2.out.mono ?_
  rintro e w3 ⟨rfl, hb3⟩
  have hx3 : Below gb w w3 := hb.trans (hb3.mono hbs)
  have A0 := cell_later hb3 a0
  have A1 := cell_later hb3 a1
  have A2 := cell_later hb3 a2
  have A3 := cell_later hb3 a3
  have B0 := cell_later hb3 b0
  have B1 := cell_later hb3 b1
  have B2 := cell_later hb3 b2
  have B3 := cell_later hb3 b3
  obtain ⟨hQ1, hQ2⟩ := HQ.out w3 hx3
  obtain ⟨hY1, hY2⟩ := HY.out w3 hx3
  obtain ⟨hG1, hG2⟩ := HG.out w3 hx3
  have HQ1 := Lib.hid hQ1
  have HQ2 := Lib.hid hQ2
  have HY1 := Lib.hid hY1
  have HY2 := Lib.hid hY2
  have HG1 := Lib.hid hG1
  have HG2 := Lib.hid hG2
  have hgw : gb ≤ w3.heap.size := Nat.le_trans hbs hb3.size
  clear a0 a1 a2 a3 a4 b0 b1 b2 b3 b4 hb hb3 hbs HQ HY HG HSG2 hQ1 hQ2 hY1 hY2 hG1 hG2
  go_upto_region 4 with fail
  go_wp2_with fail
  go_loopw [6] (fun r6 wr => ∃ i : Nat, i ≤ ql ∧ r6 = .int .i64 (i : Int) ∧ Below w3.heap.size w3 wr) (fun r6 _ => ql - (intOf r6).toNat)
  case atStart => exact ⟨0, Nat.zero_le _, rfl, Below.refl _ _⟩
  case round =>
    obtain ⟨i, hi, rfl, hbr⟩ := hrel
    have x0 := cell_later hbr A0
    have y0 := cell_later hbr B0
    by_cases hlt : i < ql
    · obtain ⟨b, off, b', off', x, rfl, rfl, hE1, hE2⟩ := HQ1.out.at_two HQ2.out (i := i) (by rw [HQL.out]; exact hlt)
      obtain ⟨e0, e1, e2, e3, e4, e5, e6, ⟨v7, e7, h7⟩, ⟨v8, e8, h8⟩⟩ := ESec.keeps _ _ _ _ _ hbr hE1
      obtain ⟨f0, f1, f2, f3, f4, f5, f6, ⟨u7, f7, k7⟩, ⟨u8, f8, k8⟩⟩ := ESec.keeps _ _ _ _ _ hbr hE2
      have HSE := Lib.hid fun W (hW : Below wr.heap.size wr W) => sameSec_eq x v7 v8 u7 u8 W (h7.below EByte.keeps hW) (h8.below ERel.keeps hW) (k7.below EByte.keeps hW) (k8.below ERel.keeps hW)
      have hJ : (i : Int) < (ql : Int) := by omega
      have hJ0 : (0 : Int) ≤ (i : Int) := by omega
      have e0 := e0.1
      have e1 := e1.1
      have e2 := e2.1
      have e3 := e3.1
      have e4 := e4.1
      have e5 := e5.1
      have e6 := e6.1
      have f0 := f0.1
      have f1 := f1.1
      have f2 := f2.1
      have f3 := f3.1
      have f4 := f4.1
      have f5 := f5.1
      have f6 := f6.1
      clear hE1 hE2 h7 h8 k7 k8
      unfold secVal at HSE
      go_upto_region 7 with fail
      go_cut [7] (fun s7 wx => s7 = .bool true ∧ Below wr.heap.size wr wx)
      case first =>
        refine wp_region_below (by kernel_rfl) (by kernel_rfl) ?_
        repeat (go_big_quiet_step (first
          | (intro hWq; go_at_call 33; refine (HSE.out _ hWq).mono ?_; rintro e w' ⟨rfl, hb⟩; exact ⟨rfl, hWq.trans (hb.mono hWq.size)⟩)
          | (intro hWq; have z0 := cell_later hWq x0; have z1 := cell_later hWq y0; have l0 := cell_later hWq e0; have l1 := cell_later hWq e1; have l2 := cell_later hWq e2; have l3 := cell_later hWq e3; have l4 := cell_later hWq e4; have l5 := cell_later hWq e5; have l6 := cell_later hWq e6; have l7 := cell_later hWq e7; have l8 := cell_later hWq e8; have m0 := cell_later hWq f0; have m1 := cell_later hWq f1; have m2 := cell_later hWq f2; have m3 := cell_later hWq f3; have m4 := cell_later hWq f4; have m5 := cell_later hWq f5; have m6 := cell_later hWq f6; have m7 := cell_later hWq f7; have m8 := cell_later hWq f8; go_simp; first | done | rfl | exact ⟨rfl, rfl⟩ | fail)
          | fail))
        refine wpQuiet_nil ?_
        intro wx hwx
        go_wp2_with fail
        go_meet
        exact ⟨rfl, hwx⟩
      case rest =>
        obtain ⟨rfl, hb5⟩ := hcut
        have hb6 := hbr.trans (hb5.mono hbr.size)
        clear e0 e1 e2 e3 e4 e5 e6 e7 e8 f0 f1 f2 f3 f4 f5 f6 f7 f8 HSE
        go_wp2_with fail
        go_roundw
        case rel => exact ⟨i + 1, hlt, by go_num, hb6⟩
        case measure => simp [intOf]; omega
    · have hJ : ¬ (i : Int) < (ql : Int) := by omega
      have X1 := cell_later hbr A1
      have X2 := cell_later hbr A2
      have Y1 := cell_later hbr B1
      have Y2 := cell_later hbr B2
      have HY3 := Lib.hid (HY1.out.below ESym.keeps hbr)
      have HY4 := Lib.hid (HY2.out.below ESym.keeps hbr)
      have HG3 := Lib.hid (HG1.out.below EGroup.keeps hbr)
      have HG4 := Lib.hid (HG2.out.below EGroup.keeps hbr)
      have hx4 : Below gb w wr := hx3.trans (hbr.mono hgw)
      have hgr : gb ≤ wr.heap.size := Nat.le_trans hgw hbr.size
      clear A0 A1 A2 A3 B0 B1 B2 B3 HQ1 HQ2 HY1 HY2 HG1 HG2 hx3 hgw hbr HQL
      generalize wr = wo at *
      go_wp2_with fail
      go_loopw [8] (fun r8 wr => ∃ j : Nat, j ≤ yl ∧ r8 = .int .i64 (j : Int) ∧ Below wo.heap.size wo wr) (fun r8 _ => yl - (intOf r8).toNat)
      case atStart => exact ⟨0, Nat.zero_le _, rfl, Below.refl _ _⟩
      case round =>
        obtain ⟨j, hj, rfl, hbr⟩ := hrel
        have x1 := cell_later hbr X1
        have y1 := cell_later hbr Y1
        by_cases hlt : j < yl
        · obtain ⟨b, off, b', off', x, rfl, rfl, hE1, hE2⟩ := HY3.out.at_two HY4.out (i := j) (by rw [HYL.out]; exact hlt)
          obtain ⟨⟨e0, _⟩, ⟨e1, _⟩, ⟨e2, _⟩, ⟨e3, _⟩, ⟨e4, _⟩, ⟨e5, _⟩⟩ := ESym.keeps _ _ _ _ _ hbr hE1
          obtain ⟨⟨f0, _⟩, ⟨f1, _⟩, ⟨f2, _⟩, ⟨f3, _⟩, ⟨f4, _⟩, ⟨f5, _⟩⟩ := ESym.keeps _ _ _ _ _ hbr hE2
          have hJ : (j : Int) < (yl : Int) := by omega
          have hJ0 : (0 : Int) ≤ (j : Int) := by omega
          clear hE1 hE2
          go_upto_region 13 with fail
          go_cut [89] (fun s89 wx => s89 = .bool false ∧ Below wo.heap.size wo wx)
          case first =>
            go_quiet (fail)
            go_wp2_with fail
            go_meet
            exact ⟨by simp, below_drewN hbr _⟩
          case rest =>
            obtain ⟨rfl, hb5⟩ := hcut
            go_wp2_with fail
            go_roundw
            case rel => exact ⟨j + 1, hlt, by go_num, hb5⟩
            case measure => simp [intOf]; omega
        · have hJ : ¬ (j : Int) < (yl : Int) := by omega
          have x2 := cell_later hbr X2
          have y2 := cell_later hbr Y2
          have HG5 := Lib.hid (HG3.out.below EGroup.keeps hbr)
          have HG6 := Lib.hid (HG4.out.below EGroup.keeps hbr)
          have hx5 : Below gb w wr := hx4.trans (hbr.mono hgr)
          have hgq : gb ≤ wr.heap.size := Nat.le_trans hgr hbr.size
          clear X1 X2 Y1 Y2 HY3 HY4 HG3 HG4 hx4 hgr hbr HYL
          generalize wr = wp at *
          go_wp2_with fail
          go_loopw [9, 10] (fun r9 _ wr => ∃ k : Nat, k ≤ gl ∧ r9 = .int .i64 (k : Int) ∧ Below wp.heap.size wp wr) (fun r9 _ _ => gl - (intOf r9).toNat)
          case atStart => exact ⟨0, Nat.zero_le _, rfl, Below.refl _ _⟩
          case round =>
            obtain ⟨k, hk, rfl, hbr⟩ := hrel
            have x3 := cell_later hbr x2
            have y3 := cell_later hbr y2
            by_cases hlt : k < gl
            · obtain ⟨b, off, b', off', x, rfl, rfl, hE1, hE2⟩ := HG5.out.at_two HG6.out (i := k) (by rw [HGL.out]; exact hlt)
              obtain ⟨⟨e0, _⟩, v1, e1, pm, cm, rfl, m1, m2, _, hmh⟩ := EGroup.keeps _ _ _ _ _ hbr hE1
              obtain ⟨⟨f0, _⟩, u1, f1, qm, dm, rfl, _, _, _, kmh⟩ := EGroup.keeps _ _ _ _ _ hbr hE2
              have HI := Lib.hid fun W (hW : Below wr.heap.size wr W) => refInts_eq x.members pm qm cm dm W (hmh.below EInt.keeps hW) (kmh.below EInt.keeps hW) (Nat.le_trans m1 m2)
              have hJ : (k : Int) < (gl : Int) := by omega
              have hJ0 : (0 : Int) ≤ (k : Int) := by omega
              have q0 : (x.sym != x.sym) = false := by simp
              clear hE1 hE2 hmh kmh m1 m2
              generalize x.members.length = ml at *
              go_upto_region 18 with fail
              go_cut [10] (fun s10 wx => s10 = .bool true ∧ Below wr.heap.size wr wx)
              case first =>
                refine wp_region_below (by kernel_rfl) (by kernel_rfl) ?_
                repeat (go_big_quiet_step (first
                  | (intro hWq; go_at_call 32; refine (HI.out _ hWq).mono ?_; rintro e w' ⟨rfl, hb⟩; exact ⟨rfl, hWq.trans (hb.mono hWq.size)⟩)
                  | (intro hWq; have z0 := cell_later hWq x3; have z1 := cell_later hWq y3; have l0 := cell_later hWq e0; have l1 := cell_later hWq e1; have m0 := cell_later hWq f0; have m1 := cell_later hWq f1; go_simp; first | done | rfl | exact ⟨rfl, rfl⟩ | fail)
                  | fail))
                refine wpQuiet_nil ?_
                intro wx hwx
                go_wp2_with fail
                go_meet
                exact ⟨rfl, hwx⟩
              case rest =>
                obtain ⟨rfl, hb5⟩ := hcut
                have z0 := cell_later hb5 x3
                have z1 := cell_later hb5 y3
                have l0 := cell_later hb5 e0
                have l1 := cell_later hb5 f0
                have hb6 := hbr.trans (hb5.mono hbr.size)
                clear e0 e1 f0 f1 x3 y3 HI hbr hb5
                go_upto_region 19 with fail
                go_cut [126] (fun s126 wx => s126 = .bool false ∧ Below wp.heap.size wp wx)
                case first =>
                  go_quiet (fail)
                  go_wp2_with fail
                  go_meet
                  exact ⟨by simp, below_drewN hb6 _⟩
                case rest =>
                  obtain ⟨rfl, hb5⟩ := hcut
                  go_wp2_with fail
                  go_roundw
                  case rel => exact ⟨k + 1, hlt, by go_num, hb5⟩
                  case measure => simp [intOf]; omega
            · have hJ : ¬ (k : Int) < (gl : Int) := by omega
              go_wp2_with fail
              go_ret
              subst hgb
              exact ⟨rfl, hx5.trans (hbr.mono hgq)⟩
end Go.Proofs.YtenmcmnhiejbgaaGreat
