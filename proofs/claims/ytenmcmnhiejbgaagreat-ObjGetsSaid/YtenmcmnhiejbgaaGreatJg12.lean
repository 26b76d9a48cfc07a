/-
  Contracts: the reference's List: all numbers of some bytes; Ints: whether two lists of numbers are the same.
  Contracts: uleb.whole and uleb.Get: the number that begins at a place, and the place behind it.
  Contract: uleb.List: all numbers of some bytes.
  Contract of the project's readSig.
-/
import Derived.Test.YtenmcmnhiejbgaaGreatMem
import Derived.Test.YtenmcmnhiejbgaaGreatJg11
import Derived.Deep.QuietTactic
import Derived.BigQuiet
import Derived.Deep.DeepCutAuto
namespace Go.Proofs.YtenmcmnhiejbgaaGreat
open Go.RowKit


theorem listB_two : ∀ (f g : Nat) (l : List UInt8), l.length ≤ f → l.length ≤ g → listB f l = listB g l
  | _, _, [], _, _ => by simp [listB]
  | 0, _, x :: r, h, _ => by simp at h
  | _, 0, x :: r, _, h => by simp at h
  | f + 1, g + 1, x :: r, hf, hg => by
    unfold listB
    cases hd : digs5 (x :: r) with
    | none => rfl
    | some y =>
      obtain ⟨v, u⟩ := y
      have hu := digs5_used _ _ _ hd
      simp only [List.length_cons] at hf hg
      have hl : ((x :: r).drop u).length ≤ r.length := by simp; omega
      simp only
      rw [listB_two f g _ (by omega) (by omega)]
theorem listB_fuel (f : Nat) (l : List UInt8) (h : l.length ≤ f) : listB f l = listB l.length l := listB_two f l.length l h (Nat.le_refl _)

def listA (l : List UInt8) : Option (List Nat) := listB l.length l
theorem listA_nil : listA [] = some [] := rfl
theorem listA_none {l : List UInt8} (h : digs5 l = none) (hl : l ≠ []) : listA l = none := by
  cases l with
  | nil => exact absurd rfl hl
  | cons x r => simp [listA, listB, h]
theorem listA_some {l : List UInt8} {v u : Nat} (h : digs5 l = some (v, u)) : listA l = (listA (l.drop u)).map (v :: ·) := by
  have hu := digs5_used _ _ _ h
  cases l with
  | nil => simp at hu; omega
  | cons x r =>
    have e : listB r.length ((x :: r).drop u) = listA ((x :: r).drop u) := listB_fuel _ _ (by simp; omega)
    simp only [listA, List.length_cons]
    rw [listB, h]
    simp only
    rw [e]
    rfl


/-- The call hands back the numbers, in memory of its own, and that they are all; or none. -/
def GivesL (r : Option (List Nat)) (w : World) (e : Ending) (w' : World) : Prop :=
  ∃ v, e = .returned (.tuple #[v, .bool r.isSome]) ∧ w'.ownsRow w.heap.size 3 1 v (r.getD []).length (natV (r.getD [])) ∧ Below w.heap.size w w'

theorem opt_nil (o : Option (List Nat)) : o.map (([] : List Nat) ++ ·) = o := by cases o <;> rfl
theorem digV_none {l : List UInt8} (h : digs5 l = none) : digV l = (0, 0) := by simp [digV, h]
theorem digV_some {l : List UInt8} {v u : Nat} (h : digs5 l = some (v, u)) : digV l = (v, u) := by simp [digV, h]

set_option maxHeartbeats 1000000 in
theorem refList_any (p : Option Addr) (len cap : Nat) (l : List UInt8) (w : World) (h : Has w p l) (hlen : l.length = len) (hbig : len ≤ 1000000000) :
    Calls Tryz.prog 30 #[.slice p len cap] w (GivesL (listA l) w) := by
  have HD := Lib.hid fun (a : Nat) (W : World) (ha : a < len) (hb : Below w.heap.size w W) => digits_in p len cap l a W (h.below hb) hlen ha hbig
  have HL := Lib.hid hlen
  obtain ⟨i0, hi, hz0, hz1, hz2⟩ := info_parts Tryz.infoInt
  have HI := Lib.hid hi
  have H0 := Lib.hid hz0
  have H1 := Lib.hid hz1
  have H2 := Lib.hid hz2
  clear h hlen hi hz0 hz1 hz2
  go_enter Tryz.func30, Tryz.ntmps30
  go_wp2
  go_loopw [4, 5] (fun out at_ wr => ∃ (a : Nat) (vs : List Nat), a ≤ len ∧ vs.length ≤ a ∧ at_ = .int .i64 (a : Int) ∧ wr.ownsRow w.heap.size 3 1 out vs.length (natV vs) ∧ Below w.heap.size w wr ∧ listA l = (listA (l.drop a)).map (vs ++ ·)) (fun _ at_ _ => len - (intOf at_).toNat)
  case atStart => exact ⟨0, [], Nat.zero_le _, Nat.le_refl _, rfl, World.ownsRow_nil _ _ _ _, Below.refl _ _, by rw [List.drop_zero]; exact (opt_nil (listA l)).symm⟩
  case round =>
    obtain ⟨a, vs, hal, hva, rfl, hown, hb, hrest⟩ := hrel
    have HR := Lib.hid hrest
    clear hrest
    by_cases hlt : a < len
    · have hD := HD.out a wr hlt hb
      have hne : l.drop a ≠ [] := by
        intro h0
        have := congrArg List.length h0
        simp at this
        have := HL.out
        omega
      cases hd : digs5 (l.drop a) with
      | none =>
        rw [digV_none hd] at hD
        have HDD := Lib.hid hD
        have HN : Hid (listA l = none) := Lib.hid (by rw [HR.out, listA_none hd hne]; rfl)
        clear hD hd hne
        go_wp2_with (go_at_call 63; refine HDD.out.mono ?_; rintro e w' ⟨rfl, rfl⟩)
        go_ret2
        refine ⟨.slice none 0 0, ?_, ?_, hb⟩
        · rw [HN.out]
          rfl
        · rw [HN.out]
          exact World.ownsRow_nil _ _ _ _
      | some y =>
        obtain ⟨v, u⟩ := y
        have hu := digs5_used _ _ _ hd
        rw [digV_some hd] at hD
        have HDD := Lib.hid hD
        have HN : Hid (listA l = (listA (l.drop (a + u))).map ((vs ++ [v]) ++ ·)) := Lib.hid (by
          rw [HR.out, listA_some hd, List.drop_drop]
          cases listA (l.drop (a + u)) <;> simp)
        have hu1 : 1 ≤ u := hu.1
        have hul : a + u ≤ len := by
          have h3 := hu.2.2.1
          rw [List.length_drop] at h3
          have := HL.out
          omega
        have hu0 : ((u : Int) == 0) = false := by simp; omega
        clear hD hd hne hu
        go_wp2_with (first | (go_at_call 63; refine HDD.out.mono ?_; rintro e w' ⟨rfl, rfl⟩) | (at_builtin; refine wpList_append_own _ rfl _ _ 25 rfl w.heap.size 3 i0 (.int .i64 0) 1 8 Tryz.underlying25 HI.out H0.out H1.out H2.out rfl (by decide) _ _ _ rfl (hown.alloc _) ⟨wr.heap.size, 0, none⟩ 1 1 [Value.int .i64 (v : Int)] rfl rfl ?c1 ?c2 ?c3 ?c4 ?c5 ?_))
        case c1 =>
          intro j z hj
          match j, hj with
          | 0, hj => simp at hj; subst hj; simp [Addr.add]
        case c2 => intro z hz; simp at hz; subst hz; rfl
        case c3 => unfold maxLen; omega
        case c4 => omega
        case c5 => have := hb.size; simp; omega
        · intro v' w1 hown' hgrow _
          have hb1 : Below w.heap.size w w1 := (hb.alloc hb.size _).grown hgrow (by have := hb.size; simp; omega) (fun g hg => (hown.lt g hg).1)
          clear hgrow hown hb
          go_wp2
          go_roundw
          case rel =>
            refine ⟨a + u, vs ++ [v], hul, by simp; omega, by go_num, ?_, hb1, HN.out⟩
            rw [← natV_snoc, List.length_append]
            exact hown'
          case measure => simp [intOf]; omega
    · have hal' : l.drop a = [] := List.drop_eq_nil_of_le (by have := HL.out; omega)
      have HN : Hid (listA l = some vs) := Lib.hid (by rw [HR.out, hal', listA_nil]; simp)
      clear hal'
      go_wp2
      go_ret2
      rw [HN.out]
      exact ⟨_, rfl, hown, hb⟩

end Go.Proofs.YtenmcmnhiejbgaaGreat

namespace Go.Proofs.YtenmcmnhiejbgaaGreat
open Go.RowKit

/-- What a Get of two numbers and a bool tells. -/
abbrev got (a b : Int) (ok : Bool) : Ending := .returned (.tuple #[.int .i64 a, .int .i64 b, .bool ok])

theorem whole_yes (v : Nat) (next : Int) (w : World) (h : v ≤ 2147483647) :
    Calls Tryz.prog 135 #[.int .u64 v, .int .i64 next] w fun e w' => e = got v next true ∧ w = w' := by
  have hI : ¬ (2147483647 : Int) < (v : Int) := by omega
  go_enter Tryz.func135, Tryz.ntmps135
  go_wp2
  go_ret3
  exact ⟨rfl, rfl⟩
theorem whole_no (v : Nat) (next : Int) (w : World) (h : 2147483647 < v) :
    Calls Tryz.prog 135 #[.int .u64 v, .int .i64 next] w fun e w' => e = got 0 0 false ∧ w = w' := by
  have hI : (2147483647 : Int) < (v : Int) := by omega
  go_enter Tryz.func135, Tryz.ntmps135
  go_wp2
  go_ret3
  exact ⟨rfl, rfl⟩

theorem dval_snoc : ∀ (l : List UInt8) (x : UInt8), dval (l ++ [x]) = dval l + (x.toNat % 128) * 128 ^ l.length
  | [], x => by simp [dval]
  | y :: r, x => by
    have h := dval_snoc r x
    simp only [List.cons_append, dval, h, List.length_cons, Nat.pow_succ, Nat.mul_add]
    rw [Nat.add_assoc]
    congr 1
    rw [Nat.mul_comm (128 ^ r.length) 128, ← Nat.mul_assoc, ← Nat.mul_assoc, Nat.mul_comm 128 (x.toNat % 128)]

theorem dval_take (l : List UInt8) (k : Nat) (x : UInt8) (h : l[k]? = some x) : dval (l.take (k + 1)) = dval (l.take k) + (x.toNat % 128) * 128 ^ k := by
  have hk : k < l.length := (List.getElem?_eq_some_iff.1 h).1
  rw [List.take_succ_eq_append_getElem hk, (List.getElem?_eq_some_iff.1 h).2, dval_snoc, List.length_take, Nat.min_eq_left (by omega)]

/-- What Get tells of the digits d that stand at a. -/
def ugot (d : List UInt8) (a : Nat) : Ending :=
  match digs5 d with
  | some (v, u) => got v ((a : Int) + u) true
  | none => got 0 0 false

theorem ugot_miss {d : List UInt8} {k : Nat} (a : Nat) (h : k = 5 ∨ d.length = k) (hk : k ≤ 5) (hb : ∀ i y, i < k → d[i]? = some y → 128 ≤ y.toNat) : ugot d a = got 0 0 false := by
  simp [ugot, digs5, digs_miss 5 k d h hk hb]
theorem ugot_hit {d : List UInt8} {k : Nat} {x : UInt8} (a : Nat) (hk : k < 5) (hb : ∀ i y, i < k → d[i]? = some y → 128 ≤ y.toNat) (hx : d[k]? = some x) (hx' : x.toNat < 128) :
    ugot d a = if dval (d.take (k + 1)) ≤ 2147483647 then got (dval (d.take (k + 1))) ((a : Int) + k + 1) true else got 0 0 false := by
  have h := digs_hit 5 k d x hk hb hx hx'
  simp only [ugot, digs5, h]
  by_cases hq : dval (d.take (k + 1)) ≤ 2147483647
  · simp only [if_pos hq]
    rw [show (a : Int) + ((k + 1 : Nat) : Int) = (a : Int) + k + 1 by omega]
  · simp only [if_neg hq]

theorem pow_le (k : Nat) (h : k ≤ 4) : 128 ^ k ≤ 268435456 := by
  have h2 : 128 ^ k ≤ 128 ^ 4 := Nat.pow_le_pow_right (by omega) h
  have e : (128 : Nat) ^ 4 = 268435456 := by decide
  omega
theorem mul_bd {a b : Nat} (h : a < 128) (hb : b ≤ 268435456) : a * b ≤ 34091302912 := by
  have : a * b ≤ 127 * 268435456 := Nat.mul_le_mul (by omega) hb
  omega

set_option maxRecDepth 100000 in
set_option maxHeartbeats 1000000 in
theorem uget_in (p : Option Addr) (len cap : Nat) (l : List UInt8) (a : Nat) (w : World) (h : Has w p l) (hlen : l.length = len) (ha : a < len) (hcap : len ≤ cap) (hbig : len ≤ 1000000000) :
    Calls Tryz.prog 123 #[.slice p len cap, .int .i64 a] w fun e w' => e = ugot (l.drop a) a ∧ w = w' := by
  have hld : (l.drop a).length = len - a := by rw [List.length_drop, hlen]
  obtain ⟨d, hd⟩ : ∃ d, d = l.drop a := ⟨_, rfl⟩
  rw [← hd] at hld ⊢
  obtain ⟨b, off, rfl, hcell⟩ := h.plain (by omega)
  have HC : Hid (∀ i x, d[i]? = some x → w.cell? ⟨b, off + a + i, none⟩ = some (.int .u8 (x.toNat : Int))) := Lib.hid fun i x hx => by
    rw [hd, List.getElem?_drop] at hx
    rw [Nat.add_assoc]
    exact hcell _ _ hx
  obtain ⟨m, hm1⟩ : ∃ m, m = min (len - a) 5 := ⟨_, rfl⟩
  have hm5 : m ≤ 5 := by omega
  have hml : m ≤ len - a := by omega
  have hcj : ¬ cap = a := by omega
  have hmin : min ((len : Int) - (a : Int)) 5 = (m : Int) := by omega
  have HM : Hid (m = 5 ∨ d.length = m) := Lib.hid (by omega)
  have HD : Hid (m ≤ d.length) := Lib.hid (by omega)
  clear h hcell hlen hld hd hm1
  go_enter Tryz.func123, Tryz.ntmps123
  go_upto_region 4 with fail
  go_cut [7] (fun s7 wx => s7 = .slice (some ⟨b, off + a, none⟩) m (cap - a) ∧ w = wx)
  case first =>
    go_wp2
    all_goals
      go_meet
      refine ⟨?_, rfl⟩
      congr 1
      omega
  case rest =>
    obtain ⟨rfl, rfl⟩ := hcut
    clear hmin
    go_wp2
    go_loop [8, 9, 30] (fun n q i => ∃ k : Nat, k ≤ m ∧ i = .int .i64 (k : Int) ∧ q = .int .u64 ((128 ^ k : Nat) : Int) ∧ n = .int .u64 (dval (d.take k) : Int) ∧ (∀ j y, j < k → d[j]? = some y → 128 ≤ y.toNat)) (fun _ _ i => m - (intOf i).toNat)
    case atStart => exact ⟨0, Nat.zero_le _, rfl, rfl, rfl, fun j y hj => absurd hj (by omega)⟩
    case round =>
      obtain ⟨k, hk, rfl, rfl, rfl, hb⟩ := hrel
      have HB := Lib.hid hb
      clear hb
      by_cases hlt : k < m
      · obtain ⟨x, hx⟩ : ∃ x, d[k]? = some x := ⟨_, List.getElem?_eq_getElem (by have := HD.out; omega)⟩
        have hc := HC.out k x hx
        have hx8 := x.toNat_lt
        have hpw := pow_le k (by omega)
        have hdt := dval_take d k x hx
        have hlt2 := dval_lt (d.take k)
        have hl4 : (d.take k).length ≤ k := List.length_take_le _ _
        have hpp : 128 ^ (d.take k).length ≤ 128 ^ k := Nat.pow_le_pow_right (by omega) hl4
        have hmb := mul_bd (a := x.toNat % 128) (by omega) hpw
        have HP : Hid (128 ^ (k + 1) = 128 ^ k * 128) := Lib.hid (Nat.pow_succ _ _)
        have HX := Lib.hid hx
        have HT := Lib.hid hdt
        have hq : dval (d.take k) ≤ 268435456 := by omega
        clear hx hdt hlt2 hl4 hpp
        generalize hr : 128 ^ k = r at *
        have hmI : (x.toNat : Int) % 128 * (r : Int) ≤ 34091302912 := by
          rw [show (x.toNat : Int) % 128 * (r : Int) = ((x.toNat % 128 * r : Nat) : Int) by simp]
          omega
        have hmJ : 0 ≤ (x.toNat : Int) % 128 * (r : Int) := Int.mul_nonneg (by omega) (by omega)
        have HR : Hid (128 ^ k = r) := Lib.hid hr
        clear hr hmb
        by_cases h8 : x.toNat < 128
        · have hI : (x.toNat : Int) < 128 := by omega
          have HV := Lib.hid (ugot_hit a (by omega) HB.out HX.out h8)
          have HE : Hid ((dval (d.take k) : Int) + (x.toNat : Int) % 128 * (r : Int) = (dval (d.take (k + 1)) : Int)) := Lib.hid (by rw [HT.out]; simp)
          by_cases hv : dval (d.take (k + 1)) ≤ 2147483647
          · have HW := Lib.hid fun W => whole_yes (dval (d.take (k + 1))) ((a : Int) + k + 1) W hv
            rw [if_pos hv] at HV
            rw [← HE.out] at HW
            clear hv
            generalize dval (d.take k) = q at *
            go_wp2_with fail
            refine (HW.out _).mono ?_
            rintro e w' ⟨rfl, rfl⟩
            go_wp2_with fail
            go_ret3
            rw [HV.out, ← HE.out]
            exact ⟨rfl, rfl⟩
          · have HW := Lib.hid fun W => whole_no (dval (d.take (k + 1))) ((a : Int) + k + 1) W (by omega)
            rw [if_neg hv] at HV
            rw [← HE.out] at HW
            clear hv
            generalize dval (d.take k) = q at *
            go_wp2_with fail
            refine (HW.out _).mono ?_
            rintro e w' ⟨rfl, rfl⟩
            go_wp2_with fail
            go_ret3
            rw [HV.out]
            exact ⟨rfl, rfl⟩
        · have hI : ¬ (x.toNat : Int) < 128 := by omega
          have HB2 : Hid (∀ j y, j < k + 1 → d[j]? = some y → 128 ≤ y.toNat) := Lib.hid fun j y hj hy => by
            by_cases e : j = k
            · subst e
              rw [HX.out] at hy
              cases hy
              omega
            · exact HB.out j y (by omega) hy
          generalize dval (d.take k) = q at *
          go_wp2_with fail
          go_round
          case rel => exact ⟨k + 1, by omega, by go_num, by rw [HP.out]; go_num, by rw [HT.out]; go_num, HB2.out⟩
          case measure => simp [intOf]; omega
      · obtain rfl : k = m := by omega
        have HV : Hid (ugot d a = got 0 0 false) := Lib.hid (ugot_miss a HM.out hm5 HB.out)
        generalize dval (d.take k) = q at *
        generalize 128 ^ k = r at *
        go_wp2
        go_ret3
        rw [HV.out]
        exact ⟨rfl, rfl⟩

end Go.Proofs.YtenmcmnhiejbgaaGreat

namespace Go.Proofs.YtenmcmnhiejbgaaGreat
open Go.RowKit

theorem ugot_none {l : List UInt8} (a : Nat) (h : digs5 l = none) : ugot l a = got 0 0 false := by simp [ugot, h]
theorem ugot_some {l : List UInt8} {v u : Nat} (a : Nat) (h : digs5 l = some (v, u)) : ugot l a = got v ((a : Int) + u) true := by simp [ugot, h]

set_option maxRecDepth 100000 in
set_option maxHeartbeats 1000000 in
theorem ulist_any (p : Option Addr) (len cap : Nat) (l : List UInt8) (w : World) (h : Has w p l) (hlen : l.length = len) (hcap : len ≤ cap) (hbig : len ≤ 1000000000) :
    Calls Tryz.prog 94 #[.slice p len cap] w (GivesL (listA l) w) := by
  have HD := Lib.hid fun (a : Nat) (W : World) (ha : a < len) (hb : Below w.heap.size w W) => uget_in p len cap l a W (h.below hb) hlen ha hcap hbig
  have HL := Lib.hid hlen
  obtain ⟨i0, hi, hz0, hz1, hz2⟩ := info_parts Tryz.infoInt
  have HI := Lib.hid hi
  have H0 := Lib.hid hz0
  have H1 := Lib.hid hz1
  have H2 := Lib.hid hz2
  clear h hlen hi hz0 hz1 hz2
  go_enter Tryz.func94, Tryz.ntmps94
  go_wp2
  go_loopw [4, 5] (fun out at_ wr => ∃ (a : Nat) (vs : List Nat), a ≤ len ∧ vs.length ≤ a ∧ at_ = .int .i64 (a : Int) ∧ wr.ownsRow w.heap.size 3 1 out vs.length (natV vs) ∧ Below w.heap.size w wr ∧ listA l = (listA (l.drop a)).map (vs ++ ·)) (fun _ at_ _ => len - (intOf at_).toNat)
  case atStart => exact ⟨0, [], Nat.zero_le _, Nat.le_refl _, rfl, World.ownsRow_nil _ _ _ _, Below.refl _ _, by rw [List.drop_zero]; exact (opt_nil (listA l)).symm⟩
  case round =>
    obtain ⟨a, vs, hal, hva, rfl, hown, hb, hrest⟩ := hrel
    have HR := Lib.hid hrest
    clear hrest
    by_cases hlt : a < len
    · have hD := HD.out a wr hlt hb
      have hne : l.drop a ≠ [] := by
        intro h0
        have := congrArg List.length h0
        simp at this
        have := HL.out
        omega
      cases hd : digs5 (l.drop a) with
      | none =>
        rw [ugot_none a hd] at hD
        have HDD := Lib.hid hD
        have HN : Hid (listA l = none) := Lib.hid (by rw [HR.out, listA_none hd hne]; rfl)
        clear hD hd hne
        go_wp2_with (go_at_call 123; refine HDD.out.mono ?_; rintro e w' ⟨rfl, rfl⟩)
        go_ret2
        refine ⟨.slice none 0 0, ?_, ?_, hb⟩
        · rw [HN.out]
          rfl
        · rw [HN.out]
          exact World.ownsRow_nil _ _ _ _
      | some y =>
        obtain ⟨v, u⟩ := y
        have hu := digs5_used _ _ _ hd
        rw [ugot_some a hd] at hD
        have HDD := Lib.hid hD
        have HN : Hid (listA l = (listA (l.drop (a + u))).map ((vs ++ [v]) ++ ·)) := Lib.hid (by
          rw [HR.out, listA_some hd, List.drop_drop]
          cases listA (l.drop (a + u)) <;> simp)
        have hu1 : 1 ≤ u := hu.1
        have hul : a + u ≤ len := by
          have h3 := hu.2.2.1
          rw [List.length_drop] at h3
          have := HL.out
          omega
        clear hD hd hne hu
        go_wp2_with (first | (go_at_call 123; refine HDD.out.mono ?_; rintro e w' ⟨rfl, rfl⟩) | (at_builtin; refine wpList_append_own _ rfl _ _ 25 rfl w.heap.size 3 i0 (.int .i64 0) 1 8 Tryz.underlying25 HI.out H0.out H1.out H2.out rfl (by decide) _ _ _ rfl (hown.alloc _) ⟨wr.heap.size, 0, none⟩ 1 1 [Value.int .i64 (v : Int)] rfl rfl ?c1 ?c2 ?c3 ?c4 ?c5 ?_))
        case c1 =>
          intro j z hj
          match j, hj with
          | 0, hj => simp at hj; subst hj; simp [Addr.add]
        case c2 => intro z hz; simp at hz; subst hz; rfl
        case c3 => unfold maxLen; omega
        case c4 => omega
        case c5 => have := hb.size; simp; omega
        · intro v' w1 hown' hgrow _
          have hb1 : Below w.heap.size w w1 := (hb.alloc hb.size _).grown hgrow (by have := hb.size; simp; omega) (fun g hg => (hown.lt g hg).1)
          clear hgrow hown hb
          go_wp2
          go_roundw
          case rel =>
            refine ⟨a + u, vs ++ [v], hul, by simp; omega, by go_num, ?_, hb1, HN.out⟩
            rw [← natV_snoc, List.length_append]
            exact hown'
          case measure => simp [intOf]; omega
    · have hal' : l.drop a = [] := List.drop_eq_nil_of_le (by have := HL.out; omega)
      have HN : Hid (listA l = some vs) := Lib.hid (by rw [HR.out, hal', listA_nil]; simp)
      clear hal'
      go_wp2
      go_ret2
      rw [HN.out]
      exact ⟨_, rfl, hown, hb⟩

end Go.Proofs.YtenmcmnhiejbgaaGreat

namespace Go.Proofs.YtenmcmnhiejbgaaGreat
open Go.RowKit

/-- The numbers of a header of the list of symbols; none, if there are some already, or it can't be. -/
def sigGo (l : List UInt8) (hs : Bool) (sy : Int) (t : Ten) : Option (List Int) := bif hs || (t.g != sy) then none else (listA (win l t.e.toNat t.f.toNat)).map fun r => r.map fun (n : Nat) => (n : Int)
/-- What readSig gives. -/
def GivesSig (G N : Nat) (v0 v1 v2 : Value) (r : Option (List Int)) (w : World) (e : Ending) (w' : World) : Prop :=
  e = .returned (.bool r.isSome) ∧ FrT N [27] w w' ∧ ∀ xs, r = some xs → ∃ v, w'.heap[G]? = some (.cells #[v0, v1, v2, .bool true, v] 27 (0, 0)) ∧ w'.ownsRow w.heap.size 3 1 v xs.length (xs.map (Value.int .i64))
theorem natV_ints (l : List Nat) : natV l = (l.map fun (n : Nat) => (n : Int)).map (Value.int .i64) := by simp [natV, iv]
theorem block_new {w : World} {o : Obj} {k : Nat} {x : Obj} (h : w.heap[k]? = some x) : (w.alloc o).heap[k]? = some x := (heap_alloc_old w o (Array.getElem?_eq_some_iff.1 h).1).trans h
set_option maxRecDepth 100000 in
set_option maxHeartbeats 4000000 in
theorem readSig_any (N F G : Nat) (w0 : World) (t : Ten) (bp : Option Addr) (bc : Nat) (l : List UInt8) (vh vn vs v0 v1 v2 v4 : Value) (sy : Int) (hs : Bool) (w : World) (hN : w0.heap.size = N) (hw : Below N w0 w) (hNG : N ≤ G)
    (hF : w.heap[F]? = some (.cells #[.slice bp l.length bc, vh, vn, vs, .int .i64 sy] 100 (0, 0))) (hG : w.heap[G]? = some (.cells #[v0, v1, v2, .bool hs, v4] 27 (0, 0)))
    (ht : Has w0 bp l) (h1 : l.length ≤ bc) (h2 : bc ≤ maxLen) (hbig : l.length ≤ 100000) (hm : t.may) (hef : t.e + t.f ≤ (l.length : Int)) :
    Calls Tryz.prog 50 #[filP F, t.v, filP G] w (GivesSig G N v0 v1 v2 (sigGo l hs sy t) w) := by
  have hte := (fitsB_iff _).1 (hm t.e (by simp [Ten.l]))
  have htf := (fitsB_iff _).1 (hm t.f (by simp [Ten.l]))
  obtain ⟨te, hte2⟩ := Int.eq_ofNat_of_zero_le hte.1
  obtain ⟨tf, htf2⟩ := Int.eq_ofNat_of_zero_le htf.1
  have hl : te + tf ≤ l.length := by omega
  have hwl := win_length l te tf hl
  have hwN : N ≤ w.heap.size := by have := hw.size; omega
  have HTO := Lib.hid fun (W : World) (hW : W.cell? ⟨F, 0, none⟩ = some (.slice bp l.length bc)) => told_any F t bp bc l.length te tf W hW h1 h2 hte2 htf2 hl (by omega)
  have HTH := Lib.hid (tol_has ht h1 hl)
  have HUL := Lib.hid fun (W : World) (hW : Below N w0 W) => ulist_any (tolP bp bc te) tf (bc - te) (win l te tf) W ((tol_has ht h1 hl).below (by rw [hN]; exact hW)) hwl (by omega) (by omega)
  have hr : sigGo l hs sy t = bif hs || (t.g != sy) then none else (listA (win l te tf)).map fun r => r.map fun (n : Nat) => (n : Int) := by unfold sigGo; rw [hte2, htf2]; rfl
  generalize sigGo l hs sy t = res at *
  have HR := Lib.hid hr
  have HW := Lib.hid hw
  have hb1 : Below w.heap.size w (w.alloc (.cells #[.int .i64 t.a, .int .i64 t.b, .int .i64 t.c, .int .i64 t.d, .int .i64 t.e, .int .i64 t.f, .int .i64 t.g, .int .i64 t.h, .int .i64 t.i, .int .i64 t.j] 104)) := (Below.refl _ w).alloc (Nat.le_refl _) _
  have hten := heap_new w (.cells #[.int .i64 t.a, .int .i64 t.b, .int .i64 t.c, .int .i64 t.d, .int .i64 t.e, .int .i64 t.f, .int .i64 t.g, .int .i64 t.h, .int .i64 t.i, .int .i64 t.j] 104)
  have hF1 := FrT.heap (N := N) (Ts := []) (FrT.of_below hb1) hF (by simp)
  have hG1 := FrT.heap (N := N) (Ts := []) (FrT.of_below hb1) hG (by simp)
  have hfr1 : FrT N [27] w _ := FrT.of_below hb1
  have HTE := Lib.hid hte2
  have HTF := Lib.hid htf2
  clear hr hw ht hF hG hte htf hm hef hte2 htf2
  go_enter Tryz.func50, Tryz.ntmps50
  go_upto_region 1 with fail
  generalize w.alloc (.cells #[.int .i64 t.a, .int .i64 t.b, .int .i64 t.c, .int .i64 t.d, .int .i64 t.e, .int .i64 t.f, .int .i64 t.g, .int .i64 t.h, .int .i64 t.i, .int .i64 t.j] 104) = W1 at *
  obtain ⟨d0, d1, d2, d3, d4, d5, d6, d7, d8, d9⟩ := cells_ten _ _ _ _ _ _ _ _ _ _ _ _ _ hten
  obtain ⟨⟨c0, c1, c2, c3, c4⟩, f0, f1, f2, f3, f4⟩ := cells5 _ _ _ _ _ _ _ _ hF1
  obtain ⟨⟨g0, g1, g2, g3, g4⟩, e0, e1, e2, e3, e4⟩ := cells5 _ _ _ _ _ _ _ _ hG1
  have HF1 := Lib.hid hF1
  have HG1 := Lib.hid hG1
  have HFR1 := Lib.hid hfr1
  have HTEN := Lib.hid hten
  clear hF1 hG1 hfr1 hten hb1
  cases hs with
  | true =>
    have hE : Hid (res = none) := Lib.hid HR.out
    go_quiet (fail)
    go_wp2_with fail
    go_ret
    refine ⟨by rw [hE.out]; rfl, HFR1.out.trans (FrT.of_below (below_drewN (Below.refl _ W1) _)), fun xs h => ?_⟩
    rw [hE.out] at h
    cases h
  | false =>
    cases hq : (t.g != sy) with
    | true =>
      have hE : Hid (res = none) := Lib.hid (by rw [HR.out, hq]; rfl)
      go_quiet (fail)
      go_wp2_with fail
      go_ret
      refine ⟨by rw [hE.out]; rfl, HFR1.out.trans (FrT.of_below (below_drewN (Below.refl _ W1) _)), fun xs h => ?_⟩
      rw [hE.out] at h
      cases h
    | false =>
      have hE : Hid (res = (listA (win l te tf)).map fun r => r.map fun (n : Nat) => (n : Int)) := Lib.hid (by rw [HR.out, hq]; rfl)
      clear HR
      go_cut [20] (fun s20 wx => s20 = .bool false ∧ Below W1.heap.size W1 wx)
      case first =>
        go_quiet (fail)
        go_wp2_with fail
        go_meet
        exact ⟨rfl, below_drewN (Below.refl _ W1) _⟩
      case rest =>
        obtain ⟨rfl, hbc⟩ := hcut
        have hF2 := FrT.heap (N := N) (Ts := []) (FrT.of_below hbc) HF1.out (by simp)
        have hG2 := FrT.heap (N := N) (Ts := []) (FrT.of_below hbc) HG1.out (by simp)
        have hten2 := FrT.heap (N := N) (Ts := []) (FrT.of_below hbc) HTEN.out (by simp)
        have hfr2 : FrT N [27] w wc := HFR1.out.trans (FrT.of_below hbc)
        clear hq d0 d1 d2 d3 d4 d5 d6 d7 d8 d9 c0 c1 c2 c3 c4 f0 f1 f2 f3 f4 g0 g1 g2 g3 g4 e0 e1 e2 e3 e4 hbc HF1 HG1 HTEN HFR1
        obtain ⟨⟨g0, g1, g2, g3, g4⟩, e0, e1, e2, e3, e4⟩ := cells5 _ _ _ _ _ _ _ _ hG2
        have hFG : F ≠ G := fun e => by
          subst e
          rw [hF2] at hG2
          injection hG2 with h
          injection h with _ h2
          exact absurd h2 (by decide)
        go_upto_region 4 with fail
        have hfs : FrT N [27] wc (wc.setCell ⟨G, 3, none⟩ (.bool true)) := FrT.set hG2 (by simp) hNG _
        have hG3 := heap_setCell_same wc G 3 _ _ (.bool true) hG2
        have hF3 := hfs.heap hF2 (by decide)
        have hten3 := hfs.heap hten2 (by decide)
        have hfr3 := hfr2.trans hfs
        generalize wc.setCell ⟨G, 3, none⟩ (.bool true) = W2 at *
        clear g0 g1 g2 g3 g4 e0 e1 e2 e3 e4 hfs hG2 hF2 hten2 hfr2
        obtain ⟨d0, d1, d2, d3, d4, d5, d6, d7, d8, d9⟩ := cells_ten _ _ _ _ _ _ _ _ _ _ _ _ _ hten3
        obtain ⟨⟨c0, _⟩, _⟩ := cells5 _ _ _ _ _ _ _ _ hF3
        have HT2 := Lib.hid (HTO.out W2 c0)
        have HG3 := Lib.hid hG3
        have HFR3 := Lib.hid hfr3
        have hbw : Below N w0 W2 := HW.out.trans (hfr3.below hwN)
        have HBW := Lib.hid hbw
        clear hF3 hten3 hfr3 hG3 hbw HTO
        go_wp2_with fail
        refine HT2.out.mono ?_
        rintro e w3 ⟨rfl, hb3⟩
        have hb4 : Below N w0 w3 := HBW.out.trans (hb3.mono (by have := HBW.out.size; omega))
        go_wp2_with fail
        refine (HUL.out w3 hb4).mono ?_
        rintro e w4 ⟨v, rfl, hown4, hb5⟩
        obtain ⟨q, c, rfl, _, _, _⟩ := slice_form hown4
        have hG4 : w4.heap[G]? = some (.cells #[v0, v1, v2, .bool true, v4] 27 (0, 0)) := FrT.heap (N := N) (Ts := []) ((FrT.of_below hb3).trans (FrT.of_below hb5)) HG3.out (by simp)
        obtain ⟨⟨g0, g1, g2, g3, g4⟩, e0, e1, e2, e3, e4⟩ := cells5 _ _ _ _ _ _ _ _ hG4
        generalize listA (win l te tf) = so at *
        rw [natV_ints] at hown4
        go_wp2_with fail
        go_ret
        have hsz : w.heap.size ≤ w3.heap.size := by have := HFR3.out.size; have := hb3.size; omega
        have hf4 : FrT N [27] w4 (w4.setCell ⟨G, 4, none⟩ (.slice q (so.getD []).length c)) := FrT.set hG4 (by simp) hNG _
        refine ⟨by rw [hE.out]; cases so <;> rfl, ((HFR3.out.trans (FrT.of_below hb3)).trans (FrT.of_below hb5)).trans hf4, fun xs h => ?_⟩
        rw [hE.out] at h
        cases so with
        | none => cases h
        | some r =>
          cases h
          refine ⟨_, heap_setCell_same w4 G 4 _ _ _ hG4, ?_⟩
          rw [List.length_map]
          exact owns_lower (hf4.owns hown4 (by decide)) hsz
end Go.Proofs.YtenmcmnhiejbgaaGreat
