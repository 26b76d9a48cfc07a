/-
  The two Resolves agree.
  Contracts: Bools, where the two lists are the same; Code.
  Contract: the statement's same, where the two tables are the same.
  A flag of a number of flags, by a bit of it and by division. Nothing here walks the program.
  Contracts of the project's own within, isPlace, has.
  Tables of names: what the document's own functions tell, as functions on lists of bytes. Nothing here speaks of the program.
  Contracts: the reference's Name and At: whether a text may be a name; the name at a place.
-/
import Derived.Test.YthnkehdcolnegaaGreatNR12
import Derived.Test.YthnkehdcolnegaaGreatNR02
import Derived.Test.YthnkehdcolnegaaGreatNR10
import Derived.Deep.QuietTactic
import Derived.BigQuiet
import Derived.Lib.IfaceEq
import Derived.Test.YthnkehdcolnegaaGreatNR13
import Derived.Test.YthnkehdcolnegaaGreatShapeA
import Derived.Laws.BitsLemmas
import Derived.Test.YthnkehdcolnegaaGreatWords
import Derived.Test.YthnkehdcolnegaaGreatMem
import Derived.Deep.DeepCutAuto
namespace Go.Proofs.YthnkehdcolnegaaGreat
open Go.RowKit

theorem findL_of {m defs : List DefD} (ha : Apart m) (hs : DSorted defs) (he : ∀ d, d ∈ defs ↔ d ∈ m) (name : ByteArray) : findL defs name = m.find? fun e => sEq e.name name := by
  have hap : Apart defs := hs.imp fun {a b} hab he => by rw [he, sLt_irrefl] at hab; cases hab
  cases h1 : findL defs name with
  | some d =>
    have hn := find_name h1
    have hm := (find_mem ha).1 ((he d).1 (List.mem_of_find?_eq_some h1))
    rw [hn] at hm
    exact hm.symm
  | none =>
    cases h2 : m.find? fun e => sEq e.name name with
    | none => rfl
    | some d =>
      have hn := find_name h2
      have hd := (find_mem hap).1 ((he d).2 (List.mem_of_find?_eq_some h2))
      rw [hn] at hd
      have h1 : defs.find? (fun e => sEq e.name name) = none := h1
      rw [h1] at hd
      cases hd
theorem defines_bind {l : List ObjD} (ok : ∀ o ∈ l, OkD o) (y : Sy) (hy : y ∈ allTo ObjD.syms l l.length) (hd : definesB y.2.2 (drAt (dropsOf l) y.1) = true) : y.2.2.bind = 1 ∨ y.2.2.bind = 2 := by
  obtain ⟨_, o, ho, hx⟩ := allTo_mem.1 hy
  have hb := (ok o (List.mem_of_getElem? ho)).bind y.2.2 (List.mem_of_getElem? hx)
  have h0 : y.2.2.bind ≠ 0 := fun h0 => by unfold definesB at hd; rw [h0] at hd; cases hd
  omega
theorem agree {l : List ObjD} {mb : Bool} {w1 w2 : World} {n1 n2 : Int} {v0 v1 u0 u1 : Value} (hlen : l.length ≤ 10) (hok : mb = true → ∀ o ∈ l, OkD o) (h : TabIs l mb w1 n1 v0 v1) (k : RTabIs l mb w2 n2 u0 u1) :
    n1 = n2 ∧ (0 ≤ n1 ∧ n1 ≤ 8) ∧ (n1 ≠ 0 ∧ v0 = nilV ∧ v1 = nilV ∧ u0 = nilV ∧ u1 = nilV ∨ n1 = 0 ∧ mb = true ∧ ∃ defs, DSorted defs ∧ defs.length ≤ 100000 ∧
      (∀ name, findL defs name = findIn (allTo ObjD.syms l l.length) (dropsOf l) name) ∧ IsTab w1 v0 v1 (dropsOf l) defs ∧ IsTab w2 u0 u1 (dropsOf l) defs) := by
  rcases h with ⟨h0, rfl, rfl, rfl⟩ | ⟨h0, h⟩
  · rcases k with ⟨_, rfl, rfl, rfl⟩ | ⟨k0, _⟩
    · exact ⟨rfl, by omega, .inl ⟨by omega, rfl, rfl, rfl, rfl⟩⟩
    · rw [h0] at k0; cases k0
  · rcases k with ⟨k0, _⟩ | ⟨_, k⟩
    · rw [h0] at k0; cases k0
    · have ok := hok h0
      rcases tables_eq (xs := allTo ObjD.syms l l.length) (D := dropsOf l) (bindOf := bindIn l) bindIn_all (defines_bind ok) with ⟨t1, t2⟩ | ⟨m, rd, u, t1, t2, ta, ts, te, tf, tg, tu⟩
      · rcases h with ⟨_, rfl, rfl, rfl⟩ | ⟨ms, defs, h1, _⟩
        · rcases k with ⟨_, rfl, rfl, rfl⟩ | ⟨defs, u, k1, _⟩
          · exact ⟨rfl, by omega, .inl ⟨by omega, rfl, rfl, rfl, rfl⟩⟩
          · rw [t2] at k1; cases k1
        · rw [t1] at h1; cases h1
      · rcases h with ⟨h1, _⟩ | ⟨ms, defs, h1, hs, hm, hr⟩
        · rw [t1] at h1; cases h1
        · rw [t1] at h1
          cases h1
          rcases k with ⟨k1, _⟩ | ⟨defs', u', k1, kr⟩
          · rw [t2] at k1; cases k1
          · have hlt := refGo_len k1
            rw [t2] at k1
            cases k1
            obtain rfl : defs = rd := sorted_ext hs ts fun d => (hm d).trans (te d)
            have hf : ∀ name, findL defs name = findIn (allTo ObjD.syms l l.length) (dropsOf l) name := fun name => (findL_of ta hs hm name).trans (tf name)
            have hall : (allTo ObjD.syms l l.length).all (defdB defs) = !u := by
              rw [tu, List.not_any_eq_all_not]
              congr 1
              funext x
              unfold defdB
              rw [hf]
              cases h1 : (x.2.2.bind == 1) <;> cases h2 : findIn (allTo ObjD.syms l l.length) (dropsOf l) x.2.2.name <;> simp [bne, h1]
            rw [hall] at hr
            have hl2 := all_len ok l.length
            simp only [List.length_nil] at hlt
            rcases hr with ⟨r1, rfl, rfl, rfl⟩ | ⟨r1, rfl, r2⟩
            · rcases kr with ⟨_, rfl, rfl, rfl⟩ | ⟨k2, _⟩
              · exact ⟨rfl, by omega, .inl ⟨by omega, rfl, rfl, rfl, rfl⟩⟩
              · rw [k2] at r1; cases r1
            · rcases kr with ⟨k2, _⟩ | ⟨_, rfl, k3⟩
              · rw [k2] at r1; cases r1
              · exact ⟨rfl, by omega, .inr ⟨rfl, h0, defs, hs, by omega, hf, r2, k3⟩⟩
end Go.Proofs.YthnkehdcolnegaaGreat

namespace Go.Proofs.YthnkehdcolnegaaGreat
open Go.RowKit

theorem bools_same (p q : Option Addr) (n c d : Nat) (xs : List Bool) (w : World) (hp : HasL 1 EBool w p xs) (hq : HasL 1 EBool w q xs) (hn : xs.length = n) (hm : n ≤ maxLen) :
    Calls Tryz.prog 59 #[.slice p n c, .slice q n d] w fun e w' => e = .returned (.int .i64 1) ∧ Below w.heap.size w w' := by
  unfold maxLen at hm
  have HP := Lib.hid hp
  have HQ := Lib.hid hq
  have HN := Lib.hid hn
  have hnn : ((n : Int) != (n : Int)) = false := by simp
  clear hp hq hn
  go_enter Tryz.func59, Tryz.ntmps59
  go_wp2
  go_loopw [5] (fun i wr => ∃ (k m : Nat), k ≤ n ∧ i = .int .i64 (k : Int) ∧ wr = w.drewN m) (fun i _ => n - (intOf i).toNat)
  case atStart => exact ⟨0, 0, Nat.zero_le _, rfl, rfl⟩
  case round =>
    obtain ⟨k, m, hk, rfl, rfl⟩ := hrel
    by_cases hlt : k < n
    · obtain ⟨b1, o1, x, hp1, hx, hc1⟩ := HP.out.at_ (i := k) (by rw [HN.out]; exact hlt)
      obtain ⟨b2, o2, x2, hp2, hx2, hc2⟩ := HQ.out.at_ (i := k) (by rw [HN.out]; exact hlt)
      obtain rfl : x2 = x := by rw [hx] at hx2; cases hx2; rfl
      have hxx : (x2 != x2) = false := by simp
      have k0 : (0 : Int) ≤ (k : Int) := by omega
      have k1 : (k : Int) < (n : Int) := by omega
      unfold EBool at hc1 hc2
      rw [Nat.mul_one] at hc1 hc2
      subst hp1
      subst hp2
      clear hx hx2
      go_wp2_with fail
      go_quiet (fail)
      go_wp2_with fail
      go_roundw
      case rel => exact ⟨k + 1, _, hlt, by go_num, rfl⟩
      case measure => simp [intOf]; omega
    · go_wp2_with fail
      go_ret
      exact ⟨rfl, below_drewN (Below.refl _ w) m⟩

theorem codeEq (a b : Int) (w : World) : (binOp .eql 33 (.iface 36 (.int .i64 a)) (.iface 36 (.int .i64 b))).run Tryz.prog w = .ok (.bool (a == b)) w :=
  Lib.run_eql_iface_int w a b Tryz.underlying33 (by kernel_rfl) Tryz.underlying36
set_option maxRecDepth 100000 in
theorem code_any (n : Int) (hn : 0 ≤ n ∧ n ≤ 8) (w : World) : Calls Tryz.prog 21 #[errV n] w fun e w' => e = .returned (.int .i64 n) ∧ Below w.heap.size w w' := by
  have hb0 : Below w.heap.size w w := Below.refl _ w
  by_cases h0 : n = 0
  · subst h0
    rw [show errV 0 = .nilIface from rfl]
    go_enter Tryz.func21, Tryz.ntmps21
    go_wp2_with fail
    go_ret
    exact ⟨rfl, hb0⟩
  · rw [show errV n = .iface 36 (.int .i64 n) from if_neg h0]
    go_enter Tryz.func21, Tryz.ntmps21
    go_wp2_with fail
    go_loopw [3] (fun r3 wr => ∃ c : Int, 1 ≤ c ∧ c ≤ n ∧ r3 = .int .i64 c ∧ wr = w) (fun r3 _ => 9 - (intOf r3).toNat)
    case atStart => exact ⟨1, by omega, by omega, rfl, rfl⟩
    case round =>
      obtain ⟨c, h1, h2, rfl, rfl⟩ := hrel
      have h8 : c ≤ 8 := by omega
      by_cases he : c = n
      · subst he
        have hcc := Lib.hid (show (c == c) = true by simp)
        go_wp2_with fail
        try rw [codeEq]
        try rw [hcc.out]
        go_wp2_with fail
        go_ret
        exact ⟨rfl, hb0⟩
      · have hne := Lib.hid (show (n == c) = false from beq_eq_false_iff_ne.2 fun h => he h.symm)
        have hlt : c < n := by omega
        go_wp2_with fail
        try rw [codeEq]
        try rw [hne.out]
        go_wp2_with fail
        go_roundw
        case rel => exact ⟨c + 1, by omega, by omega, by go_num, by trivial⟩
        case measure => simp [intOf]; omega
end Go.Proofs.YthnkehdcolnegaaGreat

namespace Go.Proofs.YthnkehdcolnegaaGreat
open Go.RowKit

set_option maxRecDepth 100000 in
set_option maxHeartbeats 4000000 in
theorem same_any (v0 v1 u0 u1 : Value) (D : List (List Bool)) (defs : List DefD) (w : World) (h : IsTab w v0 v1 D defs) (k : IsTab w u0 u1 D defs) :
    Calls Tryz.prog 22 #[.agg #[v0, v1], .agg #[u0, u1]] w fun e w' => e = .returned (.int .i64 1) ∧ Below w.heap.size w w' := by
  obtain ⟨⟨p0, c0, rfl, h01, h02, _, hd⟩, ⟨p1, c1, rfl, h11, h12, _, hf⟩⟩ := h
  obtain ⟨⟨q0, e0, rfl, _, _, _, kd⟩, ⟨q1, e1, rfl, _, _, _, kf⟩⟩ := k
  have hdm := Nat.le_trans h01 h02
  have hfm := Nat.le_trans h11 h12
  unfold maxLen at hdm hfm
  have hba : Below w.heap.size w (w.alloc (.cells #[.slice p0 D.length c0, .slice p1 defs.length c1] 49)) := (Below.refl _ w).alloc (Nat.le_refl _) _
  have hbb := hba.alloc hba.size (.cells #[.slice q0 D.length e0, .slice q1 defs.length e1] 54)
  have hA0 := heap_alloc_new w (.cells #[.slice p0 D.length c0, .slice p1 defs.length c1] 49)
  have hA := (Below.heap_alloc (w.alloc (.cells #[.slice p0 D.length c0, .slice p1 defs.length c1] 49)) (.cells #[.slice q0 D.length e0, .slice q1 defs.length e1] 54) w.heap.size (by simp)).trans hA0
  have hB := heap_alloc_new (w.alloc (.cells #[.slice p0 D.length c0, .slice p1 defs.length c1] 49)) (.cells #[.slice q0 D.length e0, .slice q1 defs.length e1] 54)
  rw [show (w.alloc (.cells #[.slice p0 D.length c0, .slice p1 defs.length c1] 49)).heap.size = w.heap.size + 1 by simp] at hB
  have HD := Lib.hid fun W (hW : Below w.heap.size w W) => hd.below EBools.keeps hW
  have HF := Lib.hid fun W (hW : Below w.heap.size w W) => hf.below EDef.keeps hW
  have KD := Lib.hid fun W (hW : Below w.heap.size w W) => kd.below EBools.keeps hW
  have KF := Lib.hid fun W (hW : Below w.heap.size w W) => kf.below EDef.keeps hW
  clear hd hf kd kf h01 h02 h11 h12 hA0 hba
  generalize hdn : D.length = dn at *
  generalize hfn : defs.length = fn at *
  have HDN := Lib.hid hdn
  have HFN := Lib.hid hfn
  clear hdn hfn
  go_enter Tryz.func22, Tryz.ntmps22
  go_upto_region 1 with fail
  generalize (w.alloc (.cells #[.slice p0 dn c0, .slice p1 fn c1] 49)).alloc (.cells #[.slice q0 dn e0, .slice q1 fn e1] 54) = w2 at *
  generalize hgb : w.heap.size = gb at *
  have HGB := Lib.hid hgb
  have HBB := Lib.hid hbb
  have HA := Lib.hid hA
  have HB := Lib.hid hB
  have hs2 : gb + 1 < w2.heap.size := (Array.getElem?_eq_some_iff.1 hB).1
  obtain ⟨⟨a0, a1⟩, _⟩ := pair_cells _ _ _ _ _ hA
  obtain ⟨⟨b0, b1⟩, _⟩ := pair_cells _ _ _ _ _ hB
  have hnn : ((dn : Int) != (dn : Int)) = false := by simp
  have hff : ((fn : Int) != (fn : Int)) = false := by simp
  clear hgb hbb hA hB
  go_wp2_with fail
  go_loopw [5] (fun r wr => ∃ k : Nat, k ≤ dn ∧ r = .int .i64 (k : Int) ∧ Below w2.heap.size w2 wr) (fun r _ => dn - (intOf r).toNat)
  case atStart => exact ⟨0, Nat.zero_le _, rfl, Below.refl _ _⟩
  case round =>
    obtain ⟨k, hk, rfl, hb⟩ := hrel
    clear a0 a1 b0 b1
    have hA := (hb.block gb (by omega)).trans HA.out
    have hB := (hb.block (gb + 1) hs2).trans HB.out
    have hsr : gb + 1 < wr.heap.size := (Array.getElem?_eq_some_iff.1 hB).1
    obtain ⟨⟨a0, a1⟩, _⟩ := pair_cells _ _ _ _ _ hA
    obtain ⟨⟨b0, b1⟩, _⟩ := pair_cells _ _ _ _ _ hB
    clear hA hB
    have hbw : Below gb w wr := HBB.out.trans (hb.mono (by omega))
    by_cases hlt : k < dn
    · obtain ⟨g1, o1, x, hp1, hx, v, cv, pv, cc, rfl, _, hm, _, hh⟩ := (HD.out wr hbw).at_ (i := k) (by rw [HDN.out]; exact hlt)
      obtain ⟨g2, o2, x2, hp2, hx2, v', cv', pv', cc', rfl, _, _, _, hh'⟩ := (KD.out wr hbw).at_ (i := k) (by rw [HDN.out]; exact hlt)
      obtain rfl : x2 = x := by rw [hx] at hx2; cases hx2; rfl
      have HBO := Lib.hid fun W (hW : Below wr.heap.size wr W) => bools_same pv pv' x2.length cc cc' x2 W (hh.below EBool.keeps hW) (hh'.below EBool.keeps hW) rfl (by omega)
      rw [Nat.mul_one] at cv cv'
      have k0 : (0 : Int) ≤ (k : Int) := by omega
      have k1 : (k : Int) < (dn : Int) := by omega
      subst hp1
      subst hp2
      clear hx hx2 hh hh'
      go_upto_region 6 with fail
      go_region_law
        ((first
          | (go_simp; go_at_call 59
             have hbd : Below wr.heap.size wr wr.drew := (Below.refl _ wr).drew
             refine (HBO.out _ hbd).mono ?_
             rintro e w3 ⟨rfl, hb3⟩)
          | fail))
      all_goals
        have hb4 := hb.trans ((hbd.trans hb3).mono hb.size)
        clear hb hb3
        go_wp2_with fail
        go_roundw
        case rel => exact ⟨k + 1, hlt, by go_num, hb4⟩
        case measure => simp [intOf]; omega
    · have k1 : ¬ (k : Int) < (dn : Int) := by omega
      have HB2 := Lib.hid hb
      generalize hw0 : wr = w4 at *
      clear hw0
      go_wp2_with fail
      go_loopw [6] (fun r wr => ∃ j : Nat, j ≤ fn ∧ r = .int .i64 (j : Int) ∧ Below w4.heap.size w4 wr) (fun r _ => fn - (intOf r).toNat)
      case atStart => exact ⟨0, Nat.zero_le _, rfl, Below.refl _ _⟩
      case round =>
        obtain ⟨j, hj, rfl, hbj⟩ := hrel
        have a0' := cell_later hbj a0
        have a1' := cell_later hbj a1
        have b0' := cell_later hbj b0
        have b1' := cell_later hbj b1
        clear a0 a1 b0 b1
        have hbw : Below gb w wr := HBB.out.trans ((hb.trans (hbj.mono hb.size)).mono (by omega))
        by_cases hlt2 : j < fn
        · obtain ⟨g1, o1, d, hp1, hx, f0, f1, f2⟩ := (HF.out wr hbw).at_ (i := j) (by rw [HFN.out]; exact hlt2)
          obtain ⟨g2, o2, d2, hp2, hx2, t0, t1, t2⟩ := (KF.out wr hbw).at_ (i := j) (by rw [HFN.out]; exact hlt2)
          obtain rfl : d2 = d := by rw [hx] at hx2; cases hx2; rfl
          have j0 : (0 : Int) ≤ (j : Int) := by omega
          have j1 : (j : Int) < (fn : Int) := by omega
          subst hp1
          subst hp2
          clear hx hx2
          have HBJ := Lib.hid hbj
          clear hbj
          go_upto_region 11 with fail
          go_quiet (fail)
          have hbq := below_drewN HBJ.out nq
          clear a0' a1' b0' b1' f0 f1 f2 t0 t1 t2
          go_wp2_with fail
          go_roundw
          case rel => exact ⟨j + 1, hlt2, by go_num, hbq⟩
          case measure => simp [intOf]; omega
        · have j1 : ¬ (j : Int) < (fn : Int) := by omega
          have HBW := Lib.hid hbw
          go_wp2_with fail
          go_ret
          exact ⟨rfl, by first | exact HBW.out | (rw [HGB.out]; exact HBW.out)⟩
end Go.Proofs.YthnkehdcolnegaaGreat

namespace Go.Proofs.YthnkehdcolnegaaGreat
open Go.RowKit

/-- Has a number of flags a flag: the project's way. -/
def hasO (fl k : Int) : Bool := bits .and .i64 fl k != 0
theorem wraps_i64 (n : Int) (h₀ : 0 ≤ n) (h₁ : n < 2 ^ 63) : IntKind.i64.wrap n = n := by
  rw [IntKind.wrap_i64]
  have : (2 : Int) ^ 63 = 9223372036854775808 := by decide
  omega
theorem hasO_eq {fl : Int} (j : Nat) (hj : j < 63) (h0 : 0 ≤ fl) (h1 : fl ≤ 9223372036854775807) : hasO fl (2 ^ j) = hasF fl (2 ^ j) := by
  obtain ⟨a, rfl⟩ := Int.eq_ofNat_of_zero_le h0
  have ha : a < 2 ^ 63 := by
    have : (2 : Nat) ^ 63 = 9223372036854775808 := by decide
    omega
  have hk : (2 : Nat) ^ j < 2 ^ 63 := Nat.pow_lt_pow_right (by omega) hj
  have hb := (bits_nat .i64 63 (by decide) wraps_i64 a (2 ^ j) ha hk).1
  have e2 : ((2 ^ j : Nat) : Int) = (2 : Int) ^ j := by push_cast; rfl
  rw [e2] at hb
  unfold hasO hasF
  rw [hb, decide_eq_true h0, Bool.true_and]
  have hd : ((a : Int) / 2 ^ j).tmod 2 = ((a / 2 ^ j % 2 : Nat) : Int) := by
    rw [← e2, ← Int.natCast_ediv, Int.tmod_eq_emod_of_nonneg (Int.natCast_nonneg (a / 2 ^ j))]
    rfl
  rw [hd]
  have htb := Nat.testBit_eq_decide_div_mod_eq (x := a) (i := j)
  cases hb2 : a.testBit j with
  | true =>
    rw [hb2] at htb
    have h1 : a / 2 ^ j % 2 = 1 := of_decide_eq_true htb.symm
    have h2 : (a &&& 2 ^ j).testBit j = true := by rw [Nat.testBit_and, hb2, Nat.testBit_two_pow]; simp
    have h3 : a &&& 2 ^ j ≠ 0 := fun e => by rw [e] at h2; simp at h2
    have h4 : ((a &&& 2 ^ j : Nat) : Int) ≠ 0 := by omega
    rw [h1]
    simpa using h4
  | false =>
    rw [hb2] at htb
    have h1 : ¬ a / 2 ^ j % 2 = 1 := of_decide_eq_false htb.symm
    have h2 : a / 2 ^ j % 2 = 0 := by omega
    have h3 : a &&& 2 ^ j = 0 := Nat.eq_of_testBit_eq fun i => by
      rw [Nat.testBit_and, Nat.testBit_two_pow, Nat.zero_testBit]
      by_cases h : j = i
      · subst h; rw [hb2]; rfl
      · simp [h]
    rw [h2, h3]
    rfl
end Go.Proofs.YthnkehdcolnegaaGreat

namespace Go.Proofs.YthnkehdcolnegaaGreat
open Go.RowKit

def inR (n a b : Int) : Bool := decide (a ≤ n) && decide (n ≤ b)
theorem ownWithin_any (n a b : Int) (w : World) : Calls Tryz.prog 153 #[.int .i64 n, .int .i64 a, .int .i64 b] w fun e w' => e = .returned (.bool (inR n a b)) ∧ w = w' := by
  by_cases h1 : a ≤ n
  · have d1 : decide (a ≤ n) = true := decide_eq_true h1
    have HR : Hid (inR n a b = decide (n ≤ b)) := Lib.hid (by unfold inR; rw [d1]; rfl)
    by_cases h2 : n ≤ b
    · have d2 : decide (n ≤ b) = true := decide_eq_true h2
      have HR2 : Hid (inR n a b = true) := Lib.hid (by rw [HR.out, d2])
      clear h1 h2
      go_enter Tryz.func153, Tryz.ntmps153
      go_wp2_with fail
      go_ret
      rw [HR2.out]
      exact ⟨rfl, rfl⟩
    · have d2 : decide (n ≤ b) = false := decide_eq_false h2
      have HR2 : Hid (inR n a b = false) := Lib.hid (by rw [HR.out, d2])
      clear h1 h2
      go_enter Tryz.func153, Tryz.ntmps153
      go_wp2_with fail
      go_ret
      rw [HR2.out]
      exact ⟨rfl, rfl⟩
  · have d1 : decide (a ≤ n) = false := decide_eq_false h1
    have HR : Hid (inR n a b = false) := Lib.hid (by unfold inR; rw [d1]; rfl)
    clear h1
    go_enter Tryz.func153, Tryz.ntmps153
    go_wp2_with fail
    go_ret
    rw [HR.out]
    exact ⟨rfl, rfl⟩
theorem ownIsPlace_any (n : Int) (w : World) : Calls Tryz.prog 189 #[.int .i64 n] w fun e w' => e = .returned (.bool (inR n 0 2147483647)) ∧ w = w' := by
  have HW := Lib.hid fun W => ownWithin_any n 0 2147483647 W
  go_enter Tryz.func189, Tryz.ntmps189
  go_wp2_with fail
  refine (HW.out _).mono ?_
  rintro e w' ⟨rfl, rfl⟩
  go_wp2_with fail
  go_ret
  exact ⟨rfl, rfl⟩
theorem ownHas_any (nm : ByteArray) (ty fl al en li sz : Int) (vd vr : Value) (k : Int) (w : World) :
    Calls Tryz.prog 154 #[secV nm ty fl al en li sz vd vr, .int .i64 k] w fun e w' => e = .returned (.bool (hasO fl k)) ∧ Below w.heap.size w w' := by
  go_enter Tryz.func154, Tryz.ntmps154
  go_wp2_with fail
  go_ret
  exact ⟨rfl, (Below.refl _ w).alloc (Nat.le_refl _) _⟩
end Go.Proofs.YthnkehdcolnegaaGreat

namespace Go.Proofs.YthnkehdcolnegaaGreat
open Go.RowKit

abbrev Nm := List UInt8

/-- May the bytes be a name? -/
def mayB (l : Nm) : Bool := decide (l.length ≤ 32) && l.all (fun x => x != 0)

/-! ## The table -/
/-- Where a name stands, as far as the table has it. -/
def look (e : List (Nm × Nat)) (n : Nm) : Option Nat := (e.find? fun x => x.1 == n).map (·.2)
/-- The table, and who stands in it. -/
structure Tab where
  tb : List UInt8
  env : List (Nm × Nat)
def tab0 : Tab := ⟨[0], [([], 0)]⟩
def tabStep (t : Tab) (n : Nm) : Tab :=
  match look t.env n with
  | some _ => t
  | none => ⟨t.tb ++ (n ++ [0]), t.env ++ [(n, t.tb.length)]⟩
def tabOf (ns : List Nm) : Tab := ns.foldl tabStep tab0
def placeOf (ns : List Nm) (n : Nm) : Nat := (look (tabOf ns).env n).getD 0
/-- The places of the names. -/
def placesOf (ns : List Nm) : List Nat := ns.map (placeOf ns)

theorem tabOf_snoc (ns : List Nm) (n : Nm) : tabOf (ns ++ [n]) = tabStep (tabOf ns) n := by simp [tabOf]
theorem look_append (e f : List (Nm × Nat)) (n : Nm) : look (e ++ f) n = (look e n).or (look f n) := by
  unfold look
  rw [List.find?_append]
  cases List.find? (fun x => x.1 == n) e <;> simp
theorem look_step_some {t : Tab} {n m : Nm} {p : Nat} (h : look t.env m = some p) : look (tabStep t n).env m = some p := by
  unfold tabStep
  split
  · exact h
  · simp only [look_append, h, Option.some_or]
theorem look_step_self (t : Tab) (n : Nm) : look (tabStep t n).env n = some ((look t.env n).getD t.tb.length) := by
  unfold tabStep
  split
  · rename_i p hp
    rw [hp]
    rfl
  · rename_i hp
    simp only [look_append, hp, Option.none_or]
    simp [look]
theorem look_step_other {t : Tab} {n m : Nm} (hm : m ≠ n) : look (tabStep t n).env m = look t.env m := by
  unfold tabStep
  split
  · rfl
  · rw [look_append]
    have : look [(n, t.tb.length)] m = none := by
      have : (n == m) = false := by simpa using Ne.symm hm
      simp [look, List.find?, this]
    rw [this, Option.or_none]

theorem snoc_ind {α : Type} {P : List α → Prop} (h0 : P []) (hs : ∀ l x, P l → P (l ++ [x])) (l : List α) : P l := by
  have h : ∀ r : List α, P r.reverse := fun r => by
    induction r with
    | nil => exact h0
    | cons x r ih => rw [List.reverse_cons]; exact hs _ _ ih
  simpa using h l.reverse

/-- Who has a place: the empty name, and who was handed in. -/
theorem look_iff (ns : List Nm) (m : Nm) : look (tabOf ns).env m = none ↔ m ≠ [] ∧ m ∉ ns := by
  induction ns using snoc_ind with
  | h0 =>
    cases m with
    | nil => simp [tabOf, tab0, look]
    | cons x r => simp [tabOf, tab0, look, List.find?]
  | hs ns n ih =>
    rw [tabOf_snoc]
    by_cases hm : m = n
    · subst hm
      rw [look_step_self]
      simp
    · rw [look_step_other hm, ih]
      simp [hm]
theorem look_mem {ns : List Nm} {m : Nm} (h : m = [] ∨ m ∈ ns) : ∃ p, look (tabOf ns).env m = some p := by
  cases hl : look (tabOf ns).env m with
  | some p => exact ⟨p, rfl⟩
  | none =>
    have := (look_iff ns m).1 hl
    rcases h with h | h
    · exact absurd h this.1
    · exact absurd h this.2
theorem placeOf_old {ns : List Nm} {m : Nm} (n : Nm) (h : m = [] ∨ m ∈ ns) : placeOf (ns ++ [n]) m = placeOf ns m := by
  obtain ⟨p, hp⟩ := look_mem h
  unfold placeOf
  rw [tabOf_snoc, look_step_some hp, hp]
theorem placesOf_snoc (ns : List Nm) (n : Nm) : placesOf (ns ++ [n]) = placesOf ns ++ [placeOf (ns ++ [n]) n] := by
  unfold placesOf
  rw [List.map_append]
  congr 1
  exact List.map_congr_left fun m hm => placeOf_old n (.inr hm)
/-- An old name. -/
theorem tab_old {ns : List Nm} {n : Nm} (h : n = [] ∨ n ∈ ns) : tabOf (ns ++ [n]) = tabOf ns ∧ placeOf (ns ++ [n]) n = placeOf ns n := by
  obtain ⟨p, hp⟩ := look_mem h
  refine ⟨?_, placeOf_old n h⟩
  rw [tabOf_snoc]
  simp only [tabStep, hp]
/-- A new name. -/
theorem tab_new {ns : List Nm} {n : Nm} (h0 : n ≠ []) (h : n ∉ ns) : (tabOf (ns ++ [n])).tb = (tabOf ns).tb ++ (n ++ [0]) ∧ placeOf (ns ++ [n]) n = (tabOf ns).tb.length := by
  have hp := (look_iff ns n).2 ⟨h0, h⟩
  constructor
  · rw [tabOf_snoc]
    simp only [tabStep, hp]
  · unfold placeOf
    rw [tabOf_snoc, look_step_self, hp]
    rfl
theorem placeOf_nil (ns : List Nm) : placeOf ns [] = 0 := by
  induction ns using snoc_ind with
  | h0 => rfl
  | hs ns n ih => rw [placeOf_old n (.inl rfl), ih]

/-- Each name stands at its place, a 0 behind it. -/
theorem stands (ns : List Nm) (m : Nm) (h : m = [] ∨ m ∈ ns) : ∃ r, (tabOf ns).tb.drop (placeOf ns m) = m ++ 0 :: r := by
  induction ns using snoc_ind with
  | h0 =>
    rcases h with rfl | h
    · exact ⟨[], rfl⟩
    · simp at h
  | hs ns n ih =>
    by_cases ho : m = [] ∨ m ∈ ns
    · obtain ⟨r, hr⟩ := ih ho
      rw [placeOf_old n ho]
      have hl : placeOf ns m < (tabOf ns).tb.length := by
        have := congrArg List.length hr
        simp at this
        omega
      by_cases hn : n = [] ∨ n ∈ ns
      · rw [(tab_old hn).1]
        exact ⟨r, hr⟩
      · obtain ⟨h1, h2⟩ := not_or.1 hn
        rw [(tab_new h1 h2).1, List.drop_append_of_le_length (by omega), hr]
        exact ⟨r ++ (n ++ [0]), by simp⟩
    · obtain ⟨h1, h2⟩ := not_or.1 ho
      have hmn : m = n := by
        rcases h with h | h
        · exact absurd h h1
        · rcases List.mem_append.1 h with h | h
          · exact absurd h h2
          · simpa using h
      subst hmn
      rw [(tab_new h1 h2).1, (tab_new h1 h2).2, List.drop_left]
      exact ⟨[], rfl⟩
theorem all_ne {n : Nm} (h : mayB n = true) : n.length ≤ 32 ∧ ∀ x ∈ n, x ≠ 0 := by
  simp only [mayB, Bool.and_eq_true, decide_eq_true_eq, List.all_eq_true, bne_iff_ne] at h
  exact h
/-- The table's length: a 0, and of each new name its bytes and a 0. -/
theorem tab_length (ns : List Nm) : (tabOf ns).tb.length ≤ 33 * ns.length + 1 ∨ ∃ n ∈ ns, mayB n = false := by
  induction ns using snoc_ind with
  | h0 => exact .inl (Nat.le_refl _)
  | hs ns n ih =>
    rcases ih with ih | ⟨m, hm, h⟩
    · cases hn : mayB n with
      | false => exact .inr ⟨n, by simp, hn⟩
      | true =>
        have h32 := (all_ne hn).1
        by_cases ho : n = [] ∨ n ∈ ns
        · rw [(tab_old ho).1]
          exact .inl (by simp; omega)
        · obtain ⟨h1, h2⟩ := not_or.1 ho
          rw [(tab_new h1 h2).1]
          exact .inl (by simp; omega)
    · exact .inr ⟨m, by simp [hm], h⟩

end Go.Proofs.YthnkehdcolnegaaGreat

namespace Go.Proofs.YthnkehdcolnegaaGreat
open Go.RowKit

theorem ret_bool {a b : Bool} (h : a = b) : Ending.returned (.bool a) = .returned (.bool b) := by rw [h]

theorem mayB_long {l : Nm} (h : 32 < l.length) : mayB l = false := by simp [mayB]; omega
theorem mayB_zero {l : Nm} {k : Nat} (h : l[k]? = some 0) : mayB l = false := by
  have := List.mem_of_getElem? h
  simp only [mayB, Bool.and_eq_false_iff]
  exact .inr (by rw [List.all_eq_false]; exact ⟨0, this, by simp⟩)
theorem mayB_yes {l : Nm} (h : l.length ≤ 32) (hb : ∀ i y, i < l.length → l[i]? = some y → y ≠ 0) : mayB l = true := by
  simp only [mayB, Bool.and_eq_true, decide_eq_true_eq, List.all_eq_true, bne_iff_ne]
  exact ⟨h, fun x hx => by
    obtain ⟨i, hi⟩ := List.getElem?_of_mem hx
    exact hb i x (List.getElem?_eq_some_iff.1 hi).1 hi⟩

theorem refName_any (s : ByteArray) (w : World) : Calls Tryz.prog 120 #[.string s] w fun e w' => e = .returned (.bool (mayB s.data.toList)) ∧ w = w' := by
  have hz : s.data.toList.length = s.size := by simp
  have HZ := Lib.hid hz
  clear hz
  go_enter Tryz.func120, Tryz.ntmps120
  go_wp2
  go_loop [3] (fun i => ∃ k : Nat, k ≤ s.size ∧ k ≤ 32 ∧ i = .int .i64 (k : Int) ∧ (∀ j y, j < k → s.data.toList[j]? = some y → y ≠ 0)) (fun i => s.size - (intOf i).toNat)
  case atStart => exact ⟨0, Nat.zero_le _, Nat.zero_le _, rfl, fun j y hj => absurd hj (by omega)⟩
  case round =>
    obtain ⟨k, hk, hk32, rfl, hb⟩ := hrel
    have HB := Lib.hid hb
    clear hb
    by_cases hlt : k < s.size
    · have hx : s.data.toList[k]? = some s[k] := by
        rw [List.getElem?_eq_getElem (by simpa using hlt)]
        rfl
      have HX := Lib.hid hx
      clear hx
      by_cases h32 : k = 32
      · have HV : Hid (mayB s.data.toList = false) := Lib.hid (mayB_long (by rw [HZ.out]; omega))
        have hI : ((k : Int) == 32) = true := by simp; omega
        clear h32
        go_wp2
        go_ret
        exact ⟨ret_bool HV.out.symm, rfl⟩
      · have hI : ((k : Int) == 32) = false := by simp; omega
        by_cases h0 : s[k] = 0
        · have HV : Hid (mayB s.data.toList = false) := Lib.hid (mayB_zero (k := k) (by rw [HX.out, h0]))
          have hJ : ((s[k].toNat : Int) == 0) = true := by rw [h0]; rfl
          clear h0 h32
          go_wp2
          go_ret
          exact ⟨ret_bool HV.out.symm, rfl⟩
        · have hJ : ((s[k].toNat : Int) == 0) = false := by
            have : s[k].toNat ≠ 0 := fun h => h0 (UInt8.toNat_inj.1 h)
            simp
            omega
          have HB2 : Hid (∀ j y, j < k + 1 → s.data.toList[j]? = some y → y ≠ 0) := Lib.hid fun j y hj hy => by
            by_cases e : j = k
            · subst e
              rw [HX.out] at hy
              cases hy
              exact h0
            · exact HB.out j y (by omega) hy
          clear h0
          go_wp2
          go_round
          case rel => exact ⟨k + 1, by omega, by omega, by go_num, HB2.out⟩
          case measure => simp [intOf]; omega
    · have HV : Hid (mayB s.data.toList = true) := Lib.hid (mayB_yes (by rw [HZ.out]; omega) fun i y hi => HB.out i y (by rw [HZ.out] at hi; omega))
      go_wp2
      go_ret
      exact ⟨ret_bool HV.out.symm, rfl⟩

end Go.Proofs.YthnkehdcolnegaaGreat
