/-
  Contract: uleb.List: all numbers of some bytes.
-/
import Derived.Test.YtdmidiiedgbjjaaRefList
import Derived.Test.YtdmidiiedgbjjaaUGet
namespace Go.Proofs.Ytdmidiiedgbjjaa
open Go.RowKit

theorem ugot_none {l : List UInt8} (a : Nat) (h : digs5 l = none) : ugot l a = got 0 0 false := by simp [ugot, h]
theorem ugot_some {l : List UInt8} {v u : Nat} (a : Nat) (h : digs5 l = some (v, u)) : ugot l a = got v ((a : Int) + u) true := by simp [ugot, h]

set_option maxHeartbeats 1000000 in
theorem ulist_any (p : Option Addr) (len cap : Nat) (l : List UInt8) (w : World) (h : Has w p l) (hlen : l.length = len) (hcap : len ≤ cap) (hbig : len ≤ 1000000000) :
    Calls Try.prog 8 #[.slice p len cap] w (GivesL (listA l) w) := by
  have HD := Lib.hid fun (a : Nat) (W : World) (ha : a < len) (hb : Below w.heap.size w W) => uget_in p len cap l a W (h.below hb) hlen ha hcap hbig
  have HL := Lib.hid hlen
  obtain ⟨i0, hi, hz0, hz1, hz2⟩ := info_parts Try.infoInt
  have HI := Lib.hid hi
  have H0 := Lib.hid hz0
  have H1 := Lib.hid hz1
  have H2 := Lib.hid hz2
  clear h hlen hi hz0 hz1 hz2
  go_enter Try.func8, Try.ntmps8
  go_wp2
  go_loopw [4, 5] (fun out at_ wr => ∃ (a : Nat) (vs : List Nat), a ≤ len ∧ vs.length ≤ a ∧ at_ = .int .i64 (a : Int) ∧ wr.ownsRow w.heap.size 3 1 out vs.length (natV vs) ∧ Below w.heap.size w wr ∧ listA l = (listA (l.drop a)).map (vs ++ ·)) (fun _ at_ _ => len - (intOf at_).toNat)
  case atStart => exact ⟨0, [], Nat.zero_le _, Nat.le_refl _, rfl, World.ownsRow_nil _ _ _ _, Below.refl _ _, by rw [List.drop_zero]; exact (opt_nil (listA l)).symm⟩
  case round =>
    obtain ⟨a, vs, hal, hva, rfl, hown, hb, hrest⟩ := hrel
    have HR := Lib.hid hrest
    clear hrest
    by_cases hlt : a < len
    · have hD := HD.out a wr hlt hb
      have hne : l.drop a ≠ [] := by
        intro h0
        have := congrArg List.length h0
        simp at this
        have := HL.out
        omega
      cases hd : digs5 (l.drop a) with
      | none =>
        rw [ugot_none a hd] at hD
        have HDD := Lib.hid hD
        have HN : Hid (listA l = none) := Lib.hid (by rw [HR.out, listA_none hd hne]; rfl)
        clear hD hd hne
        go_wp2_with (go_at_call 6; refine HDD.out.mono ?_; rintro e w' ⟨rfl, rfl⟩)
        go_ret2
        refine ⟨.slice none 0 0, ?_, ?_, hb⟩
        · rw [HN.out]
          rfl
        · rw [HN.out]
          exact World.ownsRow_nil _ _ _ _
      | some y =>
        obtain ⟨v, u⟩ := y
        have hu := digs5_used _ _ _ hd
        rw [ugot_some a hd] at hD
        have HDD := Lib.hid hD
        have HN : Hid (listA l = (listA (l.drop (a + u))).map ((vs ++ [v]) ++ ·)) := Lib.hid (by
          rw [HR.out, listA_some hd, List.drop_drop]
          cases listA (l.drop (a + u)) <;> simp)
        have hu1 : 1 ≤ u := hu.1
        have hul : a + u ≤ len := by
          have h3 := hu.2.2.1
          rw [List.length_drop] at h3
          have := HL.out
          omega
        clear hD hd hne hu
        go_wp2_with (first | (go_at_call 6; refine HDD.out.mono ?_; rintro e w' ⟨rfl, rfl⟩) | (at_builtin; refine wpList_append_own _ rfl _ _ 28 rfl w.heap.size 3 i0 (.int .i64 0) 1 8 Try.underlying28 HI.out H0.out H1.out H2.out rfl (by decide) _ _ _ rfl (hown.alloc _) ⟨wr.heap.size, 0, none⟩ 1 1 [Value.int .i64 (v : Int)] rfl rfl ?c1 ?c2 ?c3 ?c4 ?c5 ?_))
        case c1 =>
          intro j z hj
          match j, hj with
          | 0, hj => simp at hj; subst hj; simp [Addr.add]
        case c2 => intro z hz; simp at hz; subst hz; rfl
        case c3 => unfold maxLen; omega
        case c4 => omega
        case c5 => have := hb.size; simp; omega
        · intro v' w1 hown' hgrow _
          have hb1 : Below w.heap.size w w1 := (hb.alloc hb.size _).grown hgrow (by have := hb.size; simp; omega) (fun g hg => (hown.lt g hg).1)
          clear hgrow hown hb
          go_wp2
          go_roundw
          case rel =>
            refine ⟨a + u, vs ++ [v], hul, by simp; omega, by go_num, ?_, hb1, HN.out⟩
            rw [← natV_snoc, List.length_append]
            exact hown'
          case measure => simp [intOf]; omega
    · have hal' : l.drop a = [] := List.drop_eq_nil_of_le (by have := HL.out; omega)
      have HN : Hid (listA l = some vs) := Lib.hid (by rw [HR.out, hal', listA_nil]; simp)
      clear hal'
      go_wp2
      go_ret2
      rw [HN.out]
      exact ⟨_, rfl, hown, hb⟩

end Go.Proofs.Ytdmidiiedgbjjaa
