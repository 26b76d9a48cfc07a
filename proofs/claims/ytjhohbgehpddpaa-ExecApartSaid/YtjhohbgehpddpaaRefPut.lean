
/-
  Contracts: the reference's Put, and bytes.Clone.
-/
import Derived.Test.YtjhohbgehpddpaaPut
import Derived.WalkSpells
namespace Go.Proofs.Ytjhohbgehpddpaa
open Go.RowKit

theorem clone_nil (w : World) :
    Calls Try.prog 24 #[.slice none 0 0] w fun e w' => e = .returned (.slice none 0 0) ∧ w = w' := by
  have q22 : ∀ (w : World) (a : Option Addr) (n c n' c' : Nat), (binOp .eql 22 (.slice a n c) (.slice none n' c')).run Try.prog w = .ok (.bool a.isNone) w := fun w a n c n' c' => Lib.run_eql_slice_nil w _ _ a n c n' c' Try.underlying22
  go_enter Try.func24, Try.ntmps24
  go_wp2
  go_ret
  exact ⟨rfl, rfl⟩

theorem clone_some (a : Addr) (len cap : Nat) (l : List UInt8) (w : World) (h : Has w (some a) l) (hlen : l.length = len) (hbig : len ≤ 140737488355328) :
    Calls Try.prog 24 #[.slice (some a) len cap] w (Gives l w) := by
  have q22 : ∀ (w : World) (a : Option Addr) (n c n' c' : Nat), (binOp .eql 22 (.slice a n c) (.slice none n' c')).run Try.prog w = .ok (.bool a.isNone) w := fun w a n c n' c' => Lib.run_eql_slice_nil w _ _ a n c n' c' Try.underlying22
  obtain ⟨i0, hi, hz0, hz1, hz2⟩ := info_parts Try.infoU8
  have HI := Lib.hid hi
  have H0 := Lib.hid hz0
  have H1 := Lib.hid hz1
  have H2 := Lib.hid hz2
  have HL := Lib.hid (show (l.map u8v).length = len * 1 by simpa using hlen)
  have HN := Lib.hid hlen
  have hown0 : (w.alloc (.cells #[] 5)).ownsRow w.heap.size 5 1 (.slice (some ⟨w.heap.size, 0, none⟩) 0 0) 0 [] := World.ownsRow_lit w #[] 0 (Nat.le_refl _) (Nat.zero_le _) rfl
  have HO := Lib.hid hown0
  have HC := Lib.hid ((h.below ((Below.refl _ w).alloc (Nat.le_refl _) (.cells #[] 5))).cells)
  clear hi hz0 hz1 hz2 hlen hown0
  go_enter Try.func24, Try.ntmps24
  go_wp2_with (at_builtin; refine wpList_append_own _ rfl _ _ 22 rfl w.heap.size 5 i0 (.int .u8 0) 1 1 Try.underlying22 HI.out H0.out H1.out H2.out rfl (by decide) _ _ _ rfl HO.out a len cap (l.map u8v) rfl HL.out HC.out (map_oneCell _) ?c3 ?c4 ?c5 ?_)
  case c3 => unfold maxLen; omega
  case c4 => omega
  case c5 => simp
  intro v' w1 hown' hgrow _
  have hb1 : Below w.heap.size w w1 := ((Below.refl _ w).alloc (Nat.le_refl _) _).grown hgrow (by simp) (fun g hg => (HO.out.lt g hg).1)
  clear hgrow
  go_wp2
  go_ret
  refine ⟨_, rfl, ?_, hb1⟩
  rw [HN.out]
  simpa using hown'

end Go.Proofs.Ytjhohbgehpddpaa
