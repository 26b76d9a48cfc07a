/-
  The example at the head of the laws of layer rela.
-/
import Derived.Test.YthpldobnfnehlaaZSpec
import Derived.Deep.DeepCutAuto
import Derived.BigRegion
namespace Go.Proofs.Ythpldobnfnehlaa
open Go.RowKit

theorem win_mid (a b c : List UInt8) : win (a ++ (b ++ c)) a.length b.length = b := by
  unfold win
  rw [List.drop_take, List.drop_left, show a.length + b.length - a.length = b.length by omega, List.take_left]
/-- What was put is got, whatever stands around it. -/
theorem rel_mid (a c : List UInt8) (t : Fou) (h : t.may) (hd : t.bd) : relAt (a ++ (relB t ++ c)) a.length = some t :=
  (relAt_iff _ _ _).2 ⟨h, hd, by simp [relB_length], (win_mid a (relB t) c).symm⟩

def upZ : Fou := ⟨1, 2, 3, -4⟩
theorem zup_any (hwid : ZWidthOK) (hput : ZPutOK) (w : World) : Calls Try.prog 28 #[] w fun e w' => e = .returned (.bool true) ∧ Below w.heap.size w w' := by
  have HP : Hid (∀ W, Calls Try.prog 33 #[.agg #[.int .i64 1, .int .i64 2, .int .i64 3, .int .i64 (-4)]] W (GivesH 24 (relB upZ) W)) := Lib.hid fun W => ((hput upZ W (by decide)).1 (by decide)).mono fun _ _ x => x.toH
  have HW : Hid (∀ W, Calls Try.prog 31 #[.int .i64 1] W fun e w' => e = .returned (.int .i64 8) ∧ W = w') := Lib.hid fun W => hwid 1 W
  clear hput hwid
  go_enter Try.func28, Try.ntmps28
  go_wp2_with fail
  refine (HP.out _).mono ?_
  rintro e w1 ⟨p1, c1, rfl, hl1, hn1, hc1, hH1, hb1⟩
  obtain ⟨b, off, rfl, hcell⟩ := hH1.plain (by rw [hl1]; omega)
  have d0 : w1.cell? ⟨b, off, none⟩ = some (.int .u8 1) := hcell 0 1 rfl
  have d8 : w1.cell? ⟨b, off + 8, none⟩ = some (.int .u8 2) := hcell 8 2 rfl
  have d12 : w1.cell? ⟨b, off + 12, none⟩ = some (.int .u8 3) := hcell 12 3 rfl
  have d16 : w1.cell? ⟨b, off + 16, none⟩ = some (.int .u8 252) := hcell 16 252 rfl
  have d23 : w1.cell? ⟨b, off + 23, none⟩ = some (.int .u8 255) := hcell 23 255 rfl
  clear hl1 hcell hH1
  go_wp2_with (go_at_call 31; refine (HW.out _).mono ?_; rintro e w' ⟨rfl, rfl⟩)
  go_ret
  exact ⟨rfl, hb1⟩

end Go.Proofs.Ythpldobnfnehlaa
