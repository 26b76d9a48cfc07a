/-
  The example at the head of the laws of layer sym.
-/
import Derived.Test.YtonlbhojepofcaaYSpec
import Derived.Deep.DeepCutAuto
import Derived.BigRegion
namespace Go.Proofs.Ytonlbhojepofcaa
open Go.RowKit

theorem win_mid (a b c : List UInt8) : win (a ++ (b ++ c)) a.length b.length = b := by
  unfold win
  rw [List.drop_take, List.drop_left, show a.length + b.length - a.length = b.length by omega, List.take_left]
/-- What was put is got, whatever stands around it. -/
theorem sym_mid (a c : List UInt8) (t : Six) (h : t.may) : symAt (a ++ (entB t ++ c)) a.length = some t :=
  (symAt_iff _ _ _).2 ⟨h, by simp [entB_length], (win_mid a (entB t) c).symm⟩
theorem conv_lit (w1 : World) (l : List UInt8) (cs : Array Value) (n : Nat) (h : cs = (l.map u8v).toArray) (hn : l.length = n) :
    (convert 22 9 (.slice (some ⟨w1.heap.size, 0, none⟩) n n)).run Try.prog (w1.alloc (.cells cs 5)).drew = .ok (.string (str l)) (w1.alloc (.cells cs 5)).drew := by
  have h0 : Has (w1.alloc (.cells cs 5)).drew (some ⟨w1.heap.size, 0, none⟩) l := Has.of_plain fun i x hx => by
    have := cell_of_row (w1.alloc (.cells cs 5)).drew w1.heap.size (0 + i) cs 5 (0, 0) (heap_alloc_new w1 _)
    rw [this, h]
    simp [hx, u8v]
  exact conv_now h0 hn

def upY : Six := ⟨1, 1, 2, 3, 0, 0⟩
theorem yup_any (_hget : YGetOK) (hput : YPutOK) (w : World) : Calls Try.prog 20 #[] w fun e w' => e = .returned (.bool true) ∧ Below w.heap.size w w' := by
  have HP := Lib.hid fun W => ((hput upY W).1 (by decide)).mono fun _ _ x => x.toH
  clear hput
  go_enter Try.func20, Try.ntmps20
  go_wp2_with fail
  refine (HP.out _).mono ?_
  rintro e w1 ⟨p1, c1, rfl, _, hn1, hc1, hH1, hb1⟩
  have hl1 : (entB upY).length = 24 := entB_length upY
  rw [hl1] at hn1
  obtain ⟨b, off, rfl, hcell⟩ := hH1.plain (by rw [hl1]; omega)
  obtain ⟨N, hN⟩ : ∃ N, N = w1.heap.size := ⟨_, rfl⟩
  have hcv : ∀ W, Below N w1 W → (convert 22 9 (.slice (some ⟨b, off, none⟩) 8 c1)).run Try.prog W = .ok (.string (str [1, 0, 0, 0, 18, 0, 3, 0])) W := by
    have h0 := has_win hH1 0 8 (by rw [hl1]; omega)
    have e : win (entB upY) 0 8 = [1, 0, 0, 0, 18, 0, 3, 0] := by decide
    rw [e, Nat.add_zero] at h0
    exact conv_at h0 rfl hN
  have hr := (Below.refl N w1).drew
  have ha := fun o => ((Below.refl N w1).alloc (Nat.le_of_eq hN) o).drew
  have hlit := conv_lit w1 [1, 0, 0, 0, 18, 0, 3, 0] #[.int .u8 1, .int .u8 0, .int .u8 0, .int .u8 0, .int .u8 18, .int .u8 0, .int .u8 3, .int .u8 0] 8 rfl rfl
  have HN := Lib.hid hN
  have h8 : 8 ≤ c1 := by omega
  clear hl1 hcell hH1 hN
  rw [entB_length]
  go_wp2_with fail
  go_region
  all_goals
    go_wp2_with fail
    go_ret
    exact ⟨rfl, by first | exact (hb1.alloc hb1.size _).drew | exact hb1.alloc hb1.size _⟩

end Go.Proofs.Ytonlbhojepofcaa
