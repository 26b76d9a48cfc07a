/-
  The example at the head of the laws of layer ehdr.
-/
import Derived.Test.YteneljkpmheplaaHOwn
import Derived.Deep.DeepCutAuto
import Derived.BigRegion
namespace Go.Proofs.Yteneljkpmheplaa
open Go.RowKit

theorem conv_lit (w1 : World) (l : List UInt8) (cs : Array Value) (n : Nat) (h : cs = (l.map u8v).toArray) (hn : l.length = n) :
    (convert 22 9 (.slice (some ⟨w1.heap.size, 0, none⟩) n n)).run Try.prog (w1.alloc (.cells cs 5)).drew = .ok (.string (str l)) (w1.alloc (.cells cs 5)).drew := by
  have h0 : Has (w1.alloc (.cells cs 5)).drew (some ⟨w1.heap.size, 0, none⟩) l := Has.of_plain fun i x hx => by
    have := cell_of_row (w1.alloc (.cells cs 5)).drew w1.heap.size (0 + i) cs 5 (0, 0) (heap_alloc_new w1 _)
    rw [this, h]
    simp [hx, u8v]
  exact conv_now h0 hn

theorem hup_any (w : World) : Calls Try.prog 5 #[] w fun e w' => e = .returned (.bool true) ∧ Below w.heap.size w w' := by
  have HP : Hid (∀ W, Calls Try.prog 8 #[hd3 64 2 1] W (GivesH 64 (hdrB 64 2 1) W)) := Lib.hid fun W => (hPut_yes 64 2 1 W (by decide)).mono fun _ _ x => x.toH
  go_enter Try.func5, Try.ntmps5
  go_wp2_with fail
  refine (HP.out _).mono ?_
  rintro e w1 ⟨p1, c1, rfl, hl1, hn1, hc1, hH1, hb1⟩
  obtain ⟨b, off, rfl, hcell⟩ := hH1.plain (by rw [hl1]; omega)
  have d0 : w1.cell? ⟨b, off, none⟩ = some (.int .u8 127) := hcell 0 127 rfl
  have d16 : w1.cell? ⟨b, off + 16, none⟩ = some (.int .u8 1) := hcell 16 1 rfl
  have d18 : w1.cell? ⟨b, off + 18, none⟩ = some (.int .u8 62) := hcell 18 62 rfl
  obtain ⟨N, hN⟩ : ∃ N, N = w1.heap.size := ⟨_, rfl⟩
  have hcv : ∀ W, Below N w1 W → (convert 22 9 (.slice (some ⟨b, off + 58, none⟩) 6 (c1 - 58))).run Try.prog W = .ok (.string (str [64, 0, 2, 0, 1, 0])) W := by
    have h0 := has_win hH1 58 6 (by rw [hl1]; omega)
    have e : win (hdrB 64 2 1) 58 6 = [64, 0, 2, 0, 1, 0] := by decide
    rw [e] at h0
    exact conv_at h0 rfl hN
  have hr := (Below.refl N w1).drew
  have ha := fun o => ((Below.refl N w1).alloc (Nat.le_of_eq hN) o).drew
  have hlit := conv_lit w1 [64, 0, 2, 0, 1, 0] #[.int .u8 64, .int .u8 0, .int .u8 2, .int .u8 0, .int .u8 1, .int .u8 0] 6 rfl rfl
  have HC := Lib.hid hcell
  have hbl : b < w1.heap.size := World.block_lt_of_cell? w1 _ d0
  have hbl2 : ¬ b = w1.heap.size := by omega
  have hc58 : ¬ c1 = 58 := by omega
  have h58 : 58 ≤ c1 := by omega
  have HN := Lib.hid hN
  clear hl1 hcell hH1 hN
  go_wp2_with fail
  go_region
  all_goals
    go_wp2_with fail
    go_ret
    exact ⟨rfl, by first | exact (hb1.alloc hb1.size _).drew | exact hb1.alloc hb1.size _⟩

end Go.Proofs.Yteneljkpmheplaa
