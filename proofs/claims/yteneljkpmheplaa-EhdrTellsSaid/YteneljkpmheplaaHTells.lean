/-
  The walk of EhdrTells: ehdr and its reference tell the same.
-/
import Derived.Test.YteneljkpmheplaaHUp
namespace Go.Proofs.Yteneljkpmheplaa
open Go.RowKit

theorem both_heads (l : List UInt8) : ∃ (a m n : Int) (ok : Bool), begunOut l = four a m n ok ∧ hgot l = .returned (.tuple #[hd3 a m n, .bool ok]) := by
  unfold begunOut hgot
  cases begunB l with
  | none => exact ⟨0, 0, 0, false, rfl, rfl⟩
  | some y => obtain ⟨a, m, n⟩ := y; exact ⟨a, m, n, true, rfl, rfl⟩

/-- What Put tells. -/
def hputB (a m n : Int) : List UInt8 := if mayH a m n then hdrB a.toNat m.toNat n.toNat else []
theorem hPut_str (a m n : Int) (w : World) : Calls Try.prog 8 #[hd3 a m n] w (Str (hputB a m n).length (hputB a m n) w) := by
  by_cases h : mayH a m n
  · obtain ⟨x, rfl⟩ := Int.eq_ofNat_of_zero_le (show 0 ≤ a from h.1)
    obtain ⟨y, rfl⟩ := Int.eq_ofNat_of_zero_le (show 0 ≤ m by have := h.2.2.1; omega)
    obtain ⟨z, rfl⟩ := Int.eq_ofNat_of_zero_le (show 0 ≤ n by have := h.2.2.2.2.1; omega)
    have e : hputB x y z = hdrB x y z := by simp only [hputB, if_pos h]; rfl
    rw [e]
    exact (hPut_yes x y z w h).mono fun _ _ h => h.toH.toStr
  · have e : hputB a m n = [] := by simp only [hputB, if_neg h]
    rw [e]
    exact (hPut_no a m n w h).mono fun _ _ h => h.toStr
theorem begin_str (a m n : Int) (w : World) : Calls Try.prog 9 #[.int .i64 a, .int .i64 m, .int .i64 n] w (Str (hputB a m n).length (hputB a m n) w) := by
  by_cases h : mayH a m n
  · obtain ⟨x, rfl⟩ := Int.eq_ofNat_of_zero_le (show 0 ≤ a from h.1)
    obtain ⟨y, rfl⟩ := Int.eq_ofNat_of_zero_le (show 0 ≤ m by have := h.2.2.1; omega)
    obtain ⟨z, rfl⟩ := Int.eq_ofNat_of_zero_le (show 0 ≤ n by have := h.2.2.2.2.1; omega)
    have e : hputB x y z = hdrB x y z := by simp only [hputB, if_pos h]; rfl
    rw [e]
    exact (begin_yes x y z w h).mono fun _ _ h => h.toH.toStr
  · have e : hputB a m n = [] := by simp only [hputB, if_neg h]
    rw [e]
    refine (begin_no a m n w h).mono fun e w' ⟨he, hw⟩ => ?_
    subst hw
    exact GivesH.toStr ⟨none, 0, he, rfl, Nat.le_refl _, Nat.zero_le _, Has.none_ _ _, Below.refl _ _⟩

set_option maxRecDepth 100000 in
set_option maxHeartbeats 2000000 in
theorem htells_walk (p : Option Addr) (len cap : Nat) (l : List UInt8) (a m n : Int) (w : World) (h : Has w p l) (hlen : l.length = len) (hcap : len ≤ cap) (hm : cap ≤ maxLen) :
    Calls Try.prog 3 #[.slice p len cap, .int .i64 a, .int .i64 m, .int .i64 n] w fun e w' => e = .returned (.bool true) ∧ Below w.heap.size w w' := by
  by_cases hbig : 10000 < len
  · have hI : (10000 : Int) < (len : Int) := by omega
    clear h hlen
    go_enter Try.func3, Try.ntmps3
    go_wp2_with fail
    refine (hup_any _).mono ?_
    rintro e w1 ⟨rfl, hb1⟩
    go_wp2_with fail
    go_ret
    exact ⟨rfl, hb1⟩
  have hI : ¬ (10000 : Int) < (len : Int) := by omega
  obtain ⟨x, y, z, ok, e1, e2⟩ := both_heads l
  have HG := Lib.hid fun W (hb : Below w.heap.size w W) => hGet_any p len cap l W (h.below hb) hlen hcap hm
  have HR := Lib.hid fun W (hb : Below w.heap.size w W) => begun_any p len cap l W (h.below hb) hlen hcap hm
  rw [e1] at HR
  rw [e2] at HG
  have HP := Lib.hid fun W => hPut_str a m n W
  have HRP := Lib.hid fun W => begin_str a m n W
  generalize hputB a m n = put at HP HRP
  have hok : (ok == ok) = true := by simp
  clear h hlen e1 e2 hbig
  go_enter Try.func3, Try.ntmps3
  go_wp2_with fail
  refine (hup_any _).mono ?_
  rintro e w1 ⟨rfl, hb1⟩
  go_wp2_with fail
  refine (HG.out _ hb1).mono ?_
  rintro e w2 ⟨rfl, hbb2⟩
  have hb2 : Below w.heap.size w w2 := hb1.trans (hbb2.mono hb1.size)
  clear hbb2
  go_wp2_with fail
  refine (HR.out _ (hb2.alloc hb2.size _)).mono ?_
  rintro e w3 ⟨rfl, hbb3⟩
  have hb3 : Below w.heap.size w w3 := (hb2.alloc hb2.size _).trans (hbb3.mono (by have := hb2.size; simp; omega))
  have c0 : w3.cell? ⟨w2.heap.size, 0, none⟩ = some (.int .i64 x) := by rw [hbb3.cell (by simp)]; simp
  have c1 : w3.cell? ⟨w2.heap.size, 1, none⟩ = some (.int .i64 y) := by rw [hbb3.cell (by simp)]; simp
  have c2 : w3.cell? ⟨w2.heap.size, 2, none⟩ = some (.int .i64 z) := by rw [hbb3.cell (by simp)]; simp
  obtain ⟨g, hg⟩ : ∃ g, g = w2.heap.size := ⟨_, rfl⟩
  rw [← hg] at c0 c1 c2 ⊢
  clear hbb3 hg hb2 hb1
  go_upto_region 6 with fail
  go_cut [16] (fun s16 wx => s16 = .bool true ∧ Below w.heap.size w wx ∧ wx.cell? ⟨g, 0, none⟩ = some (.int .i64 x) ∧ wx.cell? ⟨g, 1, none⟩ = some (.int .i64 y) ∧ wx.cell? ⟨g, 2, none⟩ = some (.int .i64 z))
  case first =>
    go_region_held (fun _ => True) (trivial) (first | (go_at_call 8; refine (HP.out _).mono ?_; rintro e w4 ⟨pc, cc, Nc, rfl, hcc, hNc, hbc⟩; have hb4 : Below w.heap.size w w4 := hb3.drew.trans (hbc.mono (by exact hb3.size)); have k0 := cell_later hbc c0; have k1 := cell_later hbc c1; have k2 := cell_later hbc c2; have hrc := Below.refl Nc w4; have HNc := Lib.hid hNc; clear hNc hbc) | (go_at_call 9; refine (HRP.out _).mono ?_; rintro e w5 ⟨pd, cd, Nd, rfl, hcd, hNd, hbd⟩; have hb5 : Below w.heap.size w w5 := hb4.trans (hbd.mono hb4.size); have j0 := cell_later hbd k0; have j1 := cell_later hbd k1; have j2 := cell_later hbd k2; have hcd2 : Below Nc w4 w5 := (by rw [HNc.out]; exact hbd); have hrd := Below.refl Nd w5; clear hNd hbd) | fail)
    all_goals
      go_wp2_with fail
      go_meet
      exact ⟨rfl, hb5, j0, j1, j2⟩
  case rest =>
    obtain ⟨rfl, hb5, j0, j1, j2⟩ := hcut
    go_wp2_with fail
    go_ret
    exact ⟨rfl, hb5⟩

end Go.Proofs.Yteneljkpmheplaa
