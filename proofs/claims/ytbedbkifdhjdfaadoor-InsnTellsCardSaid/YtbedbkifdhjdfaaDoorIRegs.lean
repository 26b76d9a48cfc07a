/-
  Contracts of the project's insn: registers, number.
-/
import Derived.Test.YtbedbkifdhjdfaaDoorISmall
namespace Go.Proofs.YtbedbkifdhjdfaaDoor
open Go.RowKit

set_option maxHeartbeats 2000000 in
theorem iregs_in (f : ByteArray) (b : Int) (wd : Int) (sr sm sq : Bool) (p : Option Addr) (len cap : Nat) (l : List UInt8) (w : World) (c : UInt8) (n : Int) (h : Has w p l) (hlen : l.length = len) (hl0 : l[0]? = some c) (hc : (c.toNat : Int) - b = n) (hn0 : 0 ≤ n) (hn : n < 64) :
    Calls Tryd.prog 19 #[.agg #[.string f, .int .i64 b, .bool sr, .bool sm, .bool sq, .int .i64 wd], .slice p len cap] w fun e w' =>
      e = .returned (.tuple #[.int .i64 (n / 8), .int .i64 (n % 8), .bool ((sr || n / 8 == 0) && (sm || n % 8 == 0) && !(sq && n % 8 == 4))]) ∧ Below w.heap.size w w' := by
  have hlp : 0 < l.length := (List.getElem?_eq_some_iff.1 hl0).1
  obtain ⟨bk, off, rfl, hcell⟩ := h.plain hlp
  have hc0 := hcell 0 c hl0
  rw [Nat.add_zero] at hc0
  have hcl := c.toNat_lt
  obtain ⟨ci, hci⟩ : ∃ ci : Int, ci = (c.toNat : Int) := ⟨_, rfl⟩
  rw [← hci] at hc hc0
  have hb1 : Below w.heap.size w (w.alloc (.cells #[.string f, .int .i64 b, .bool sr, .bool sm, .bool sq, .int .i64 wd] 37)) := (Below.refl _ w).alloc (Nat.le_refl _) _
  have hc1 := cell_later hb1 hc0
  have hI0 : (0 : Int) < (len : Int) := by omega
  have hI1 : ¬ (len : Int) = 0 := by omega
  have hI3 : 0 < len := by omega
  have hI2 : ¬ len = 0 := by omega
  have hw1 : IntKind.i64.wrap ci = ci := IntWalk.i64_in _ (by omega)
  have hw2 : IntKind.i64.wrap n = n := IntWalk.i64_in _ (by omega)
  have hn3 : ¬ n < 0 := by omega
  have hn1 : ¬ (64 : Int) ≤ n := by omega
  clear h hcell hl0 hlp hlen hc0 hb1 hci hcl
  go_enter Tryd.func19, Tryd.ntmps19
  go_wp2_with fail
  go_quiet (fail)
  go_wp2_with fail
  all_goals
    refine bodyPost_ret (v := .tuple #[.int .i64 (n / 8), .int .i64 (n % 8), .bool ((_ || n / 8 == 0) && (_ || n % 8 == 0) && !(_ && n % 8 == 4))]) ?_ rfl ⟨rfl, below_drewN ((Below.refl _ w).alloc (Nat.le_refl _) _) _⟩
    first
      | (simp [results, Tryd.results19, go_sem]; done)
      | (simp_all [results, Tryd.results19, go_sem]; done)

theorem iregs_none (f : ByteArray) (b : Int) (wd : Int) (sr sm sq : Bool) (p : Option Addr) (cap : Nat) (w : World) :
    Calls Tryd.prog 19 #[.agg #[.string f, .int .i64 b, .bool sr, .bool sm, .bool sq, .int .i64 wd], .slice p 0 cap] w fun e w' =>
      e = .returned (.tuple #[.int .i64 0, .int .i64 0, .bool false]) ∧ Below w.heap.size w w' := by
  go_enter Tryd.func19, Tryd.ntmps19
  go_wp2_with fail
  exact bodyPost_ret (v := .tuple #[.int .i64 0, .int .i64 0, .bool false]) (by simp [results, Tryd.results19, go_sem]) rfl ⟨rfl, (Below.refl _ w).alloc (Nat.le_refl _) _⟩

set_option maxHeartbeats 2000000 in
theorem iregs_out (f : ByteArray) (b : Int) (wd : Int) (sr sm sq : Bool) (p : Option Addr) (len cap : Nat) (l : List UInt8) (w : World) (c : UInt8) (n : Int) (h : Has w p l) (hlen : l.length = len) (hl0 : l[0]? = some c) (hb0 : 0 ≤ b) (hb : b ≤ 255) (hc : (c.toNat : Int) - b = n) (hn : n < 0 ∨ 64 ≤ n) :
    Calls Tryd.prog 19 #[.agg #[.string f, .int .i64 b, .bool sr, .bool sm, .bool sq, .int .i64 wd], .slice p len cap] w fun e w' =>
      e = .returned (.tuple #[.int .i64 0, .int .i64 0, .bool false]) ∧ Below w.heap.size w w' := by
  have hlp : 0 < l.length := (List.getElem?_eq_some_iff.1 hl0).1
  obtain ⟨bk, off, rfl, hcell⟩ := h.plain hlp
  have hc0 := hcell 0 c hl0
  rw [Nat.add_zero] at hc0
  have hcl := c.toNat_lt
  obtain ⟨ci, hci⟩ : ∃ ci : Int, ci = (c.toNat : Int) := ⟨_, rfl⟩
  rw [← hci] at hc hc0
  have hb1 : Below w.heap.size w (w.alloc (.cells #[.string f, .int .i64 b, .bool sr, .bool sm, .bool sq, .int .i64 wd] 37)) := (Below.refl _ w).alloc (Nat.le_refl _) _
  have hc1 := cell_later hb1 hc0
  have hI0 : (0 : Int) < (len : Int) := by omega
  have hI1 : ¬ (len : Int) = 0 := by omega
  have hI3 : 0 < len := by omega
  have hI2 : ¬ len = 0 := by omega
  have hw1 : IntKind.i64.wrap ci = ci := IntWalk.i64_in _ (by omega)
  have hw2 : IntKind.i64.wrap n = n := IntWalk.i64_in _ (by omega)
  clear h hcell hl0 hlp hlen hc0 hb1 hci hcl hb0 hb
  go_enter Tryd.func19, Tryd.ntmps19
  go_wp2_with fail
  go_quiet (fail)
  rcases hn with hn | hn
  · go_wp2_with fail
    exact bodyPost_ret (v := .tuple #[.int .i64 0, .int .i64 0, .bool false]) (by simp [results, Tryd.results19, go_sem]) rfl ⟨rfl, below_drewN ((Below.refl _ w).alloc (Nat.le_refl _) _) _⟩
  · have hn2 : ¬ n < 0 := by omega
    go_wp2_with fail
    exact bodyPost_ret (v := .tuple #[.int .i64 0, .int .i64 0, .bool false]) (by simp [results, Tryd.results19, go_sem]) rfl ⟨rfl, below_drewN ((Below.refl _ w).alloc (Nat.le_refl _) _) _⟩

/-- number: of a field that is there. -/
theorem inumber_any (p : Option Addr) (len cap : Nat) (l : List UInt8) (a wd : Nat) (w : World) (h : Has w p l) (hlen : l.length = len) (hcap : len ≤ cap) (hm : cap ≤ maxLen) (hw : wd = 4 ∨ wd = 8) (hin : a + wd ≤ len) :
    Calls Tryd.prog 20 #[.slice p len cap, .int .i64 (a : Int), .int .i64 (wd : Int)] w fun e w' => e = .returned (.int .i64 (sgn wd (num (win l a wd)))) ∧ w' = w := by
  have hf : fitB len (a : Int) (wd : Int) = true := (fitB_iff _ _ _).2 ⟨by omega, by omega, by omega⟩
  have hg : getB l (a : Int) (wd : Int) = num (win l a wd) := by
    unfold getB
    rw [hlen, if_pos hf]; rfl
  have HG := Lib.hid (get_any p len cap l a wd w h hlen hcap hm)
  rw [hg, hf] at HG
  have hl := num_lt (win l a wd)
  rw [win_length l a wd (by omega)] at hl
  clear h hf hg hlen hcap hm
  generalize num (win l a wd) = v at *
  rcases hw with rfl | rfl
  · have hv : v < 4294967296 := hl
    have hs := sgn4 v hv
    clear hl
    go_enter Tryd.func20, Tryd.ntmps20
    go_wp2_with fail
    refine HG.out.mono ?_
    rintro e w' ⟨rfl, rfl⟩
    go_wp2_with fail
    go_ret
    rw [← hs]
    exact ⟨rfl, rfl⟩
  · have hv : v < 18446744073709551616 := hl
    have hs := sgn8 v hv
    clear hl
    go_enter Tryd.func20, Tryd.ntmps20
    go_wp2_with fail
    refine HG.out.mono ?_
    rintro e w' ⟨rfl, rfl⟩
    go_wp2_with fail
    go_ret
    rw [← hs]
    exact ⟨rfl, rfl⟩
end Go.Proofs.YtbedbkifdhjdfaaDoor
