/-
  Images that are read: contracts of number and math/bits.OnesCount.
-/
import Derived.Test.YtjhohbgehpddpaaLay
import Derived.Test.YtjhohbgehpddpaaGet
import Derived.Test.YtjhohbgehpddpaaData
import Derived.Deep.QuietTactic
namespace Go.Proofs.Ytjhohbgehpddpaa
open Go.RowKit

/-- How many bits are one, as the library reckons it. -/
def on1 (x : Int) : Int := IntKind.u64.wrap (bits .and .u64 (x / 2) 6148914691236517205 + bits .and .u64 x 6148914691236517205)
def on2 (x : Int) : Int := IntKind.u64.wrap (bits .and .u64 (x / 4) 3689348814741910323 + bits .and .u64 x 3689348814741910323)
def on3 (x : Int) : Int := bits .and .u64 (IntKind.u64.wrap (x / 16 + x)) 1085102592571150095
def on4 (x : Int) : Int := IntKind.u64.wrap (x + x / 256)
def on5 (x : Int) : Int := IntKind.u64.wrap (x + x / 65536)
def on6 (x : Int) : Int := IntKind.u64.wrap (x + x / 4294967296)
def onesI (x : Int) : Int := bits .and .i64 (wrap64 (on6 (on5 (on4 (on3 (on2 (on1 x))))))) 127
theorem onesI_0 : onesI 0 = 0 := by kernel_rfl
theorem onesI_page : onesI 4096 = 1 := by kernel_rfl
set_option maxRecDepth 100000 in
theorem ones64_any (x : Int) (w : World) : Calls Try.prog 48 #[.int .u64 x] w fun e w' => e = .returned (.int .i64 (onesI x)) ∧ w = w' := by
  obtain ⟨y1, e1⟩ : ∃ y, IntKind.u64.wrap (bits .and .u64 (x / 2) 6148914691236517205 + bits .and .u64 x 6148914691236517205) = y := ⟨_, rfl⟩
  obtain ⟨y2, e2⟩ : ∃ y, IntKind.u64.wrap (bits .and .u64 (y1 / 4) 3689348814741910323 + bits .and .u64 y1 3689348814741910323) = y := ⟨_, rfl⟩
  obtain ⟨y3, e3⟩ : ∃ y, bits .and .u64 (IntKind.u64.wrap (y2 / 16 + y2)) 1085102592571150095 = y := ⟨_, rfl⟩
  obtain ⟨y4, e4⟩ : ∃ y, IntKind.u64.wrap (y3 + y3 / 256) = y := ⟨_, rfl⟩
  obtain ⟨y5, e5⟩ : ∃ y, IntKind.u64.wrap (y4 + y4 / 65536) = y := ⟨_, rfl⟩
  obtain ⟨y6, e6⟩ : ∃ y, IntKind.u64.wrap (y5 + y5 / 4294967296) = y := ⟨_, rfl⟩
  obtain ⟨y7, e7⟩ : ∃ y, bits .and .i64 (wrap64 y6) 127 = y := ⟨_, rfl⟩
  have HE : Hid (onesI x = y7) := Lib.hid (by unfold onesI on6 on5 on4 on3 on2 on1; rw [e1, e2, e3, e4, e5, e6, e7])
  go_enter Try.func48, Try.ntmps48
  go_wp2_with fail
  go_ret
  rw [HE.out]
  exact ⟨rfl, rfl⟩
set_option maxRecDepth 100000 in
theorem ones_any (x : Int) (w : World) : Calls Try.prog 41 #[.int .u64 x] w fun e w' => e = .returned (.int .i64 (onesI x)) ∧ w = w' := by
  have H := Lib.hid (ones64_any x)
  generalize onesI x = r at *
  go_enter Try.func41, Try.ntmps41
  go_wp2_with fail
  refine (H.out _).mono ?_
  rintro e w' ⟨rfl, rfl⟩
  go_wp2_with fail
  go_ret
  exact ⟨rfl, rfl⟩
/-- The number that the eight bytes at a place tell, and whether it is one that may be. -/
def nAt (l : List UInt8) (j : Nat) : Nat := num (win l j 8)
def nOK (l : List UInt8) (j : Nat) : Bool := decide (nAt l j ≤ 2147483648)
def nV (l : List UInt8) (j : Nat) : Nat := bif nOK l j then nAt l j else 0
theorem nV_le (l : List UInt8) (j : Nat) : nV l j ≤ 2147483648 := by
  unfold nV
  cases h : nOK l j with
  | false => simp
  | true => simpa [nOK] using h
set_option maxRecDepth 100000 in
theorem number_any (p : Option Addr) (len cap : Nat) (l : List UInt8) (j : Nat) (w : World) (h : Has w p l) (hlen : l.length = len) (hcap : len ≤ cap) (hm : cap ≤ maxLen) (hj : j + 8 ≤ len) :
    Calls Try.prog 40 #[.slice p len cap, .int .i64 (j : Int)] w fun e w' => e = .returned (.tuple #[.int .i64 (nV l j : Int), .bool (nOK l j)]) ∧ w = w' := by
  have hf : fitB len (j : Int) 8 = true := (fitB_iff _ _ _).2 ⟨by omega, by omega, by omega⟩
  have hg : getB l (j : Int) 8 = nAt l j := by unfold getB; rw [hlen, if_pos hf]; rfl
  have HG := get_any p len cap l j 8 w h hlen hcap hm
  rw [hf, hg] at HG
  have HG' := Lib.hid HG
  have hv := nV_le l j
  clear HG h hg hf
  cases ho : nOK l j with
  | false =>
    have hV : (2147483648 : Int) < (nAt l j : Int) := by simp [nOK] at ho; omega
    have hE : Hid (nV l j = 0) := Lib.hid (by unfold nV; rw [ho]; rfl)
    go_enter Try.func40, Try.ntmps40
    go_wp2_with fail
    refine HG'.out.mono ?_
    rintro e w' ⟨rfl, rfl⟩
    go_wp2_with fail
    go_ret2
    rw [hE.out]
    exact ⟨rfl, rfl⟩
  | true =>
    have hV : ¬ (2147483648 : Int) < (nAt l j : Int) := by simp [nOK] at ho; omega
    have hE : Hid (nV l j = nAt l j) := Lib.hid (by unfold nV; rw [ho]; rfl)
    generalize nAt l j = V at *
    have k1 : IntKind.i64.wrap (V : Int) = (V : Int) := IntWalk.i64_in _ (by omega)
    go_enter Try.func40, Try.ntmps40
    go_wp2_with fail
    refine HG'.out.mono ?_
    rintro e w' ⟨rfl, rfl⟩
    go_wp2_with fail
    go_ret2
    rw [hE.out]
    exact ⟨rfl, rfl⟩
end Go.Proofs.Ytjhohbgehpddpaa
