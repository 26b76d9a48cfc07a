/-
  Parts of a proof.
-/
import Derived.Test.YteopgmieindojaaGreatShapeA
import Derived.Laws.BitsLemmas
import Derived.Test.YteopgmieindojaaGreatMem
import Derived.BigQuiet
import Derived.OwnWalk
import Derived.Test.YteopgmieindojaaGreatObjMem
namespace Go.Proofs.YteopgmieindojaaGreat
open Go.RowKit
def hasO (fl k : Int) : Bool := bits .and .i64 fl k != 0
theorem wraps_i64 (n : Int) (h₀ : 0 ≤ n) (h₁ : n < 2 ^ 63) : IntKind.i64.wrap n = n := by
 rw [IntKind.wrap_i64]
 have : (2 : Int) ^ 63 = 9223372036854775808 := by decide
 omega
theorem hasO_eq {fl : Int} (j : Nat) (hj : j < 63) (h0 : 0 ≤ fl) (h1 : fl ≤ 9223372036854775807) : hasO fl (2 ^ j) = hasF fl (2 ^ j) := by
 obtain ⟨a, rfl⟩ := Int.eq_ofNat_of_zero_le h0
 have ha : a < 2 ^ 63 := by
  have : (2 : Nat) ^ 63 = 9223372036854775808 := by decide
  omega
 have hk : (2 : Nat) ^ j < 2 ^ 63 := Nat.pow_lt_pow_right (by omega) hj
 have hb := (bits_nat .i64 63 (by decide) wraps_i64 a (2 ^ j) ha hk).1
 have e2 : ((2 ^ j : Nat) : Int) = (2 : Int) ^ j := by push_cast; rfl
 rw [e2] at hb
 unfold hasO hasF
 rw [hb, decide_eq_true h0, Bool.true_and]
 have hd : ((a : Int) / 2 ^ j).tmod 2 = ((a / 2 ^ j % 2 : Nat) : Int) := by
  rw [← e2, ← Int.natCast_ediv, Int.tmod_eq_emod_of_nonneg (Int.natCast_nonneg (a / 2 ^ j))]
  rfl
 rw [hd]
 have htb := Nat.testBit_eq_decide_div_mod_eq (x := a) (i := j)
 cases hb2 : a.testBit j with
 | true =>
  rw [hb2] at htb
  have h1 : a / 2 ^ j % 2 = 1 := of_decide_eq_true htb.symm
  have h2 : (a &&& 2 ^ j).testBit j = true := by rw [Nat.testBit_and, hb2, Nat.testBit_two_pow]; simp
  have h3 : a &&& 2 ^ j ≠ 0 := fun e => by rw [e] at h2; simp at h2
  have h4 : ((a &&& 2 ^ j : Nat) : Int) ≠ 0 := by omega
  rw [h1]
  simpa using h4
 | false =>
  rw [hb2] at htb
  have h1 : ¬ a / 2 ^ j % 2 = 1 := of_decide_eq_false htb.symm
  have h2 : a / 2 ^ j % 2 = 0 := by omega
  have h3 : a &&& 2 ^ j = 0 := Nat.eq_of_testBit_eq fun i => by
   rw [Nat.testBit_and, Nat.testBit_two_pow, Nat.zero_testBit]
   by_cases h : j = i
   ·subst h; rw [hb2]; rfl
   ·simp [h]
  rw [h2, h3]
  rfl
end Go.Proofs.YteopgmieindojaaGreat

namespace Go.Proofs.YteopgmieindojaaGreat
open Go.RowKit
def regionAt (n : Nat) : Code → Option Code
 | .region i o d => if i = n then some (.region i o d) else none
 | .seq a b => match regionAt n a with
  | some c => some c
  | none => regionAt n b
 | .block _ c => regionAt n c
 | .scope c => regionAt n c
 | .loop c => regionAt n c
 | .cond _ a b => match regionAt n a with
  | some c => some c
  | none => regionAt n b
 | _ => none
noncomputable def wReg (n : Nat) : Code := ((Tryz.f7.body.bind (regionAt n)).getD .skip)
theorem run_max (m : Nat) (A : Array TypeId) (T : TypeId) (W : World) : (Builtin.max_ A T #[.int .i64 (m : Int), .int .i64 0]).run Tryz.prog W = .ok (.int .i64 (m : Int)) W := by
 have h : ¬ (0 : Int) > (m : Int) := by omega
 simp [Builtin.max_, Builtin.max2, go_sem, h]
theorem run_min (q n : Nat) (h : q ≤ n) (A : Array TypeId) (T : TypeId) (W : World) : (Builtin.min_ A T #[.int .i64 (q : Int), .int .i64 (n : Int)]).run Tryz.prog W = .ok (.int .i64 (q : Int)) W := by
 have h : ¬ (n : Int) < (q : Int) := by omega
 simp [Builtin.min_, Builtin.min2, go_sem]
 omega
end Go.Proofs.YteopgmieindojaaGreat

namespace Go.Proofs.YteopgmieindojaaGreat
open Go.RowKit
def headReg : Code → Option Nat
 | .region i _ _ => some i
 | .seq a _ => headReg a
 | _ => none
def tailAt (n : Nat) : Code → Option Code
 | .seq a b => if headReg a = some n then some (.seq a b) else match tailAt n a with
  | some c => some c
  | none => tailAt n b
 | .region i o d => if i = n then some (.region i o d) else none
 | .block _ c => tailAt n c
 | .scope c => tailAt n c
 | .loop c => tailAt n c
 | .cond _ a b => match tailAt n a with
  | some c => some c
  | none => tailAt n b
 | _ => none
noncomputable def wTail (n : Nat) : Code := ((Tryz.f7.body.bind (tailAt n)).getD .skip)
theorem tail10 : wTail 10 = .seq (wReg 10) (wTail 11) := by kernel_rfl
theorem tail11 : wTail 11 = .seq (.seq (wReg 11) (.cond (.tmp 64) (.seq (wReg 12) .ret) .skip)) (wTail 13) := by kernel_rfl
theorem tail13 : wTail 13 = .seq (.seq (wReg 13) (.cond (.tmp 74) (.seq (wReg 14) .ret) .skip)) (wTail 15) := by kernel_rfl
theorem tail15 : wTail 15 = .seq (wReg 15) (wTail 16) := by kernel_rfl
theorem tail16 : wTail 16 = .seq (wReg 16) (wTail 17) := by kernel_rfl
theorem tail17 : wTail 17 = .seq (wReg 17) (wTail 18) := by kernel_rfl
theorem tail18 : wTail 18 = .seq (wReg 18) (wTail 19) := by kernel_rfl
theorem tail19 : wTail 19 = .seq (.seq (wReg 19) (.cond (.tmp 213) (.seq (wReg 20) .ret) .skip)) (wTail 21) := by kernel_rfl
theorem tail21 : wTail 21 = .seq (.seq (wReg 21) (.cond (.tmp 256) (.seq (wReg 22) .ret) .skip)) (wTail 23) := by kernel_rfl
theorem tail23 : wTail 23 = .seq (.seq (wReg 23) (.cond (.tmp 287) (.seq (wReg 24) .ret) .skip)) (wTail 25) := by kernel_rfl
theorem tail25 : wTail 25 = .seq (.seq (wReg 25) (.cond (.tmp 298) (.seq (wReg 26) .ret) .skip)) (wTail 27) := by kernel_rfl
theorem tail27 : wTail 27 = .seq (wReg 27) (.block 2 (.loop (wTail 28))) := by kernel_rfl
theorem tail28 : wTail 28 = .seq (.seq (wReg 28) (.cond (.tmp 303) .skip (.exit 2))) (.seq (.block 3 (wTail 30)) (wReg 29)) := by kernel_rfl
theorem tail30 : wTail 30 = .seq (wReg 30) (wTail 31) := by kernel_rfl
theorem tail31 : wTail 31 = .seq (.seq (wReg 31) (.cond (.tmp 364) (.seq (wReg 32) .ret) .skip)) (wTail 33) := by kernel_rfl
theorem tail33 : wTail 33 = .seq (wReg 33) (.cond (.tmp 384) (.seq (wReg 34) .ret) .skip) := by kernel_rfl
theorem tail36 : wTail 36 = .seq (.seq (wReg 36) (.block 4 (.loop (wTail 37)))) (wTail 43) := by kernel_rfl
theorem tail37 : wTail 37 = .seq (.seq (wReg 37) (.cond (.tmp 397) .skip (.exit 4))) (.seq (.block 5 (wTail 39)) (wReg 38)) := by kernel_rfl
theorem tail39 : wTail 39 = .seq (.seq (wReg 39) (.cond (.tmp 424) (.seq (wReg 40) .ret) .skip)) (wTail 41) := by kernel_rfl
theorem tail41 : wTail 41 = .seq (wReg 41) (.cond (.tmp 458) (.seq (wReg 42) .ret) .skip) := by kernel_rfl
theorem tail43 : wTail 43 = .seq (wReg 43) .ret := by kernel_rfl
theorem tail7 : wTail 7 = .seq (.seq (wReg 7) (.block 0 (.loop (wTail 8)))) (.seq (wReg 35) (wTail 36)) := by kernel_rfl
theorem tail8 : wTail 8 = .seq (.seq (wReg 8) (.cond (.tmp 42) .skip (.exit 0))) (.seq (.block 1 (wTail 10)) (wReg 9)) := by kernel_rfl
def restAt (R : List Value) (k : Nat) : Value := R.getD k undef
theorem eval_rest (R : List Value) (v0 v1 v2 v3 v4 v5 v6 v7 v8 v9 v10 v11 v12 v13 v14 v15 v16 v17 : Value) (k : Nat) : (⟨(List.toArray (v0 :: v1 :: v2 :: v3 :: v4 :: v5 :: v6 :: v7 :: v8 :: v9 :: v10 :: v11 :: v12 :: v13 :: v14 :: v15 :: v16 :: v17 :: R)), []⟩ : Act).eval (.tmp (18 + k)) = restAt R k := by
 show Array.getD _ _ _ = R.getD k undef
 rw [Array.getD_eq_getD_getElem?, List.getElem?_toArray, List.getD_eq_getElem?_getD, show 18 + k = k + 18 by omega]
 rfl
theorem rest_open (R : List Value) : R = (List.range R.length).map fun i => R.getD i undef := by
 apply List.ext_getElem?
 intro i
 rw [List.getElem?_map]
 by_cases h : i < R.length
 ·rw [List.getElem?_range h]
  show R[i]? = some (R.getD i undef)
  rw [List.getD_eq_getElem?_getD, List.getElem?_eq_getElem h]
  rfl
 ·rw [List.getElem?_eq_none (by omega), List.getElem?_eq_none (by simpa using h)]
  rfl
set_option maxRecDepth 100000 in
theorem open442 (R : List Value) (h : R.length = 442) : R = [restAt R 0, restAt R 1, restAt R 2, restAt R 3, restAt R 4, restAt R 5, restAt R 6, restAt R 7, restAt R 8, restAt R 9, restAt R 10, restAt R 11, restAt R 12, restAt R 13, restAt R 14, restAt R 15, restAt R 16, restAt R 17, restAt R 18, restAt R 19, restAt R 20, restAt R 21, restAt R 22, restAt R 23, restAt R 24, restAt R 25, restAt R 26, restAt R 27, restAt R 28, restAt R 29, restAt R 30, restAt R 31, restAt R 32, restAt R 33, restAt R 34, restAt R 35, restAt R 36, restAt R 37, restAt R 38, restAt R 39, restAt R 40, restAt R 41, restAt R 42, restAt R 43, restAt R 44, restAt R 45, restAt R 46, restAt R 47, restAt R 48, restAt R 49, restAt R 50, restAt R 51, restAt R 52, restAt R 53, restAt R 54, restAt R 55, restAt R 56, restAt R 57, restAt R 58, restAt R 59, restAt R 60, restAt R 61, restAt R 62, restAt R 63, restAt R 64, restAt R 65, restAt R 66, restAt R 67, restAt R 68, restAt R 69, restAt R 70, restAt R 71, restAt R 72, restAt R 73, restAt R 74, restAt R 75, restAt R 76, restAt R 77, restAt R 78, restAt R 79, restAt R 80, restAt R 81, restAt R 82, restAt R 83, restAt R 84, restAt R 85, restAt R 86, restAt R 87, restAt R 88, restAt R 89, restAt R 90, restAt R 91, restAt R 92, restAt R 93, restAt R 94, restAt R 95, restAt R 96, restAt R 97, restAt R 98, restAt R 99, restAt R 100, restAt R 101, restAt R 102, restAt R 103, restAt R 104, restAt R 105, restAt R 106, restAt R 107, restAt R 108, restAt R 109, restAt R 110, restAt R 111, restAt R 112, restAt R 113, restAt R 114, restAt R 115, restAt R 116, restAt R 117, restAt R 118, restAt R 119, restAt R 120, restAt R 121, restAt R 122, restAt R 123, restAt R 124, restAt R 125, restAt R 126, restAt R 127, restAt R 128, restAt R 129, restAt R 130, restAt R 131, restAt R 132, restAt R 133, restAt R 134, restAt R 135, restAt R 136, restAt R 137, restAt R 138, restAt R 139, restAt R 140, restAt R 141, restAt R 142, restAt R 143, restAt R 144, restAt R 145, restAt R 146, restAt R 147, restAt R 148, restAt R 149, restAt R 150, restAt R 151, restAt R 152, restAt R 153, restAt R 154, restAt R 155, restAt R 156, restAt R 157, restAt R 158, restAt R 159, restAt R 160, restAt R 161, restAt R 162, restAt R 163, restAt R 164, restAt R 165, restAt R 166, restAt R 167, restAt R 168, restAt R 169, restAt R 170, restAt R 171, restAt R 172, restAt R 173, restAt R 174, restAt R 175, restAt R 176, restAt R 177, restAt R 178, restAt R 179, restAt R 180, restAt R 181, restAt R 182, restAt R 183, restAt R 184, restAt R 185, restAt R 186, restAt R 187, restAt R 188, restAt R 189, restAt R 190, restAt R 191, restAt R 192, restAt R 193, restAt R 194, restAt R 195, restAt R 196, restAt R 197, restAt R 198, restAt R 199, restAt R 200, restAt R 201, restAt R 202, restAt R 203, restAt R 204, restAt R 205, restAt R 206, restAt R 207, restAt R 208, restAt R 209, restAt R 210, restAt R 211, restAt R 212, restAt R 213, restAt R 214, restAt R 215, restAt R 216, restAt R 217, restAt R 218, restAt R 219, restAt R 220, restAt R 221, restAt R 222, restAt R 223, restAt R 224, restAt R 225, restAt R 226, restAt R 227, restAt R 228, restAt R 229, restAt R 230, restAt R 231, restAt R 232, restAt R 233, restAt R 234, restAt R 235, restAt R 236, restAt R 237, restAt R 238, restAt R 239, restAt R 240, restAt R 241, restAt R 242, restAt R 243, restAt R 244, restAt R 245, restAt R 246, restAt R 247, restAt R 248, restAt R 249, restAt R 250, restAt R 251, restAt R 252, restAt R 253, restAt R 254, restAt R 255, restAt R 256, restAt R 257, restAt R 258, restAt R 259, restAt R 260, restAt R 261, restAt R 262, restAt R 263, restAt R 264, restAt R 265, restAt R 266, restAt R 267, restAt R 268, restAt R 269, restAt R 270, restAt R 271, restAt R 272, restAt R 273, restAt R 274, restAt R 275, restAt R 276, restAt R 277, restAt R 278, restAt R 279, restAt R 280, restAt R 281, restAt R 282, restAt R 283, restAt R 284, restAt R 285, restAt R 286, restAt R 287, restAt R 288, restAt R 289, restAt R 290, restAt R 291, restAt R 292, restAt R 293, restAt R 294, restAt R 295, restAt R 296, restAt R 297, restAt R 298, restAt R 299, restAt R 300, restAt R 301, restAt R 302, restAt R 303, restAt R 304, restAt R 305, restAt R 306, restAt R 307, restAt R 308, restAt R 309, restAt R 310, restAt R 311, restAt R 312, restAt R 313, restAt R 314, restAt R 315, restAt R 316, restAt R 317, restAt R 318, restAt R 319, restAt R 320, restAt R 321, restAt R 322, restAt R 323, restAt R 324, restAt R 325, restAt R 326, restAt R 327, restAt R 328, restAt R 329, restAt R 330, restAt R 331, restAt R 332, restAt R 333, restAt R 334, restAt R 335, restAt R 336, restAt R 337, restAt R 338, restAt R 339, restAt R 340, restAt R 341, restAt R 342, restAt R 343, restAt R 344, restAt R 345, restAt R 346, restAt R 347, restAt R 348, restAt R 349, restAt R 350, restAt R 351, restAt R 352, restAt R 353, restAt R 354, restAt R 355, restAt R 356, restAt R 357, restAt R 358, restAt R 359, restAt R 360, restAt R 361, restAt R 362, restAt R 363, restAt R 364, restAt R 365, restAt R 366, restAt R 367, restAt R 368, restAt R 369, restAt R 370, restAt R 371, restAt R 372, restAt R 373, restAt R 374, restAt R 375, restAt R 376, restAt R 377, restAt R 378, restAt R 379, restAt R 380, restAt R 381, restAt R 382, restAt R 383, restAt R 384, restAt R 385, restAt R 386, restAt R 387, restAt R 388, restAt R 389, restAt R 390, restAt R 391, restAt R 392, restAt R 393, restAt R 394, restAt R 395, restAt R 396, restAt R 397, restAt R 398, restAt R 399, restAt R 400, restAt R 401, restAt R 402, restAt R 403, restAt R 404, restAt R 405, restAt R 406, restAt R 407, restAt R 408, restAt R 409, restAt R 410, restAt R 411, restAt R 412, restAt R 413, restAt R 414, restAt R 415, restAt R 416, restAt R 417, restAt R 418, restAt R 419, restAt R 420, restAt R 421, restAt R 422, restAt R 423, restAt R 424, restAt R 425, restAt R 426, restAt R 427, restAt R 428, restAt R 429, restAt R 430, restAt R 431, restAt R 432, restAt R 433, restAt R 434, restAt R 435, restAt R 436, restAt R 437, restAt R 438, restAt R 439, restAt R 440, restAt R 441] := by
 have e := rest_open R
 rw [h] at e
 exact e.trans (by kernel_rfl)
theorem again {P : Program} {Q : Exit → Act → World → Prop} {w : World} {c : Code} {v0 v1 v2 v3 v4 v5 v6 v7 v8 v9 v10 v11 v12 v13 v14 v15 v16 v17 : Value} {R : List Value} (h : R.length = 442) (k : ∀ R : List Value, R.length = 442 → c.wp P Q ⟨(List.toArray (v0 :: v1 :: v2 :: v3 :: v4 :: v5 :: v6 :: v7 :: v8 :: v9 :: v10 :: v11 :: v12 :: v13 :: v14 :: v15 :: v16 :: v17 :: R)), []⟩ w) : c.wp P Q ⟨(List.toArray (v0 :: v1 :: v2 :: v3 :: v4 :: v5 :: v6 :: v7 :: v8 :: v9 :: v10 :: v11 :: v12 :: v13 :: v14 :: v15 :: v16 :: v17 :: R)), []⟩ w := k R h
end Go.Proofs.YteopgmieindojaaGreat

namespace Go.Proofs.YteopgmieindojaaGreat
open Go.RowKit
set_option maxRecDepth 1000000 in
set_option maxHeartbeats 4000000 in
theorem rg7  (w : World) (Q : Exit → Act → World → Prop) (v0 v1 v2 v3 v4 v5 v6 v7 v8 v9 v10 v11 v12 v13 v14 v15 v16 v17 : Value) (R : List Value) (hR : R.length = 442)
  (hQ : Q .normal ⟨(List.toArray (v0 :: v1 :: v2 :: v3 :: v4 :: v5 :: v6 :: v7 :: .int .i64 0 :: v9 :: v10 :: v11 :: v12 :: v13 :: v14 :: v15 :: v16 :: v17 :: R)), []⟩ w) :
  Code.wp Tryz.prog (wReg 7) Q ⟨(List.toArray (v0 :: v1 :: v2 :: v3 :: v4 :: v5 :: v6 :: v7 :: v8 :: v9 :: v10 :: v11 :: v12 :: v13 :: v14 :: v15 :: v16 :: v17 :: R)), []⟩ w := by
 rw [open442 R hR] at hQ ⊢
 have HQ := Lib.hid hQ
 clear hQ
 conv => arg 2; whnf
 go_wp2_with fail
 exact HQ.out
set_option maxRecDepth 1000000 in
set_option maxHeartbeats 4000000 in
theorem rg8 (g3 i nn c0 : Nat) (pn : Option Addr) (w : World) (Q : Exit → Act → World → Prop) (v0 v1 v2 v3 v4 v5 v7 v9 v10 v11 v12 v13 v14 v15 v16 v17 : Value) (R : List Value) (hR : R.length = 442)
  (y0 : w.cell? ⟨g3, 0, none⟩ = some (.slice pn nn c0))
  (hQ : ∀ R' : List Value, R'.length = 442 → restAt R' 24 = .bool (decide (i < nn)) → Q .normal ⟨(List.toArray (v0 :: v1 :: v2 :: v3 :: v4 :: v5 :: .pointer (some ⟨g3, 0, none⟩) :: v7 :: .int .i64 (i : Int) :: v9 :: v10 :: v11 :: v12 :: v13 :: v14 :: v15 :: v16 :: v17 :: R')), []⟩ w) :
  Code.wp Tryz.prog (wReg 8) Q ⟨(List.toArray (v0 :: v1 :: v2 :: v3 :: v4 :: v5 :: .pointer (some ⟨g3, 0, none⟩) :: v7 :: .int .i64 (i : Int) :: v9 :: v10 :: v11 :: v12 :: v13 :: v14 :: v15 :: v16 :: v17 :: R)), []⟩ w := by
 rw [open442 R hR]
 have HQ := Lib.hid hQ
 clear hQ
 conv => arg 2; whnf
 go_wp2_with fail
 exact HQ.out _ rfl rfl
set_option maxRecDepth 1000000 in
set_option maxHeartbeats 4000000 in
theorem rg9 (i : Nat) (w : World) (Q : Exit → Act → World → Prop) (v0 v1 v2 v3 v4 v5 v6 v7 v9 v10 v11 v12 v13 v14 v15 v16 v17 : Value) (R : List Value) (hR : R.length = 442)
  (kw : IntKind.i64.wrap ((i : Int) + 1) = (i : Int) + 1)
  (hQ : ∀ R' : List Value, R'.length = 442 → Q .normal ⟨(List.toArray (v0 :: v1 :: v2 :: v3 :: v4 :: v5 :: v6 :: v7 :: .int .i64 ((i : Int) + 1) :: v9 :: v10 :: v11 :: v12 :: v13 :: v14 :: v15 :: v16 :: v17 :: R')), []⟩ w) :
  Code.wp Tryz.prog (wReg 9) Q ⟨(List.toArray (v0 :: v1 :: v2 :: v3 :: v4 :: v5 :: v6 :: v7 :: .int .i64 (i : Int) :: v9 :: v10 :: v11 :: v12 :: v13 :: v14 :: v15 :: v16 :: v17 :: R)), []⟩ w := by
 rw [open442 R hR]
 have HQ := Lib.hid hQ
 clear hQ
 conv => arg 2; whnf
 go_wp2_with fail
 exact HQ.out _ rfl
set_option maxRecDepth 1000000 in
set_option maxHeartbeats 4000000 in
theorem rg27  (w : World) (Q : Exit → Act → World → Prop) (v0 v1 v2 v3 v4 v5 v6 v7 v8 v9 v10 v11 v12 v13 v14 v15 v16 v17 : Value) (R : List Value) (hR : R.length = 442)
  (hQ : Q .normal ⟨(List.toArray (v0 :: v1 :: v2 :: v3 :: v4 :: v5 :: v6 :: v7 :: v8 :: v9 :: v10 :: v11 :: v12 :: v13 :: .int .i64 0 :: v15 :: v16 :: v17 :: R)), []⟩ w) :
  Code.wp Tryz.prog (wReg 27) Q ⟨(List.toArray (v0 :: v1 :: v2 :: v3 :: v4 :: v5 :: v6 :: v7 :: v8 :: v9 :: v10 :: v11 :: v12 :: v13 :: v14 :: v15 :: v16 :: v17 :: R)), []⟩ w := by
 rw [open442 R hR] at hQ ⊢
 have HQ := Lib.hid hQ
 clear hQ
 conv => arg 2; whnf
 go_wp2_with fail
 exact HQ.out
set_option maxRecDepth 1000000 in
set_option maxHeartbeats 4000000 in
theorem rg28 (gx j en ce : Nat) (pe : Option Addr) (w : World) (Q : Exit → Act → World → Prop) (v0 v1 v2 v3 v4 v5 v6 v7 v8 v10 v11 v12 v13 v15 v16 v17 : Value) (R : List Value) (hR : R.length = 442)
  (d10 : w.cell? ⟨gx, 10, none⟩ = some (.slice pe en ce))
  (hQ : ∀ R' : List Value, R'.length = 442 → restAt R' 285 = .bool (decide (j < en)) → Q .normal ⟨(List.toArray (v0 :: v1 :: v2 :: v3 :: v4 :: v5 :: v6 :: v7 :: v8 :: .pointer (some ⟨gx, 0, none⟩) :: v10 :: v11 :: v12 :: v13 :: .int .i64 (j : Int) :: v15 :: v16 :: v17 :: R')), []⟩ w) :
  Code.wp Tryz.prog (wReg 28) Q ⟨(List.toArray (v0 :: v1 :: v2 :: v3 :: v4 :: v5 :: v6 :: v7 :: v8 :: .pointer (some ⟨gx, 0, none⟩) :: v10 :: v11 :: v12 :: v13 :: .int .i64 (j : Int) :: v15 :: v16 :: v17 :: R)), []⟩ w := by
 rw [open442 R hR]
 have HQ := Lib.hid hQ
 clear hQ
 conv => arg 2; whnf
 go_wp2_with fail
 exact HQ.out _ rfl rfl
set_option maxRecDepth 1000000 in
set_option maxHeartbeats 4000000 in
theorem rg29 (j : Nat) (w : World) (Q : Exit → Act → World → Prop) (v0 v1 v2 v3 v4 v5 v6 v7 v8 v9 v10 v11 v12 v13 v15 v16 v17 : Value) (R : List Value) (hR : R.length = 442)
  (kw : IntKind.i64.wrap ((j : Int) + 1) = (j : Int) + 1)
  (hQ : ∀ R' : List Value, R'.length = 442 → Q .normal ⟨(List.toArray (v0 :: v1 :: v2 :: v3 :: v4 :: v5 :: v6 :: v7 :: v8 :: v9 :: v10 :: v11 :: v12 :: v13 :: .int .i64 ((j : Int) + 1) :: v15 :: v16 :: v17 :: R')), []⟩ w) :
  Code.wp Tryz.prog (wReg 29) Q ⟨(List.toArray (v0 :: v1 :: v2 :: v3 :: v4 :: v5 :: v6 :: v7 :: v8 :: v9 :: v10 :: v11 :: v12 :: v13 :: .int .i64 (j : Int) :: v15 :: v16 :: v17 :: R)), []⟩ w := by
 rw [open442 R hR]
 have HQ := Lib.hid hQ
 clear hQ
 conv => arg 2; whnf
 go_wp2_with fail
 exact HQ.out _ rfl
set_option maxRecDepth 1000000 in
set_option maxHeartbeats 4000000 in
theorem rg30 (gx j en ce be oe : Nat) (off type add to_ at_ : Int) (w : World) (Q : Exit → Act → World → Prop) (v0 v1 v2 v3 v4 v5 v6 v7 v8 v10 v11 v12 v13 v15 v16 v17 : Value) (R : List Value) (hR : R.length = 442)
  (d10 : w.cell? ⟨gx, 10, none⟩ = some (.slice (some ⟨be, oe, none⟩) en ce)) (hj : (j : Int) < (en : Int)) (e0 : w.cell? ⟨be, oe + j * 5, none⟩ = some (.int .i64 off)) (e1 : w.cell? ⟨be, oe + j * 5 + 1, none⟩ = some (.int .i64 type)) (e2 : w.cell? ⟨be, oe + j * 5 + 2, none⟩ = some (.int .i64 add)) (e3 : w.cell? ⟨be, oe + j * 5 + 3, none⟩ = some (.int .i64 to_)) (e4 : w.cell? ⟨be, oe + j * 5 + 4, none⟩ = some (.int .i64 at_))
  (hQ : ∀ R' : List Value, R'.length = 442 → Q .normal ⟨(List.toArray (v0 :: v1 :: v2 :: v3 :: v4 :: v5 :: v6 :: v7 :: v8 :: .pointer (some ⟨gx, 0, none⟩) :: v10 :: v11 :: v12 :: v13 :: .int .i64 (j : Int) :: .pointer (some ⟨w.heap.size, 0, none⟩) :: v16 :: v17 :: R')), []⟩ (w.alloc (.cells #[.int .i64 off, .int .i64 type, .int .i64 add, .int .i64 to_, .int .i64 at_] 92))) :
  Code.wp Tryz.prog (wReg 30) Q ⟨(List.toArray (v0 :: v1 :: v2 :: v3 :: v4 :: v5 :: v6 :: v7 :: v8 :: .pointer (some ⟨gx, 0, none⟩) :: v10 :: v11 :: v12 :: v13 :: .int .i64 (j : Int) :: v15 :: v16 :: v17 :: R)), []⟩ w := by
 rw [open442 R hR]
 have HQ := Lib.hid hQ
 clear hQ
 conv => arg 2; whnf
 have hj0 : (0 : Int) ≤ (j : Int) := by omega
 go_wp2_with fail
 exact HQ.out _ rfl
set_option maxRecDepth 1000000 in
set_option maxHeartbeats 4000000 in
theorem rg36  (w : World) (Q : Exit → Act → World → Prop) (v0 v1 v2 v3 v4 v5 v6 v7 v8 v9 v10 v11 v12 v13 v14 v15 v16 v17 : Value) (R : List Value) (hR : R.length = 442)
  (hQ : Q .normal ⟨(List.toArray (v0 :: v1 :: v2 :: v3 :: v4 :: v5 :: v6 :: v7 :: v8 :: v9 :: v10 :: v11 :: v12 :: v13 :: v14 :: v15 :: v16 :: .int .i64 0 :: R)), []⟩ w) :
  Code.wp Tryz.prog (wReg 36) Q ⟨(List.toArray (v0 :: v1 :: v2 :: v3 :: v4 :: v5 :: v6 :: v7 :: v8 :: v9 :: v10 :: v11 :: v12 :: v13 :: v14 :: v15 :: v16 :: v17 :: R)), []⟩ w := by
 rw [open442 R hR] at hQ ⊢
 have HQ := Lib.hid hQ
 clear hQ
 conv => arg 2; whnf
 go_wp2_with fail
 exact HQ.out
set_option maxRecDepth 1000000 in
set_option maxHeartbeats 4000000 in
theorem rg37 (i an ca : Nat) (pa : Option Addr) (w : World) (Q : Exit → Act → World → Prop) (v0 v1 v2 v3 v4 v5 v6 v7 v8 v9 v10 v11 v12 v13 v14 v15 : Value) (R : List Value) (hR : R.length = 442)
  (hQ : ∀ R' : List Value, R'.length = 442 → restAt R' 379 = .bool (decide (i < an)) → Q .normal ⟨(List.toArray (v0 :: v1 :: v2 :: v3 :: v4 :: v5 :: v6 :: v7 :: v8 :: v9 :: v10 :: v11 :: v12 :: v13 :: v14 :: v15 :: .slice pa an ca :: .int .i64 (i : Int) :: R')), []⟩ w) :
  Code.wp Tryz.prog (wReg 37) Q ⟨(List.toArray (v0 :: v1 :: v2 :: v3 :: v4 :: v5 :: v6 :: v7 :: v8 :: v9 :: v10 :: v11 :: v12 :: v13 :: v14 :: v15 :: .slice pa an ca :: .int .i64 (i : Int) :: R)), []⟩ w := by
 rw [open442 R hR]
 have HQ := Lib.hid hQ
 clear hQ
 conv => arg 2; whnf
 go_wp2_with fail
 exact HQ.out _ rfl rfl
set_option maxRecDepth 1000000 in
set_option maxHeartbeats 4000000 in
theorem rg38 (i : Nat) (w : World) (Q : Exit → Act → World → Prop) (v0 v1 v2 v3 v4 v5 v6 v7 v8 v9 v10 v11 v12 v13 v14 v15 v16 : Value) (R : List Value) (hR : R.length = 442)
  (kw : IntKind.i64.wrap ((i : Int) + 1) = (i : Int) + 1)
  (hQ : ∀ R' : List Value, R'.length = 442 → Q .normal ⟨(List.toArray (v0 :: v1 :: v2 :: v3 :: v4 :: v5 :: v6 :: v7 :: v8 :: v9 :: v10 :: v11 :: v12 :: v13 :: v14 :: v15 :: v16 :: .int .i64 ((i : Int) + 1) :: R')), []⟩ w) :
  Code.wp Tryz.prog (wReg 38) Q ⟨(List.toArray (v0 :: v1 :: v2 :: v3 :: v4 :: v5 :: v6 :: v7 :: v8 :: v9 :: v10 :: v11 :: v12 :: v13 :: v14 :: v15 :: v16 :: .int .i64 (i : Int) :: R)), []⟩ w := by
 rw [open442 R hR]
 have HQ := Lib.hid hQ
 clear hQ
 conv => arg 2; whnf
 go_wp2_with fail
 exact HQ.out _ rfl
set_option maxRecDepth 1000000 in
set_option maxHeartbeats 4000000 in
theorem rg43  (w : World) (Q : Exit → Act → World → Prop) (v0 v1 v2 v3 v4 v6 v7 v8 v9 v10 v11 v12 v13 v14 v15 v16 v17 : Value) (R : List Value) (hR : R.length = 442)
  (hQ : ∀ R' : List Value, R'.length = 442 → Q .normal ⟨(List.toArray (v0 :: v1 :: v2 :: v3 :: .bool true :: .bool true :: v6 :: v7 :: v8 :: v9 :: v10 :: v11 :: v12 :: v13 :: v14 :: v15 :: v16 :: v17 :: R')), []⟩ w) :
  Code.wp Tryz.prog (wReg 43) Q ⟨(List.toArray (v0 :: v1 :: v2 :: v3 :: v4 :: .bool true :: v6 :: v7 :: v8 :: v9 :: v10 :: v11 :: v12 :: v13 :: v14 :: v15 :: v16 :: v17 :: R)), []⟩ w := by
 rw [open442 R hR]
 have HQ := Lib.hid hQ
 clear hQ
 conv => arg 2; whnf
 go_wp2_with fail
 exact HQ.out _ rfl
end Go.Proofs.YteopgmieindojaaGreat

namespace Go.Proofs.YteopgmieindojaaGreat
open Go.RowKit
set_option maxRecDepth 1000000 in
set_option maxHeartbeats 8000000 in
theorem reg31 (g3 g10 ge j nn c0 rn cr br or_ : Nat) (pn : Option Addr) (off type add to_ at_ : Int) (w : World) (Q : Exit → Act → World → Prop) (v0 v1 v2 v3 v4 v5 v7 v8 v9 v11 v12 v13 v16 v17 v18 v19 v20 v21 v22 v23 v24 v25 v26 v27 v28 v29 v30 v31 v32 v33 v34 v35 v36 v37 v38 v39 v40 v41 v42 v43 v44 v45 v46 v47 v48 v49 v50 v51 v52 v53 v54 v55 v56 v57 v58 v59 v60 v61 v62 v63 v64 v65 v66 v67 v68 v69 v70 v71 v72 v73 v74 v75 v76 v77 v78 v79 v80 v81 v82 v83 v84 v85 v86 v87 v88 v89 v90 v91 v92 v93 v94 v95 v96 v97 v98 v99 v100 v101 v102 v103 v104 v105 v106 v107 v108 v109 v110 v111 v112 v113 v114 v115 v116 v117 v118 v119 v120 v121 v122 v123 v124 v125 v126 v127 v128 v129 v130 v131 v132 v133 v134 v135 v136 v137 v138 v139 v140 v141 v142 v143 v144 v145 v146 v147 v148 v149 v150 v151 v152 v153 v154 v155 v156 v157 v158 v159 v160 v161 v162 v163 v164 v165 v166 v167 v168 v169 v170 v171 v172 v173 v174 v175 v176 v177 v178 v179 v180 v181 v182 v183 v184 v185 v186 v187 v188 v189 v190 v191 v192 v193 v194 v195 v196 v197 v198 v199 v200 v201 v202 v203 v204 v205 v206 v207 v208 v209 v210 v211 v212 v213 v214 v215 v216 v217 v218 v219 v220 v221 v222 v223 v224 v225 v226 v227 v228 v229 v230 v231 v232 v233 v234 v235 v236 v237 v238 v239 v240 v241 v242 v243 v244 v245 v246 v247 v248 v249 v250 v251 v252 v253 v254 v255 v256 v257 v258 v259 v260 v261 v262 v263 v264 v265 v266 v267 v268 v269 v270 v271 v272 v273 v274 v275 v276 v277 v278 v279 v280 v281 v282 v283 v284 v285 v286 v287 v288 v289 v290 v291 v292 v293 v294 v295 v296 v297 v298 v299 v300 v301 v302 v303 v304 v305 v306 v307 v308 v309 v310 v311 v312 v313 v314 v315 v316 v317 v318 v319 v320 v321 v322 v323 v324 v325 v326 v327 v328 v329 v330 v331 v332 v333 v334 v335 v336 v337 v338 v339 v340 v341 v342 v343 v344 v345 v346 v347 v348 v349 v350 v351 v352 v353 v354 v355 v356 v357 v358 v359 v360 v361 v362 v363 v364 v365 v366 v367 v368 v369 v370 v371 v372 v373 v374 v375 v376 v377 v378 v379 v380 v381 v382 v383 v384 v385 v386 v387 v388 v389 v390 v391 v392 v393 v394 v395 v396 v397 v398 v399 v400 v401 v402 v403 v404 v405 v406 v407 v408 v409 v410 v411 v412 v413 v414 v415 v416 v417 v418 v419 v420 v421 v422 v423 v424 v425 v426 v427 v428 v429 v430 v431 v432 v433 v434 v435 v436 v437 v438 v439 v440 v441 v442 v443 v444 v445 v446 v447 v448 v449 v450 v451 v452 v453 v454 v455 v456 v457 v458 v459 : Value)
  (y0 : w.cell? ⟨g3, 0, none⟩ = some (.slice pn nn c0)) (s8 : w.cell? ⟨g10, 8, none⟩ = some (.slice (some ⟨br, or_, none⟩) rn cr)) (e0 : w.cell? ⟨ge, 0, none⟩ = some (.int .i64 off)) (e1 : w.cell? ⟨ge, 1, none⟩ = some (.int .i64 type)) (e2 : w.cell? ⟨ge, 2, none⟩ = some (.int .i64 add)) (e3 : w.cell? ⟨ge, 3, none⟩ = some (.int .i64 to_)) (e4 : w.cell? ⟨ge, 4, none⟩ = some (.int .i64 at_))
  (r0 : w.cell? ⟨br, or_ + j * 4, none⟩ = some (.int .i64 off)) (r1 : w.cell? ⟨br, or_ + j * 4 + 1, none⟩ = some (.int .i64 type)) (r3 : w.cell? ⟨br, or_ + j * 4 + 3, none⟩ = some (.int .i64 add)) (jr : (j : Int) < (rn : Int)) (h1 : -1 ≤ to_) (h2 : to_ < (nn : Int)) (h3 : 0 ≤ at_)
  (hQ : ∀ (x311 x312 x313 x314 x315 x316 x317 x318 x319 x320 x321 x322 x323 x324 x325 x326 x327 x328 x329 x330 x331 x332 x333 x334 x335 x336 x337 x338 x339 x340 x341 x342 x343 x344 x345 x346 x347 x348 x349 x350 x351 x352 x353 x354 x355 x356 x357 x358 x359 x360 x361 x362 x363 : Value) (n : Nat), Q .normal ⟨(List.toArray (v0 :: v1 :: v2 :: v3 :: v4 :: v5 :: .pointer (some ⟨g3, 0, none⟩) :: v7 :: v8 :: v9 :: .pointer (some ⟨g10, 0, none⟩) :: v11 :: v12 :: v13 :: .int .i64 (j : Int) :: .pointer (some ⟨ge, 0, none⟩) :: v16 :: v17 :: v18 :: v19 :: v20 :: v21 :: v22 :: v23 :: v24 :: v25 :: v26 :: v27 :: v28 :: v29 :: v30 :: v31 :: v32 :: v33 :: v34 :: v35 :: v36 :: v37 :: v38 :: v39 :: v40 :: v41 :: v42 :: v43 :: v44 :: v45 :: v46 :: v47 :: v48 :: v49 :: v50 :: v51 :: v52 :: v53 :: v54 :: v55 :: v56 :: v57 :: v58 :: v59 :: v60 :: v61 :: v62 :: v63 :: v64 :: v65 :: v66 :: v67 :: v68 :: v69 :: v70 :: v71 :: v72 :: v73 :: v74 :: v75 :: v76 :: v77 :: v78 :: v79 :: v80 :: v81 :: v82 :: v83 :: v84 :: v85 :: v86 :: v87 :: v88 :: v89 :: v90 :: v91 :: v92 :: v93 :: v94 :: v95 :: v96 :: v97 :: v98 :: v99 :: v100 :: v101 :: v102 :: v103 :: v104 :: v105 :: v106 :: v107 :: v108 :: v109 :: v110 :: v111 :: v112 :: v113 :: v114 :: v115 :: v116 :: v117 :: v118 :: v119 :: v120 :: v121 :: v122 :: v123 :: v124 :: v125 :: v126 :: v127 :: v128 :: v129 :: v130 :: v131 :: v132 :: v133 :: v134 :: v135 :: v136 :: v137 :: v138 :: v139 :: v140 :: v141 :: v142 :: v143 :: v144 :: v145 :: v146 :: v147 :: v148 :: v149 :: v150 :: v151 :: v152 :: v153 :: v154 :: v155 :: v156 :: v157 :: v158 :: v159 :: v160 :: v161 :: v162 :: v163 :: v164 :: v165 :: v166 :: v167 :: v168 :: v169 :: v170 :: v171 :: v172 :: v173 :: v174 :: v175 :: v176 :: v177 :: v178 :: v179 :: v180 :: v181 :: v182 :: v183 :: v184 :: v185 :: v186 :: v187 :: v188 :: v189 :: v190 :: v191 :: v192 :: v193 :: v194 :: v195 :: v196 :: v197 :: v198 :: v199 :: v200 :: v201 :: v202 :: v203 :: v204 :: v205 :: v206 :: v207 :: v208 :: v209 :: v210 :: v211 :: v212 :: v213 :: v214 :: v215 :: v216 :: v217 :: v218 :: v219 :: v220 :: v221 :: v222 :: v223 :: v224 :: v225 :: v226 :: v227 :: v228 :: v229 :: v230 :: v231 :: v232 :: v233 :: v234 :: v235 :: v236 :: v237 :: v238 :: v239 :: v240 :: v241 :: v242 :: v243 :: v244 :: v245 :: v246 :: v247 :: v248 :: v249 :: v250 :: v251 :: v252 :: v253 :: v254 :: v255 :: v256 :: v257 :: v258 :: v259 :: v260 :: v261 :: v262 :: v263 :: v264 :: v265 :: v266 :: v267 :: v268 :: v269 :: v270 :: v271 :: v272 :: v273 :: v274 :: v275 :: v276 :: v277 :: v278 :: v279 :: v280 :: v281 :: v282 :: v283 :: v284 :: v285 :: v286 :: v287 :: v288 :: v289 :: v290 :: v291 :: v292 :: v293 :: v294 :: v295 :: v296 :: v297 :: v298 :: v299 :: v300 :: v301 :: v302 :: v303 :: v304 :: v305 :: v306 :: v307 :: v308 :: v309 :: v310 :: x311 :: x312 :: x313 :: x314 :: x315 :: x316 :: x317 :: x318 :: x319 :: x320 :: x321 :: x322 :: x323 :: x324 :: x325 :: x326 :: x327 :: x328 :: x329 :: x330 :: x331 :: x332 :: x333 :: x334 :: x335 :: x336 :: x337 :: x338 :: x339 :: x340 :: x341 :: x342 :: x343 :: x344 :: x345 :: x346 :: x347 :: x348 :: x349 :: x350 :: x351 :: x352 :: x353 :: x354 :: x355 :: x356 :: x357 :: x358 :: x359 :: x360 :: x361 :: x362 :: x363 :: .bool false :: v365 :: v366 :: v367 :: v368 :: v369 :: v370 :: v371 :: v372 :: v373 :: v374 :: v375 :: v376 :: v377 :: v378 :: v379 :: v380 :: v381 :: v382 :: v383 :: v384 :: v385 :: v386 :: v387 :: v388 :: v389 :: v390 :: v391 :: v392 :: v393 :: v394 :: v395 :: v396 :: v397 :: v398 :: v399 :: v400 :: v401 :: v402 :: v403 :: v404 :: v405 :: v406 :: v407 :: v408 :: v409 :: v410 :: v411 :: v412 :: v413 :: v414 :: v415 :: v416 :: v417 :: v418 :: v419 :: v420 :: v421 :: v422 :: v423 :: v424 :: v425 :: v426 :: v427 :: v428 :: v429 :: v430 :: v431 :: v432 :: v433 :: v434 :: v435 :: v436 :: v437 :: v438 :: v439 :: v440 :: v441 :: v442 :: v443 :: v444 :: v445 :: v446 :: v447 :: v448 :: v449 :: v450 :: v451 :: v452 :: v453 :: v454 :: v455 :: v456 :: v457 :: v458 :: v459 :: [])), []⟩ (w.drewN n)) :
  Code.wp Tryz.prog (wReg 31) Q ⟨(List.toArray (v0 :: v1 :: v2 :: v3 :: v4 :: v5 :: .pointer (some ⟨g3, 0, none⟩) :: v7 :: v8 :: v9 :: .pointer (some ⟨g10, 0, none⟩) :: v11 :: v12 :: v13 :: .int .i64 (j : Int) :: .pointer (some ⟨ge, 0, none⟩) :: v16 :: v17 :: v18 :: v19 :: v20 :: v21 :: v22 :: v23 :: v24 :: v25 :: v26 :: v27 :: v28 :: v29 :: v30 :: v31 :: v32 :: v33 :: v34 :: v35 :: v36 :: v37 :: v38 :: v39 :: v40 :: v41 :: v42 :: v43 :: v44 :: v45 :: v46 :: v47 :: v48 :: v49 :: v50 :: v51 :: v52 :: v53 :: v54 :: v55 :: v56 :: v57 :: v58 :: v59 :: v60 :: v61 :: v62 :: v63 :: v64 :: v65 :: v66 :: v67 :: v68 :: v69 :: v70 :: v71 :: v72 :: v73 :: v74 :: v75 :: v76 :: v77 :: v78 :: v79 :: v80 :: v81 :: v82 :: v83 :: v84 :: v85 :: v86 :: v87 :: v88 :: v89 :: v90 :: v91 :: v92 :: v93 :: v94 :: v95 :: v96 :: v97 :: v98 :: v99 :: v100 :: v101 :: v102 :: v103 :: v104 :: v105 :: v106 :: v107 :: v108 :: v109 :: v110 :: v111 :: v112 :: v113 :: v114 :: v115 :: v116 :: v117 :: v118 :: v119 :: v120 :: v121 :: v122 :: v123 :: v124 :: v125 :: v126 :: v127 :: v128 :: v129 :: v130 :: v131 :: v132 :: v133 :: v134 :: v135 :: v136 :: v137 :: v138 :: v139 :: v140 :: v141 :: v142 :: v143 :: v144 :: v145 :: v146 :: v147 :: v148 :: v149 :: v150 :: v151 :: v152 :: v153 :: v154 :: v155 :: v156 :: v157 :: v158 :: v159 :: v160 :: v161 :: v162 :: v163 :: v164 :: v165 :: v166 :: v167 :: v168 :: v169 :: v170 :: v171 :: v172 :: v173 :: v174 :: v175 :: v176 :: v177 :: v178 :: v179 :: v180 :: v181 :: v182 :: v183 :: v184 :: v185 :: v186 :: v187 :: v188 :: v189 :: v190 :: v191 :: v192 :: v193 :: v194 :: v195 :: v196 :: v197 :: v198 :: v199 :: v200 :: v201 :: v202 :: v203 :: v204 :: v205 :: v206 :: v207 :: v208 :: v209 :: v210 :: v211 :: v212 :: v213 :: v214 :: v215 :: v216 :: v217 :: v218 :: v219 :: v220 :: v221 :: v222 :: v223 :: v224 :: v225 :: v226 :: v227 :: v228 :: v229 :: v230 :: v231 :: v232 :: v233 :: v234 :: v235 :: v236 :: v237 :: v238 :: v239 :: v240 :: v241 :: v242 :: v243 :: v244 :: v245 :: v246 :: v247 :: v248 :: v249 :: v250 :: v251 :: v252 :: v253 :: v254 :: v255 :: v256 :: v257 :: v258 :: v259 :: v260 :: v261 :: v262 :: v263 :: v264 :: v265 :: v266 :: v267 :: v268 :: v269 :: v270 :: v271 :: v272 :: v273 :: v274 :: v275 :: v276 :: v277 :: v278 :: v279 :: v280 :: v281 :: v282 :: v283 :: v284 :: v285 :: v286 :: v287 :: v288 :: v289 :: v290 :: v291 :: v292 :: v293 :: v294 :: v295 :: v296 :: v297 :: v298 :: v299 :: v300 :: v301 :: v302 :: v303 :: v304 :: v305 :: v306 :: v307 :: v308 :: v309 :: v310 :: v311 :: v312 :: v313 :: v314 :: v315 :: v316 :: v317 :: v318 :: v319 :: v320 :: v321 :: v322 :: v323 :: v324 :: v325 :: v326 :: v327 :: v328 :: v329 :: v330 :: v331 :: v332 :: v333 :: v334 :: v335 :: v336 :: v337 :: v338 :: v339 :: v340 :: v341 :: v342 :: v343 :: v344 :: v345 :: v346 :: v347 :: v348 :: v349 :: v350 :: v351 :: v352 :: v353 :: v354 :: v355 :: v356 :: v357 :: v358 :: v359 :: v360 :: v361 :: v362 :: v363 :: v364 :: v365 :: v366 :: v367 :: v368 :: v369 :: v370 :: v371 :: v372 :: v373 :: v374 :: v375 :: v376 :: v377 :: v378 :: v379 :: v380 :: v381 :: v382 :: v383 :: v384 :: v385 :: v386 :: v387 :: v388 :: v389 :: v390 :: v391 :: v392 :: v393 :: v394 :: v395 :: v396 :: v397 :: v398 :: v399 :: v400 :: v401 :: v402 :: v403 :: v404 :: v405 :: v406 :: v407 :: v408 :: v409 :: v410 :: v411 :: v412 :: v413 :: v414 :: v415 :: v416 :: v417 :: v418 :: v419 :: v420 :: v421 :: v422 :: v423 :: v424 :: v425 :: v426 :: v427 :: v428 :: v429 :: v430 :: v431 :: v432 :: v433 :: v434 :: v435 :: v436 :: v437 :: v438 :: v439 :: v440 :: v441 :: v442 :: v443 :: v444 :: v445 :: v446 :: v447 :: v448 :: v449 :: v450 :: v451 :: v452 :: v453 :: v454 :: v455 :: v456 :: v457 :: v458 :: v459 :: [])), []⟩ w := by
 conv => arg 2; whnf
 have jr0 : (0 : Int) ≤ (j : Int) := by omega
 have k1 : decide (to_ < -1) = false := decide_eq_false (by omega)
 have k2 : decide ((nn : Int) ≤ to_) = false := decide_eq_false (by omega)
 have k3 : decide (at_ < 0) = false := decide_eq_false (by omega)
 have k4 : (off != off) = false := by simp
 have k5 : (type != type) = false := by simp
 have k6 : (add != add) = false := by simp
 cases k0 : (to_ == -1) with
 | true =>
  go_quiet (fail)
  exact hQ _ _ _ _ _ _ _ _ _ _ _ _ _ _ _ _ _ _ _ _ _ _ _ _ _ _ _ _ _ _ _ _ _ _ _ _ _ _ _ _ _ _ _ _ _ _ _ _ _ _ _ _ _ _
 | false =>
  go_quiet (fail)
  exact hQ _ _ _ _ _ _ _ _ _ _ _ _ _ _ _ _ _ _ _ _ _ _ _ _ _ _ _ _ _ _ _ _ _ _ _ _ _ _ _ _ _ _ _ _ _ _ _ _ _ _ _ _ _ _
end Go.Proofs.YteopgmieindojaaGreat

namespace Go.Proofs.YteopgmieindojaaGreat
open Go.RowKit
set_option maxRecDepth 1000000 in
set_option maxHeartbeats 8000000 in
theorem reg33 (g3 ge t nn c0 b off : Nat) (to_ at_ zs : Int) (w : World) (Q : Exit → Act → World → Prop) (v0 v1 v2 v3 v4 v5 v7 v8 v9 v10 v11 v12 v13 v14 v16 v17 v18 v19 v20 v21 v22 v23 v24 v25 v26 v27 v28 v29 v30 v31 v32 v33 v34 v35 v36 v37 v38 v39 v40 v41 v42 v43 v44 v45 v46 v47 v48 v49 v50 v51 v52 v53 v54 v55 v56 v57 v58 v59 v60 v61 v62 v63 v64 v65 v66 v67 v68 v69 v70 v71 v72 v73 v74 v75 v76 v77 v78 v79 v80 v81 v82 v83 v84 v85 v86 v87 v88 v89 v90 v91 v92 v93 v94 v95 v96 v97 v98 v99 v100 v101 v102 v103 v104 v105 v106 v107 v108 v109 v110 v111 v112 v113 v114 v115 v116 v117 v118 v119 v120 v121 v122 v123 v124 v125 v126 v127 v128 v129 v130 v131 v132 v133 v134 v135 v136 v137 v138 v139 v140 v141 v142 v143 v144 v145 v146 v147 v148 v149 v150 v151 v152 v153 v154 v155 v156 v157 v158 v159 v160 v161 v162 v163 v164 v165 v166 v167 v168 v169 v170 v171 v172 v173 v174 v175 v176 v177 v178 v179 v180 v181 v182 v183 v184 v185 v186 v187 v188 v189 v190 v191 v192 v193 v194 v195 v196 v197 v198 v199 v200 v201 v202 v203 v204 v205 v206 v207 v208 v209 v210 v211 v212 v213 v214 v215 v216 v217 v218 v219 v220 v221 v222 v223 v224 v225 v226 v227 v228 v229 v230 v231 v232 v233 v234 v235 v236 v237 v238 v239 v240 v241 v242 v243 v244 v245 v246 v247 v248 v249 v250 v251 v252 v253 v254 v255 v256 v257 v258 v259 v260 v261 v262 v263 v264 v265 v266 v267 v268 v269 v270 v271 v272 v273 v274 v275 v276 v277 v278 v279 v280 v281 v282 v283 v284 v285 v286 v287 v288 v289 v290 v291 v292 v293 v294 v295 v296 v297 v298 v299 v300 v301 v302 v303 v304 v305 v306 v307 v308 v309 v310 v311 v312 v313 v314 v315 v316 v317 v318 v319 v320 v321 v322 v323 v324 v325 v326 v327 v328 v329 v330 v331 v332 v333 v334 v335 v336 v337 v338 v339 v340 v341 v342 v343 v344 v345 v346 v347 v348 v349 v350 v351 v352 v353 v354 v355 v356 v357 v358 v359 v360 v361 v362 v363 v364 v365 v366 v367 v368 v369 v370 v371 v372 v373 v374 v375 v376 v377 v378 v379 v380 v381 v382 v383 v384 v385 v386 v387 v388 v389 v390 v391 v392 v393 v394 v395 v396 v397 v398 v399 v400 v401 v402 v403 v404 v405 v406 v407 v408 v409 v410 v411 v412 v413 v414 v415 v416 v417 v418 v419 v420 v421 v422 v423 v424 v425 v426 v427 v428 v429 v430 v431 v432 v433 v434 v435 v436 v437 v438 v439 v440 v441 v442 v443 v444 v445 v446 v447 v448 v449 v450 v451 v452 v453 v454 v455 v456 v457 v458 v459 : Value)
  (y0 : w.cell? ⟨g3, 0, none⟩ = some (.slice (some ⟨b, off, none⟩) nn c0)) (e3 : w.cell? ⟨ge, 3, none⟩ = some (.int .i64 to_)) (e4 : w.cell? ⟨ge, 4, none⟩ = some (.int .i64 at_))
  (ht : to_ = -1 ∨ to_ = (t : Int) ∧ (t : Int) < (nn : Int) ∧ w.cell? ⟨b, off + t * 14 + 8, none⟩ = some (.int .i64 zs) ∧ 0 ≤ at_ ∧ at_ ≤ zs)
  (hQ : ∀ (x365 x366 x367 x368 x369 x370 x371 x372 x373 x374 x375 x376 x377 x378 x379 x380 x381 x382 x383 : Value) (n : Nat), Q .normal ⟨(List.toArray (v0 :: v1 :: v2 :: v3 :: v4 :: v5 :: .pointer (some ⟨g3, 0, none⟩) :: v7 :: v8 :: v9 :: v10 :: v11 :: v12 :: v13 :: v14 :: .pointer (some ⟨ge, 0, none⟩) :: v16 :: v17 :: v18 :: v19 :: v20 :: v21 :: v22 :: v23 :: v24 :: v25 :: v26 :: v27 :: v28 :: v29 :: v30 :: v31 :: v32 :: v33 :: v34 :: v35 :: v36 :: v37 :: v38 :: v39 :: v40 :: v41 :: v42 :: v43 :: v44 :: v45 :: v46 :: v47 :: v48 :: v49 :: v50 :: v51 :: v52 :: v53 :: v54 :: v55 :: v56 :: v57 :: v58 :: v59 :: v60 :: v61 :: v62 :: v63 :: v64 :: v65 :: v66 :: v67 :: v68 :: v69 :: v70 :: v71 :: v72 :: v73 :: v74 :: v75 :: v76 :: v77 :: v78 :: v79 :: v80 :: v81 :: v82 :: v83 :: v84 :: v85 :: v86 :: v87 :: v88 :: v89 :: v90 :: v91 :: v92 :: v93 :: v94 :: v95 :: v96 :: v97 :: v98 :: v99 :: v100 :: v101 :: v102 :: v103 :: v104 :: v105 :: v106 :: v107 :: v108 :: v109 :: v110 :: v111 :: v112 :: v113 :: v114 :: v115 :: v116 :: v117 :: v118 :: v119 :: v120 :: v121 :: v122 :: v123 :: v124 :: v125 :: v126 :: v127 :: v128 :: v129 :: v130 :: v131 :: v132 :: v133 :: v134 :: v135 :: v136 :: v137 :: v138 :: v139 :: v140 :: v141 :: v142 :: v143 :: v144 :: v145 :: v146 :: v147 :: v148 :: v149 :: v150 :: v151 :: v152 :: v153 :: v154 :: v155 :: v156 :: v157 :: v158 :: v159 :: v160 :: v161 :: v162 :: v163 :: v164 :: v165 :: v166 :: v167 :: v168 :: v169 :: v170 :: v171 :: v172 :: v173 :: v174 :: v175 :: v176 :: v177 :: v178 :: v179 :: v180 :: v181 :: v182 :: v183 :: v184 :: v185 :: v186 :: v187 :: v188 :: v189 :: v190 :: v191 :: v192 :: v193 :: v194 :: v195 :: v196 :: v197 :: v198 :: v199 :: v200 :: v201 :: v202 :: v203 :: v204 :: v205 :: v206 :: v207 :: v208 :: v209 :: v210 :: v211 :: v212 :: v213 :: v214 :: v215 :: v216 :: v217 :: v218 :: v219 :: v220 :: v221 :: v222 :: v223 :: v224 :: v225 :: v226 :: v227 :: v228 :: v229 :: v230 :: v231 :: v232 :: v233 :: v234 :: v235 :: v236 :: v237 :: v238 :: v239 :: v240 :: v241 :: v242 :: v243 :: v244 :: v245 :: v246 :: v247 :: v248 :: v249 :: v250 :: v251 :: v252 :: v253 :: v254 :: v255 :: v256 :: v257 :: v258 :: v259 :: v260 :: v261 :: v262 :: v263 :: v264 :: v265 :: v266 :: v267 :: v268 :: v269 :: v270 :: v271 :: v272 :: v273 :: v274 :: v275 :: v276 :: v277 :: v278 :: v279 :: v280 :: v281 :: v282 :: v283 :: v284 :: v285 :: v286 :: v287 :: v288 :: v289 :: v290 :: v291 :: v292 :: v293 :: v294 :: v295 :: v296 :: v297 :: v298 :: v299 :: v300 :: v301 :: v302 :: v303 :: v304 :: v305 :: v306 :: v307 :: v308 :: v309 :: v310 :: v311 :: v312 :: v313 :: v314 :: v315 :: v316 :: v317 :: v318 :: v319 :: v320 :: v321 :: v322 :: v323 :: v324 :: v325 :: v326 :: v327 :: v328 :: v329 :: v330 :: v331 :: v332 :: v333 :: v334 :: v335 :: v336 :: v337 :: v338 :: v339 :: v340 :: v341 :: v342 :: v343 :: v344 :: v345 :: v346 :: v347 :: v348 :: v349 :: v350 :: v351 :: v352 :: v353 :: v354 :: v355 :: v356 :: v357 :: v358 :: v359 :: v360 :: v361 :: v362 :: v363 :: v364 :: x365 :: x366 :: x367 :: x368 :: x369 :: x370 :: x371 :: x372 :: x373 :: x374 :: x375 :: x376 :: x377 :: x378 :: x379 :: x380 :: x381 :: x382 :: x383 :: .bool false :: v385 :: v386 :: v387 :: v388 :: v389 :: v390 :: v391 :: v392 :: v393 :: v394 :: v395 :: v396 :: v397 :: v398 :: v399 :: v400 :: v401 :: v402 :: v403 :: v404 :: v405 :: v406 :: v407 :: v408 :: v409 :: v410 :: v411 :: v412 :: v413 :: v414 :: v415 :: v416 :: v417 :: v418 :: v419 :: v420 :: v421 :: v422 :: v423 :: v424 :: v425 :: v426 :: v427 :: v428 :: v429 :: v430 :: v431 :: v432 :: v433 :: v434 :: v435 :: v436 :: v437 :: v438 :: v439 :: v440 :: v441 :: v442 :: v443 :: v444 :: v445 :: v446 :: v447 :: v448 :: v449 :: v450 :: v451 :: v452 :: v453 :: v454 :: v455 :: v456 :: v457 :: v458 :: v459 :: [])), []⟩ (w.drewN n)) :
  Code.wp Tryz.prog (wReg 33) Q ⟨(List.toArray (v0 :: v1 :: v2 :: v3 :: v4 :: v5 :: .pointer (some ⟨g3, 0, none⟩) :: v7 :: v8 :: v9 :: v10 :: v11 :: v12 :: v13 :: v14 :: .pointer (some ⟨ge, 0, none⟩) :: v16 :: v17 :: v18 :: v19 :: v20 :: v21 :: v22 :: v23 :: v24 :: v25 :: v26 :: v27 :: v28 :: v29 :: v30 :: v31 :: v32 :: v33 :: v34 :: v35 :: v36 :: v37 :: v38 :: v39 :: v40 :: v41 :: v42 :: v43 :: v44 :: v45 :: v46 :: v47 :: v48 :: v49 :: v50 :: v51 :: v52 :: v53 :: v54 :: v55 :: v56 :: v57 :: v58 :: v59 :: v60 :: v61 :: v62 :: v63 :: v64 :: v65 :: v66 :: v67 :: v68 :: v69 :: v70 :: v71 :: v72 :: v73 :: v74 :: v75 :: v76 :: v77 :: v78 :: v79 :: v80 :: v81 :: v82 :: v83 :: v84 :: v85 :: v86 :: v87 :: v88 :: v89 :: v90 :: v91 :: v92 :: v93 :: v94 :: v95 :: v96 :: v97 :: v98 :: v99 :: v100 :: v101 :: v102 :: v103 :: v104 :: v105 :: v106 :: v107 :: v108 :: v109 :: v110 :: v111 :: v112 :: v113 :: v114 :: v115 :: v116 :: v117 :: v118 :: v119 :: v120 :: v121 :: v122 :: v123 :: v124 :: v125 :: v126 :: v127 :: v128 :: v129 :: v130 :: v131 :: v132 :: v133 :: v134 :: v135 :: v136 :: v137 :: v138 :: v139 :: v140 :: v141 :: v142 :: v143 :: v144 :: v145 :: v146 :: v147 :: v148 :: v149 :: v150 :: v151 :: v152 :: v153 :: v154 :: v155 :: v156 :: v157 :: v158 :: v159 :: v160 :: v161 :: v162 :: v163 :: v164 :: v165 :: v166 :: v167 :: v168 :: v169 :: v170 :: v171 :: v172 :: v173 :: v174 :: v175 :: v176 :: v177 :: v178 :: v179 :: v180 :: v181 :: v182 :: v183 :: v184 :: v185 :: v186 :: v187 :: v188 :: v189 :: v190 :: v191 :: v192 :: v193 :: v194 :: v195 :: v196 :: v197 :: v198 :: v199 :: v200 :: v201 :: v202 :: v203 :: v204 :: v205 :: v206 :: v207 :: v208 :: v209 :: v210 :: v211 :: v212 :: v213 :: v214 :: v215 :: v216 :: v217 :: v218 :: v219 :: v220 :: v221 :: v222 :: v223 :: v224 :: v225 :: v226 :: v227 :: v228 :: v229 :: v230 :: v231 :: v232 :: v233 :: v234 :: v235 :: v236 :: v237 :: v238 :: v239 :: v240 :: v241 :: v242 :: v243 :: v244 :: v245 :: v246 :: v247 :: v248 :: v249 :: v250 :: v251 :: v252 :: v253 :: v254 :: v255 :: v256 :: v257 :: v258 :: v259 :: v260 :: v261 :: v262 :: v263 :: v264 :: v265 :: v266 :: v267 :: v268 :: v269 :: v270 :: v271 :: v272 :: v273 :: v274 :: v275 :: v276 :: v277 :: v278 :: v279 :: v280 :: v281 :: v282 :: v283 :: v284 :: v285 :: v286 :: v287 :: v288 :: v289 :: v290 :: v291 :: v292 :: v293 :: v294 :: v295 :: v296 :: v297 :: v298 :: v299 :: v300 :: v301 :: v302 :: v303 :: v304 :: v305 :: v306 :: v307 :: v308 :: v309 :: v310 :: v311 :: v312 :: v313 :: v314 :: v315 :: v316 :: v317 :: v318 :: v319 :: v320 :: v321 :: v322 :: v323 :: v324 :: v325 :: v326 :: v327 :: v328 :: v329 :: v330 :: v331 :: v332 :: v333 :: v334 :: v335 :: v336 :: v337 :: v338 :: v339 :: v340 :: v341 :: v342 :: v343 :: v344 :: v345 :: v346 :: v347 :: v348 :: v349 :: v350 :: v351 :: v352 :: v353 :: v354 :: v355 :: v356 :: v357 :: v358 :: v359 :: v360 :: v361 :: v362 :: v363 :: v364 :: v365 :: v366 :: v367 :: v368 :: v369 :: v370 :: v371 :: v372 :: v373 :: v374 :: v375 :: v376 :: v377 :: v378 :: v379 :: v380 :: v381 :: v382 :: v383 :: v384 :: v385 :: v386 :: v387 :: v388 :: v389 :: v390 :: v391 :: v392 :: v393 :: v394 :: v395 :: v396 :: v397 :: v398 :: v399 :: v400 :: v401 :: v402 :: v403 :: v404 :: v405 :: v406 :: v407 :: v408 :: v409 :: v410 :: v411 :: v412 :: v413 :: v414 :: v415 :: v416 :: v417 :: v418 :: v419 :: v420 :: v421 :: v422 :: v423 :: v424 :: v425 :: v426 :: v427 :: v428 :: v429 :: v430 :: v431 :: v432 :: v433 :: v434 :: v435 :: v436 :: v437 :: v438 :: v439 :: v440 :: v441 :: v442 :: v443 :: v444 :: v445 :: v446 :: v447 :: v448 :: v449 :: v450 :: v451 :: v452 :: v453 :: v454 :: v455 :: v456 :: v457 :: v458 :: v459 :: [])), []⟩ w := by
 conv => arg 2; whnf
 rcases ht with rfl | ⟨rfl, j1, Z8, h1, h2⟩
 ·have k1 : decide ((0 : Int) ≤ -1) = false := by decide
  go_quiet (fail)
  exact hQ _ _ _ _ _ _ _ _ _ _ _ _ _ _ _ _ _ _ _ _
 ·have j0 : (0 : Int) ≤ (t : Int) := by omega
  have k1 : decide ((0 : Int) ≤ (t : Int)) = true := decide_eq_true j0
  have k2 : decide (at_ < 0) = false := decide_eq_false (by omega)
  have k3 : decide (zs < at_) = false := decide_eq_false (by omega)
  go_quiet (fail)
  exact hQ _ _ _ _ _ _ _ _ _ _ _ _ _ _ _ _ _ _ _ _
end Go.Proofs.YteopgmieindojaaGreat

namespace Go.Proofs.YteopgmieindojaaGreat
open Go.RowKit
def tagged {α : Type} (f : ObjD → List α) (i : Nat) (o : ObjD) : List (Nat × Nat × α) := (f o).mapIdx fun k x => (i, k, x)
def allTo {α : Type} (f : ObjD → List α) (l : List ObjD) : Nat → List (Nat × Nat × α)
 | 0 => []
 | i + 1 => allTo f l i ++ match l[i]? with | some o => tagged f i o | none => []
def atTo {α : Type} (f : ObjD → List α) (l : List ObjD) (i k : Nat) : List (Nat × Nat × α) := allTo f l i ++ match l[i]? with | some o => (tagged f i o).take k | none => []
theorem tagged_length {α : Type} (f : ObjD → List α) (i : Nat) (o : ObjD) : (tagged f i o).length = (f o).length := by simp [tagged]
theorem tagged_get {α : Type} {f : ObjD → List α} {i k : Nat} {o : ObjD} {x : α} (h : (f o)[k]? = some x) : (tagged f i o)[k]? = some (i, k, x) := by
 simp [tagged, List.getElem?_mapIdx, h]
theorem atTo_zero {α : Type} (f : ObjD → List α) (l : List ObjD) (i : Nat) : atTo f l i 0 = allTo f l i := by
 unfold atTo
 cases l[i]? <;> simp
theorem atTo_step {α : Type} {f : ObjD → List α} {l : List ObjD} {i k : Nat} {o : ObjD} {x : α} (ho : l[i]? = some o) (hx : (f o)[k]? = some x) : atTo f l i (k + 1) = atTo f l i k ++ [(i, k, x)] := by
 unfold atTo
 rw [ho]
 simp only
 have hk : k < (tagged f i o).length := by rw [tagged_length]; exact (List.getElem?_eq_some_iff.1 hx).1
 have := tagged_get (i := i) hx
 rw [List.take_succ_eq_append_getElem hk, ← List.append_assoc, (List.getElem?_eq_some_iff.1 this).2]
theorem atTo_end {α : Type} {f : ObjD → List α} {l : List ObjD} {i k : Nat} {o : ObjD} (ho : l[i]? = some o) (hk : (f o).length ≤ k) : atTo f l i k = allTo f l (i + 1) := by
 unfold atTo
 conv => rhs; unfold allTo
 rw [ho]
 simp only
 rw [List.take_of_length_le (by rw [tagged_length]; exact hk)]
theorem allTo_mem {α : Type} {f : ObjD → List α} {l : List ObjD} {i k : Nat} {x : α} : ∀ {n : Nat}, (i, k, x) ∈ allTo f l n ↔ i < n ∧ ∃ o, l[i]? = some o ∧ (f o)[k]? = some x
 | 0 => by simp [allTo]
 | n + 1 => by
  unfold allTo
  rw [List.mem_append, allTo_mem]
  constructor
  ·rintro (⟨h1, o, h2, h3⟩ | h)
   ·exact ⟨by omega, o, h2, h3⟩
   ·cases ho : l[n]? with
    | none => rw [ho] at h; cases h
    | some o =>
     rw [ho] at h
     simp only at h
     unfold tagged at h
     rw [List.mem_mapIdx] at h
     obtain ⟨j, hj, e⟩ := h
     cases e
     exact ⟨by omega, o, ho, List.getElem?_eq_getElem hj⟩
  ·rintro ⟨h1, o, h2, h3⟩
   rcases Nat.lt_or_ge i n with hlt | hge
   ·exact .inl ⟨hlt, o, h2, h3⟩
   ·obtain rfl : i = n := by omega
    refine .inr ?_
    rw [h2]
    exact List.mem_of_getElem? (tagged_get h3)
def sEq (x y : ByteArray) : Bool := x.toList == y.toList
def sLt (x y : ByteArray) : Bool := Op.bytesLess x.toList y.toList
theorem sEq_iff {x y : ByteArray} : sEq x y = true ↔ x = y := by
 unfold sEq
 rw [beq_iff_eq]
 constructor
 ·intro h
  rw [ByteArray.toList_eq, ByteArray.toList_eq] at h
  exact ByteArray.ext (Array.ext' h)
 ·rintro rfl; rfl
theorem sEq_refl (x : ByteArray) : sEq x x = true := sEq_iff.2 rfl
theorem less_iff : ∀ x y : List UInt8, Op.bytesLess x y = true ↔ x < y := by
 intro x
 induction x with
 | nil => intro y; cases y <;> simp [Op.bytesLess]
 | cons a x ih =>
  intro y
  cases y with
  | nil => simp [Op.bytesLess]
  | cons b y =>
   unfold Op.bytesLess
   rw [List.cons_lt_cons_iff, Bool.or_eq_true, Bool.and_eq_true, decide_eq_true_eq, beq_iff_eq, ih]
theorem sLt_iff {x y : ByteArray} : sLt x y = true ↔ x.data.toList < y.data.toList := by
 unfold sLt
 rw [ByteArray.toList_eq, ByteArray.toList_eq, less_iff]
theorem sLt_irrefl (x : ByteArray) : sLt x x = false := by
 cases h : sLt x x with
 | false => rfl
 | true => exact absurd (sLt_iff.1 h) (List.lt_irrefl _)
theorem sLt_trans {x y z : ByteArray} (h1 : sLt x y = true) (h2 : sLt y z = true) : sLt x z = true := sLt_iff.2 (List.lt_trans (sLt_iff.1 h1) (sLt_iff.1 h2))
theorem sLt_total {x y : ByteArray} (h : sEq x y = false) (h1 : sLt x y = false) : sLt y x = true := by
 have hne : ¬ x = y := fun e => by rw [e, sEq_refl] at h; cases h
 have h2 : ¬ x.data.toList < y.data.toList := fun hh => by rw [sLt_iff.2 hh] at h1; cases h1
 refine sLt_iff.2 ?_
 have h3 : y.data.toList ≤ x.data.toList := List.not_lt.1 h2
 rcases List.le_iff_lt_or_eq.1 h3 with h4 | h4
 ·exact h4
 ·exact absurd (ByteArray.ext (Array.ext' h4.symm)) hne
def symName (o : ObjD) (n : Int) : ByteArray := match o.syms[n.toNat]? with | some s => s.name | none => ⟨#[]⟩
def gNameAt (l : List ObjD) (x : Nat × Nat × GroupD) : ByteArray := match l[x.1]? with | some o => symName o x.2.2.sym | none => ⟨#[]⟩
def metB (l : List ObjD) (i k : Nat) (name : ByteArray) : Bool := (atTo ObjD.groups l i k).any fun x => sEq (gNameAt l x) name
def setAll (out : List Bool) (ms : List Int) (b : Bool) : List Bool := ms.foldl (fun acc m => acc.set (m - 1).toNat b) out
theorem setAll_length (ms : List Int) (b : Bool) : ∀ out : List Bool, (setAll out ms b).length = out.length := by
 induction ms with
 | nil => intro out; rfl
 | cons m ms ih => intro out; show (setAll (out.set _ b) ms b).length = _; rw [ih, List.length_set]
theorem setAll_snoc (out : List Bool) (ms : List Int) (m : Int) (b : Bool) : setAll out (ms ++ [m]) b = (setAll out ms b).set (m - 1).toNat b := by
 unfold setAll
 rw [List.foldl_append]
 rfl
def dropTo (l : List ObjD) (i : Nat) (o : ObjD) : Nat → List Bool
 | 0 => List.replicate o.secs.length false
 | k + 1 => match o.groups[k]? with
  | none => dropTo l i o k
  | some g => bif metB l i k (symName o g.sym) then setAll (dropTo l i o k) g.members true else dropTo l i o k
def dropOf (l : List ObjD) (i : Nat) : List Bool := match l[i]? with | some o => dropTo l i o o.groups.length | none => []
def dropOwnTo (l : List ObjD) (i : Nat) (o : ObjD) : Nat → List Bool
 | 0 => List.replicate o.secs.length false
 | k + 1 => match o.groups[k]? with
  | none => dropOwnTo l i o k
  | some g => setAll (dropOwnTo l i o k) g.members (metB l i k (symName o g.sym))
def dropsOf (l : List ObjD) : List (List Bool) := (List.range l.length).map (dropOf l)
theorem dropTo_length (l : List ObjD) (i : Nat) (o : ObjD) : ∀ k, (dropTo l i o k).length = o.secs.length
 | 0 => by simp [dropTo]
 | k + 1 => by
  unfold dropTo
  cases o.groups[k]? with
  | none => exact dropTo_length l i o k
  | some g =>
   simp only
   cases metB l i k (symName o g.sym) with
   | true => show (setAll _ _ _).length = _; rw [setAll_length]; exact dropTo_length l i o k
   | false => exact dropTo_length l i o k
def OneGroup (o : ObjD) : Prop := ∀ (a b : Nat) (g h : GroupD), o.groups[a]? = some g → o.groups[b]? = some h → a < b → ∀ m ∈ h.members, ∀ n ∈ g.members, 1 ≤ m ∧ 1 ≤ n → m ≠ n
def MemOK (o : ObjD) : Prop := ∀ g ∈ o.groups, ∀ m ∈ g.members, 1 ≤ m ∧ m ≤ (o.secs.length : Int)
theorem setAll_same : ∀ (ms : List Int) (out : List Bool), (∀ m ∈ ms, out[(m - 1).toNat]?.getD false = false) → setAll out ms false = out
 | [], _, _ => rfl
 | m :: ms, out, h => by
  have h1 : out.set (m - 1).toNat false = out := by
   have h2 := h m (by simp)
   apply List.ext_getElem?
   intro j
   rw [List.getElem?_set]
   split
   ·rename_i e
    subst e
    split
    ·rename_i hl
     rw [List.getElem?_eq_getElem hl] at h2 ⊢
     simpa using h2.symm
    ·rename_i hl
     rw [List.getElem?_eq_none (by omega)]
   ·rfl
  show setAll (out.set _ false) ms false = out
  rw [h1]
  exact setAll_same ms out fun x hx => h x (by simp [hx])
theorem setAll_get (j : Nat) (b : Bool) : ∀ (ms : List Int) (out : List Bool), (∀ m ∈ ms, (m - 1).toNat ≠ j) → (setAll out ms b)[j]? = out[j]?
 | [], _, _ => rfl
 | m :: ms, out, h => by
  show (setAll (out.set _ b) ms b)[j]? = _
  rw [setAll_get j b ms _ fun x hx => h x (by simp [hx]), List.getElem?_set_ne (h m (by simp))]
theorem dropTo_out {l : List ObjD} {i : Nat} {o : ObjD} {j : Nat} : ∀ k, (∀ (a : Nat) (g : GroupD), a < k → o.groups[a]? = some g → ∀ m ∈ g.members, (m - 1).toNat ≠ j) → (dropTo l i o k)[j]?.getD false = false
 | 0, _ => by
  unfold dropTo
  rw [List.getElem?_replicate]
  split <;> rfl
 | k + 1, h => by
  have ih := dropTo_out (l := l) (i := i) k fun a g ha => h a g (by omega)
  unfold dropTo
  cases hg : o.groups[k]? with
  | none => exact ih
  | some g =>
   simp only
   cases metB l i k (symName o g.sym) with
   | false => exact ih
   | true =>
    show (setAll _ _ _)[j]?.getD false = false
    rw [setAll_get j true _ _ (h k g (by omega) hg)]
    exact ih
theorem dropOwnTo_eq {l : List ObjD} {i : Nat} {o : ObjD} (h1 : OneGroup o) (h2 : MemOK o) : ∀ k, dropOwnTo l i o k = dropTo l i o k
 | 0 => rfl
 | k + 1 => by
  unfold dropOwnTo dropTo
  rw [dropOwnTo_eq h1 h2 k]
  cases hg : o.groups[k]? with
  | none => rfl
  | some g =>
   simp only
   cases metB l i k (symName o g.sym) with
   | true => rfl
   | false =>
    show setAll _ _ false = _
    refine setAll_same _ _ fun m hm => dropTo_out k fun a g' ha hg' n hn => ?_
    have hm1 := h2 g (List.mem_of_getElem? hg) m hm
    have hn1 := h2 g' (List.mem_of_getElem? hg') n hn
    have := h1 a k g' g hg' hg ha m hm n hn ⟨hm1.1, hn1.1⟩
    omega
end Go.Proofs.YteopgmieindojaaGreat
