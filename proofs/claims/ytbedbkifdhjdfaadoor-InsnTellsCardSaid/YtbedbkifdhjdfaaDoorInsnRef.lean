/-
  Instructions: the reference's bytes of an instruction, and that they are the same where one is told so. It names nothing of the program.
-/
import Derived.Test.YtbedbkifdhjdfaaDoorInsnPure
namespace Go.Proofs.YtbedbkifdhjdfaaDoor
open Go.RowKit

/-- The bytes ahead of registers, by Op. -/
def headsL (op : Int) : List UInt8 :=
  if op = 1 then [72, 199] else if op = 3 then [72, 141] else if op = 4 then [72, 139] else if op = 5 then [72, 137] else if op = 8 then [72, 137] else if op = 6 then [72, 15, 182] else if op = 7 then [72, 136] else if op = 9 then [72, 1]
  else if op = 10 then [72, 41] else if op = 11 then [72, 129] else if op = 12 then [72, 57] else []
/-- What stands ahead of the field, and how long the field is: the reference's way. -/
def rhead (x : Ins) : List UInt8 × Nat :=
  if x.op = 1 ∨ x.op = 11 then (headsL x.op ++ [byteI (192 + x.m)], 4)
  else if x.op = 2 then ([72, byteI (184 + x.m)], 8)
  else if x.op = 3 then (headsL x.op ++ [byteI (5 + 8 * x.r)], 4)
  else if x.op = 4 ∨ x.op = 5 ∨ x.op = 6 ∨ x.op = 7 then (headsL x.op ++ [byteI (128 + 8 * x.r + x.m)], 4)
  else if x.op = 8 ∨ x.op = 9 ∨ x.op = 10 ∨ x.op = 12 then (headsL x.op ++ [byteI (192 + 8 * x.r + x.m)], 0)
  else if x.op = 13 then ([233], 4)
  else if x.op = 14 then ([15, 132], 4)
  else if x.op = 15 then ([15, 133], 4)
  else if x.op = 16 then ([15, 130], 4)
  else if x.op = 17 then ([232], 4)
  else if x.op = 18 then ([255, byteI (208 + x.m)], 0)
  else if x.op = 19 then ([195], 0)
  else if x.op = 20 then ([15, 5], 0)
  else ([], 0)
def rraw (x : Ins) : List UInt8 := (rhead x).1 ++ leB (rhead x).2 (immN x.imm)
def fitR (x : Ins) : Bool := decide (0 ≤ x.r) && decide (x.r ≤ 7) && decide (0 ≤ x.m) && decide (x.m ≤ 7)
def renc (x : Ins) : List UInt8 := if fitR x = true ∧ dec (rraw x) = some x then rraw x else []

theorem rraw_raw (x : Ins) (h1 : 1 ≤ x.op) (h2 : x.op ≤ 20) (h : ∀ s, shapesL[(x.op - 1).toNat]? = some s → (s.r = false → x.r = 0) ∧ (s.m = false → x.m = 0)) : rraw x = raw x := by
  obtain ⟨op, r, m, len, field, width, imm⟩ := x
  simp only at h1 h2 h
  obtain ⟨n, rfl⟩ := Int.eq_ofNat_of_zero_le (show 0 ≤ op by omega)
  have hn1 : 1 ≤ n := by omega
  have hn2 : n ≤ 20 := by omega
  match n, hn1, hn2 with
  | 1, _, _ | 2, _, _ | 3, _, _ | 4, _, _ | 5, _, _ | 6, _, _ | 7, _, _ | 8, _, _ | 9, _, _ | 10, _, _ | 11, _, _ | 12, _, _ | 13, _, _ | 14, _, _ | 15, _, _ | 16, _, _ | 17, _, _ | 18, _, _ | 19, _, _ | 20, _, _ =>
    have hh := h _ rfl
    obtain ⟨ha, hb⟩ := hh
    first
      | rfl
      | (obtain rfl := ha rfl; simp [byteI, rraw, rhead, raw, rawS, shapesL, Shp.names]; done)
      | (obtain rfl := hb rfl; simp [byteI, rraw, rhead, raw, rawS, shapesL, Shp.names]; done)
      | (obtain rfl := ha rfl; simp [byteI, rraw, rhead, raw, rawS, shapesL, Shp.names]; unfold headsL; simp; done)
      | (obtain rfl := hb rfl; simp [byteI, rraw, rhead, raw, rawS, shapesL, Shp.names]; unfold headsL; simp; done)
      | (simp [byteI, rraw, rhead, raw, rawS, shapesL, Shp.names]; unfold headsL; simp; done)
theorem renc_enc (x : Ins) : renc x = enc x := by
  unfold renc enc
  by_cases h : dec (raw x) = some x
  · obtain ⟨f1, f2, f3, f4, f5, f6, f7⟩ := dec_facts h
    rw [rraw_raw x f1 f2 f7, if_pos h, if_pos ⟨by simp [fitR]; omega, h⟩]
  · rw [if_neg h, if_neg]
    rintro ⟨_, h2⟩
    obtain ⟨f1, f2, f3, f4, f5, f6, f7⟩ := dec_facts h2
    rw [rraw_raw x f1 f2 f7] at h2
    exact h h2
end Go.Proofs.YtbedbkifdhjdfaaDoor
