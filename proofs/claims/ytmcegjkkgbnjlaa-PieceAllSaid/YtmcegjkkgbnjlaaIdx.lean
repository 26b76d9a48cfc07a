/-
  Contracts of the library's IndexByte, at strings and at slices of bytes whose cells are known.
-/
import Derived.Test.YtmcegjkkgbnjlaaMem
import Derived.Lib.BytesEntry
import Derived.Laws.Externs
namespace Go.Proofs.Ytmcegjkkgbnjlaa
open Go.RowKit

theorem idx_none {l : List UInt8} {c : UInt8} (h : ∀ (i : Nat) (y : UInt8), l[i]? = some y → y ≠ c) : Lib.indexByte l c = -1 := by
  induction l with
  | nil => rfl
  | cons x r ih =>
    have hx : (x == c) = false := by rw [beq_eq_false_iff_ne]; exact h 0 x rfl
    have := ih fun i y hy => h (i + 1) y (by simpa using hy)
    simp [Lib.indexByte, hx, this]
theorem idx_some {c : UInt8} : ∀ {l : List UInt8} {k : Nat}, (∀ (i : Nat) (y : UInt8), i < k → l[i]? = some y → y ≠ c) → l[k]? = some c → Lib.indexByte l c = k
  | [], _, _, h => by simp at h
  | x :: r, 0, _, h => by
    simp at h
    simp [Lib.indexByte, h]
  | x :: r, k + 1, hb, h => by
    have hx : (x == c) = false := by rw [beq_eq_false_iff_ne]; exact hb 0 x (by omega) rfl
    have := idx_some (c := c) (l := r) (k := k) (fun i y hi hy => hb (i + 1) y (by omega) (by simpa using hy)) (by simpa using h)
    have h2 : ((k : Int) == -1) = false := by rw [beq_eq_false_iff_ne]; omega
    simp [Lib.indexByte, hx, this, h2]
/-- A list has a first such byte, or none. -/
theorem first_of (c : UInt8) : ∀ l : List UInt8, (∃ k : Nat, l[k]? = some c ∧ ∀ (i : Nat) (y : UInt8), i < k → l[i]? = some y → y ≠ c) ∨ ∀ (i : Nat) (y : UInt8), l[i]? = some y → y ≠ c
  | [] => .inr fun i y h => by simp at h
  | x :: r => by
    by_cases hx : x = c
    · exact .inl ⟨0, by simp [hx], fun i y hi => absurd hi (by omega)⟩
    · rcases first_of c r with ⟨k, h1, h2⟩ | h
      · refine .inl ⟨k + 1, by simpa using h1, fun i y hi hy => ?_⟩
        match i, hy with
        | 0, hy => simp at hy; exact hy ▸ hx
        | i + 1, hy => exact h2 i y (by omega) (by simpa using hy)
      · refine .inr fun i y hy => ?_
        match i, hy with
        | 0, hy => simp at hy; exact hy ▸ hx
        | i + 1, hy => exact h i y (by simpa using hy)

theorem bytesOf_nums (l : List UInt8) : Lib.bytesOf (l.map fun x => (x.toNat : Int)) = l := by
  simp [Lib.bytesOf, List.map_map, Function.comp_def]
theorem run_idx {P : Program} {w : World} {b off : Nat} {l : List UInt8} (h : Has w (some ⟨b, off, none⟩) l) (n cap : Nat) (hn : l.length = n) (c : Int) :
    (Extern.BytealgIndexByte.indexByte #[.slice (some ⟨b, off, none⟩) n cap, .int .u8 c]).run P w = .ok (.int .i64 (Lib.indexByte l c.toNat.toUInt8)) w := by
  have := Lib.run_indexByteSlice (P := P) w b off n cap (l.map fun x => (x.toNat : Int)) (by simpa using hn) (fun i hi => by
    obtain ⟨a, e, hc⟩ := h i l[i] (List.getElem?_eq_getElem (by omega))
    cases e
    have ha : (⟨b, off, none⟩ : Addr).add i = ⟨b, off + i, none⟩ := by unfold Addr.add; split <;> simp_all
    rw [ha] at hc
    rw [hc]
    simp [List.getD, List.getElem?_eq_getElem (show i < l.length by omega)]) c
  rwa [bytesOf_nums] at this

set_option maxRecDepth 100000 in
theorem sIdx_any (s : ByteArray) (c : Int) (w : World) :
    Calls Try.prog 110 #[.string s, .int .u8 c] w fun e w' => e = .returned (.int .i64 (Lib.indexByte s.data.toList c.toNat.toUInt8)) ∧ w = w' := by
  go_enter Try.func110, Try.ntmps110
  go_wp2_with fail
  rw [run_callFunc_extern Try.func128 (by kernel_rfl) (by kernel_rfl) (by kernel_rfl) (e := Extern.BytealgIndexByte.indexByte) (by kernel_rfl), Lib.run_indexByteString]
  simp only [Result.andThen]
  rw [Oper.upon_value]
  go_wp2_with fail
  go_ret
  exact ⟨rfl, rfl⟩

set_option maxRecDepth 100000 in
theorem strIdx_any (s : ByteArray) (c : Int) (w : World) :
    Calls Try.prog 81 #[.string s, .int .u8 c] w fun e w' => e = .returned (.int .i64 (Lib.indexByte s.data.toList c.toNat.toUInt8)) ∧ w = w' := by
  have HC := Lib.hid (sIdx_any s c w)
  go_enter Try.func81, Try.ntmps81
  go_wp2_with fail
  refine HC.out.mono ?_
  rintro e w' ⟨rfl, rfl⟩
  go_wp2_with fail
  go_ret
  exact ⟨rfl, rfl⟩

set_option maxRecDepth 100000 in
theorem bIdx_any {w : World} {b off : Nat} {l : List UInt8} (h : Has w (some ⟨b, off, none⟩) l) (n cap : Nat) (hn : l.length = n) (c : Int) :
    Calls Try.prog 80 #[.slice (some ⟨b, off, none⟩) n cap, .int .u8 c] w fun e w' => e = .returned (.int .i64 (Lib.indexByte l c.toNat.toUInt8)) ∧ w = w' := by
  have hr := run_idx (P := Try.prog) h n cap hn c
  go_enter Try.func80, Try.ntmps80
  go_wp2_with fail
  rw [run_callFunc_extern Try.func109 (by kernel_rfl) (by kernel_rfl) (by kernel_rfl) (e := Extern.BytealgIndexByte.indexByte) (by kernel_rfl), hr]
  simp only [Result.andThen]
  rw [Oper.upon_value]
  go_wp2_with fail
  go_ret
  exact ⟨rfl, rfl⟩

end Go.Proofs.Ytmcegjkkgbnjlaa
