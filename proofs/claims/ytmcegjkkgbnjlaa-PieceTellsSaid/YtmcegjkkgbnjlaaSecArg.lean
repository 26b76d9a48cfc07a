/-
  An argument of type api.Sec: what it holds, and how it is opened.
-/
import Derived.Test.YtmcegjkkgbnjlaaObjMem
namespace Go.Proofs.Ytmcegjkkgbnjlaa
open Go.ChangeShapes Go.WideShapes Go.RowKit Go.Deep

/-- v is the section s. -/
def IsSec (w : World) (v : Value) (s : SecD) : Prop := ∃ vd vr, v = .agg #[.string s.name, .int .i64 s.type, .int .i64 s.flags, .int .i64 s.align, .int .i64 s.ent, .int .i64 s.link, .int .i64 s.size, vd, vr] ∧
  (s.name.size ≤ maxLen ∧ ∀ x ∈ [s.type, s.flags, s.align, s.ent, s.link, s.size], -9223372036854775808 ≤ x ∧ x ≤ 9223372036854775807) ∧ IsL 1 EByte w vd s.data ∧ IsL 4 ERel w vr s.rels

section
variable {H : Type} {enc : TypeId × Value → H} {w : World} {base : Nat} {spare : Nat → Bool} {held : Bool}
/-- An argument of type api.Sec, behind open_agg. -/
theorem open_sec {fuel : Nat} {cs : Array Value} {x : DataW H × List MemPlace} (h : DataW.trod enc Try.prog w base spare held fuel 104 cs.toList = some x) : ∃ s : SecD, IsSec w (.agg cs) s := by
  obtain ⟨hl, m, hf⟩ := open_fields Try.underlying104 (by kernel_rfl) (by kernel_rfl) h
  have hl9 : cs.toList.length = 9 := hl
  obtain ⟨v0, _, c0, r0⟩ := hf 0 _ rfl
  obtain ⟨v1, _, c1, r1⟩ := hf 1 _ rfl
  obtain ⟨v2, _, c2, r2⟩ := hf 2 _ rfl
  obtain ⟨v3, _, c3, r3⟩ := hf 3 _ rfl
  obtain ⟨v4, _, c4, r4⟩ := hf 4 _ rfl
  obtain ⟨v5, _, c5, r5⟩ := hf 5 _ rfl
  obtain ⟨v6, _, c6, r6⟩ := hf 6 _ rfl
  obtain ⟨v7, _, c7, r7⟩ := hf 7 _ rfl
  obtain ⟨v8, _, c8, r8⟩ := hf 8 _ rfl
  obtain ⟨x0, rfl, b0⟩ := read_str Try.underlying9 r0
  obtain ⟨x1, rfl, b1⟩ := read_int Try.underlying3 r1
  obtain ⟨x2, rfl, b2⟩ := read_int Try.underlying3 r2
  obtain ⟨x3, rfl, b3⟩ := read_int Try.underlying3 r3
  obtain ⟨x4, rfl, b4⟩ := read_int Try.underlying3 r4
  obtain ⟨x5, rfl, b5⟩ := read_int Try.underlying3 r5
  obtain ⟨x6, rfl, b6⟩ := read_int Try.underlying3 r6
  obtain ⟨x7, h7⟩ := open_L Try.underlying22 (by kernel_rfl) (by omega) (opens_byte Try.underlying5) r7
  obtain ⟨x8, h8⟩ := open_L Try.underlying102 (by kernel_rfl) (by omega) opens_rel r8
  have hcs : cs.toList = [.string x0, .int .i64 x1, .int .i64 x2, .int .i64 x3, .int .i64 x4, .int .i64 x5, .int .i64 x6, v7, v8] := by
    generalize cs.toList = l at *
    match l, hl9 with
    | [u0, u1, u2, u3, u4, u5, u6, u7, u8], _ =>
      simp only [List.getElem?_cons_zero, List.getElem?_cons_succ, Option.some.injEq] at c0 c1 c2 c3 c4 c5 c6 c7 c8
      subst c0 c1 c2 c3 c4 c5 c6 c7 c8
      rfl
  refine ⟨⟨x0, x1, x2, x3, x4, x5, x6, x7, x8⟩, v7, v8, ?_, ⟨b0, ?_⟩, h7, h8⟩
  · congr 1
    apply Array.ext'
    exact hcs
  · intro y hy
    simp only [List.mem_cons, List.not_mem_nil, or_false] at hy
    rcases hy with rfl | rfl | rfl | rfl | rfl | rfl
    · exact b1
    · exact b2
    · exact b3
    · exact b4
    · exact b5
    · exact b6
end

end Go.Proofs.Ytmcegjkkgbnjlaa
