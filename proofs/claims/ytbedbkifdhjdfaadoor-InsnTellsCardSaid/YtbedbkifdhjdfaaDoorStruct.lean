/-
  A struct of integers, by value, among a row's arguments, opened. It names nothing of the program.
-/
import Derived.Test.YtbedbkifdhjdfaaDoorWords
import Derived.Deep.Fields
import Derived.ChangeArms
namespace Go.Proofs.YtbedbkifdhjdfaaDoor
open Go.ChangeShapes Go.WideShapes Go.RowKit Go.Deep

theorem open_struct_ints {H : Type} {enc : TypeId × Value → H} {P : Program} {w : World} {base : Nat} {spare : Nat → Bool} {held : Bool} {r : Reach} {b0 : Nat} {t : TypeId} {fs : Array Field} {v : Value} {d : DataW H} {p : List MemPlace}
    (hs : P.underlying t = some (.struct fs)) (hone : oneCellFields P fs = true) (hC : P.cellsOf t = fs.size) {e : TypeId} (hall : fs.all (fun f => f.type == e) = true) (he : P.underlying e = some (.int .i64))
    (hv : Value.okWide P w r b0 t v) (h : DataW.Trod enc P w base spare held t v d p) :
    ∃ xs : List Int, xs.length = fs.size ∧ v = .agg ((xs.map (Value.int .i64)).toArray) ∧ ∀ x ∈ xs, (Lit.int .i64 x).wf = true := by
  have hint : ∀ (j : Nat) (f : Field), fs[j]? = some f → P.underlying f.type = some (.int .i64) := fun j f hf => by
    obtain ⟨hj, hfj⟩ := Array.getElem?_eq_some_iff.1 hf
    have := (Array.all_eq_true.1 hall) j hj
    rw [hfj, beq_iff_eq] at this
    rw [this]
    exact he
  obtain ⟨cs, rfl, hsz⟩ := okWide_struct hs hv
  obtain ⟨fuel, hf⟩ := h
  obtain ⟨ys, n, _, _, hlen, hyl, hfl⟩ := DataW.trod_struct hs hf
  have hlen2 : cs.toList.length = fs.size := by rw [Array.length_toList, hsz, hC]
  have key : ∀ (j : Nat) (u : Value), cs.toList[j]? = some u → ∃ m : Int, u = .int .i64 m ∧ (Lit.int .i64 m).wf = true := fun j u hu => by
    have hj : j < fs.size := by have := (List.getElem?_eq_some_iff.1 hu).1; omega
    have hfj : fs[j]? = some fs[j] := Array.getElem?_eq_getElem hj
    obtain ⟨ho, hk⟩ := hone_of hone j _ hfj
    have h1 := hfl j _ hfj
    rw [ho, hk] at h1
    have hcells : (Value.agg cs).cells.toList = cs.toList := rfl
    rw [hcells] at h1
    have hone' : (cs.toList.drop j).take 1 = [u] := by
      have hjl : j < cs.toList.length := (List.getElem?_eq_some_iff.1 hu).1
      rw [List.drop_eq_getElem_cons hjl, (List.getElem?_eq_some_iff.1 hu).2]
      rfl
    rw [hone'] at h1
    have hy : ys[j]? = some (ys[j]'(by omega)) := List.getElem?_eq_getElem (by omega)
    rw [hy] at h1
    obtain ⟨m, hm, _, hw⟩ := DataW.trod_int (hint j _ hfj) h1
    simp only [List.cons.injEq, and_true] at hm
    exact ⟨m, hm, hw⟩
  refine ⟨cs.toList.map intOf, by rw [List.length_map]; exact hlen2, ?_, fun x hx => ?_⟩
  · congr 1
    apply Array.ext'
    rw [List.map_map]
    apply List.ext_getElem?
    intro j
    rw [List.getElem?_map]
    cases hj : cs.toList[j]? with
    | none => rfl
    | some u =>
      obtain ⟨m, rfl, _⟩ := key j u hj
      rfl
  · obtain ⟨u, hu, rfl⟩ := List.mem_map.1 hx
    obtain ⟨j, hj⟩ := List.getElem?_of_mem hu
    obtain ⟨m, rfl, hw⟩ := key j u hj
    exact hw

end Go.Proofs.YtbedbkifdhjdfaaDoor
