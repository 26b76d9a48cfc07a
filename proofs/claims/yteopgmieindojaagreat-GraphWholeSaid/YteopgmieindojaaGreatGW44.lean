/-
  Parts of a proof.
-/
import Derived.Test.YteopgmieindojaaGreatGW06
import Derived.Test.YteopgmieindojaaGreatGW32
namespace Go.Proofs.YteopgmieindojaaGreat
open Go.RowKit
theorem kind_more {s : SecD} (h : kindS s = true) : (s.type = 1 ∧ s.size = (s.data.length : Int) ∧ s.data.length ≤ 16384 ∨ s.type = 8 ∧ s.data.length = 0) ∧ (hasF s.flags 16 = true → s.rels = []) := by
 unfold kindS kindB at h
 obtain ⟨h1, h⟩ := cond_false_of h
 obtain ⟨h2, h⟩ := cond_false_of h
 obtain ⟨h3, h⟩ := cond_false_of h
 obtain ⟨h4, h⟩ := cond_false_of h
 have hty : s.type = 1 ∨ s.type = 8 := by simp at h4; omega
 refine ⟨?_, fun hm => ?_⟩
 ·rcases hty with e | e
  ·left
   simp [e] at h2
   exact ⟨e, by omega, by omega⟩
  ·right
   simp [e] at h3
   obtain ⟨⟨⟨⟨x1, _⟩, _⟩, _⟩, _⟩ := h3
   exact ⟨e, by rw [x1]; rfl⟩
 ·rw [hm] at h
  have h' : (bif hasF s.flags 1 || hasF s.flags 4 || decide (0 < (s.rels.length : Int)) then false else
   bif hasF s.flags 32 then (s.ent == 1) && (s.align == 1) && (((s.data.length : Int) == 0) || (s.data.getLast? == some 0)) else
   (s.ent == 4 || s.ent == 8 || s.ent == 16) && decide (s.align ≤ s.ent) && (s.size.tmod s.ent == 0)) = true := h
  obtain ⟨h5, _⟩ := cond_false_of h'
  simp only [Bool.or_eq_false_iff, decide_eq_false_iff_not] at h5
  exact List.eq_nil_of_length_eq_zero (by omega)
theorem secsG_of {w : World} {p : Option Addr} {l : List ObjD} (h : HasL 5 EObj w p l) (hm : ∀ o ∈ l, mayO o = true) : SecsG l := fun o ho s hs => by
 obtain ⟨i, hi⟩ := List.getElem?_of_mem ho
 obtain ⟨k, hk⟩ := List.getElem?_of_mem hs
 have h1 := hm o ho
 unfold mayO shapeB at h1
 simp only [Bool.and_eq_true] at h1
 have hsec := eachB_yes h1.1.1.1.2 hk
 unfold secOK at hsec
 obtain ⟨h2, _⟩ := cond_false_of hsec
 simp only [Bool.or_eq_false_iff, Bool.not_eq_false'] at h2
 obtain ⟨⟨_, hkind⟩, hrels⟩ := h2
 obtain ⟨h3, h4⟩ := kind_more hkind
 unfold relsB at hrels
 simp only [Bool.and_eq_true, decide_eq_true_eq] at hrels
 obtain ⟨b, off, v0, v1, v2, v4, _, _, _, _, _, _, hp⟩ := h i o hi
 obtain ⟨p0, c0, _, _, _, _, hq⟩ := hp.1
 obtain ⟨b2, off2, _, _, _, e2, _, e4, _, e6, _, _⟩ := hq k s hk
 refine ⟨kind_facts hkind, ⟨e2.2, e4.2, e6.2⟩, ?_, ?_, h4, by omega⟩
 ·rcases h3 with h | h
  ·exact .inl ⟨h.1, h.2.1⟩
  ·exact .inr h
 ·rcases h3 with h | h
  ·exact h.2.2
  ·rw [h.2]; omega
end Go.Proofs.YteopgmieindojaaGreat
