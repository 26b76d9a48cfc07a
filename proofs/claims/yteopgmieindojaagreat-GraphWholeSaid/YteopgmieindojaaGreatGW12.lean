/-
  Parts of a proof.
-/
import Derived.Test.YteopgmieindojaaGreatGW07
import Derived.Test.YteopgmieindojaaGreatGW08
import Derived.Test.YteopgmieindojaaGreatGW11
import Derived.Test.YteopgmieindojaaGreatGW01
namespace Go.Proofs.YteopgmieindojaaGreat
open Go.RowKit
def zeroF : SctF := fun _ _ _ => ⟨[], 0, 0, false⟩
def fstB (l : List ObjD) (D : List (List Bool)) (i k : Nat) (s : SecD) : Int := bif hasN D (i, k, s) then (firstB l D i k : Int) else 0
def splitF (l : List ObjD) (D : List (List Bool)) (a b : Nat) : SctF := fun i k s => if i < a ∨ i = a ∧ k < b then ⟨pcsAt D (i, k, s), fstB l D i k s, 0, false⟩ else ⟨[], 0, 0, false⟩
def grpAt (l : List ObjD) (a g : Nat) (ms : List Int) (i k : Nat) : Int := if i < a then groupB l i ((k : Int) + 1) else if i = a then (bif ms.contains ((k : Int) + 1) then ((allTo ObjD.groups l a).length : Int) + (g : Int) + 1 else groupTo l a (obAt l a) ((k : Int) + 1) g) else 0
def groupsF (l : List ObjD) (D : List (List Bool)) (a g : Nat) (ms : List Int) : SctF := fun i k s => ⟨pcsAt D (i, k, s), fstB l D i k s, grpAt l a g ms i k, false⟩
def namedF (l : List ObjD) (D : List (List Bool)) (a q : Nat) : SctF := fun i k s => ⟨pcsAt D (i, k, s), fstB l D i k s, groupB l i ((k : Int) + 1), (atTo ObjD.sig l a q).any (hitSig l D i ((k : Int) + 1))⟩
def knowF (l : List ObjD) (D : List (List Bool)) : SctF := fun i k s => ⟨pcsAt D (i, k, s), fstB l D i k s, groupB l i ((k : Int) + 1), namedB l D i ((k : Int) + 1)⟩
theorem obAt_eq {l : List ObjD} {i : Nat} {o : ObjD} (h : l[i]? = some o) : obAt l i = o := by unfold obAt; rw [h]; rfl
theorem splitF_start (l : List ObjD) (D : List (List Bool)) : splitF l D 0 0 = zeroF := by
 funext i k s
 unfold splitF zeroF
 rw [if_neg (by omega)]
theorem splitF_skip {l : List ObjD} {D : List (List Bool)} {a b : Nat} {o : ObjD} {s : SecD} (ho : l[a]? = some o) (hs : o.secs[b]? = some s) (h : hasN D (a, b, s) = false) : ∀ i k o' s', l[i]? = some o' → o'.secs[k]? = some s' → splitF l D a b i k s' = splitF l D a (b + 1) i k s' := fun i k o' s' ho' hs' => by
 unfold splitF
 by_cases h1 : i < a ∨ i = a ∧ k < b
 ·rw [if_pos h1, if_pos (by omega)]
 ·rw [if_neg h1]
  by_cases h2 : i = a ∧ k = b
  ·obtain ⟨rfl, rfl⟩ := h2
   rw [ho] at ho'
   cases ho'
   rw [hs] at hs'
   cases hs'
   rw [if_pos (by omega)]
   unfold pcsAt fstB
   rw [h]
   rfl
  ·rw [if_neg (by omega)]
theorem splitF_step {l : List ObjD} {D : List (List Bool)} {a b : Nat} {o : ObjD} {s : SecD} (ho : l[a]? = some o) (hs : o.secs[b]? = some s) (h : hasN D (a, b, s) = true) : ∀ i k o' s', l[i]? = some o' → o'.secs[k]? = some s' → updF (updF (splitF l D a b) a b ⟨piecesOf s, 0, 0, false⟩) a b ⟨piecesOf s, (firstB l D a b : Int), 0, false⟩ i k s' = splitF l D a (b + 1) i k s' := fun i k o' s' ho' hs' => by
 unfold updF splitF
 by_cases h2 : i = a ∧ k = b
 ·obtain ⟨rfl, rfl⟩ := h2
  rw [ho] at ho'
  cases ho'
  rw [hs] at hs'
  cases hs'
  rw [if_pos ⟨rfl, rfl⟩, if_pos (by omega)]
  unfold pcsAt fstB
  rw [h]
  rfl
 ·rw [if_neg h2, if_neg h2]
  by_cases h1 : i < a ∨ i = a ∧ k < b
  ·rw [if_pos h1, if_pos (by omega)]
  ·rw [if_neg h1, if_neg (by omega)]
theorem splitF_at (l : List ObjD) (D : List (List Bool)) (a b : Nat) (s : SecD) : splitF l D a b a b s = ⟨[], 0, 0, false⟩ := by unfold splitF; rw [if_neg (by omega)]
theorem splitF_next {l : List ObjD} {D : List (List Bool)} {a b : Nat} {o : ObjD} (ho : l[a]? = some o) (hb : o.secs.length ≤ b) : ∀ i k o' s', l[i]? = some o' → o'.secs[k]? = some s' → splitF l D a b i k s' = splitF l D (a + 1) 0 i k s' := fun i k o' s' ho' hs' => by
 unfold splitF
 by_cases h1 : i < a ∨ i = a ∧ k < b
 ·rw [if_pos h1, if_pos (by omega)]
 ·rw [if_neg h1, if_neg (fun h2 => ?_)]
  have h3 : i = a := by omega
  subst h3
  rw [ho] at ho'
  cases ho'
  have := (List.getElem?_eq_some_iff.1 hs').1
  omega
theorem first_zero (l : List ObjD) (D : List (List Bool)) : firstB l D 0 0 = 0 := by unfold firstB; rw [atTo_zero]; rfl
theorem first_step {l : List ObjD} {D : List (List Bool)} {a b : Nat} {o : ObjD} {s : SecD} (ho : l[a]? = some o) (hs : o.secs[b]? = some s) : firstB l D a (b + 1) = firstB l D a b + (pcsAt D (a, b, s)).length := by
 unfold firstB
 rw [atTo_step ho hs, List.flatMap_append]
 simp
theorem first_next {l : List ObjD} {D : List (List Bool)} {a b : Nat} {o : ObjD} (ho : l[a]? = some o) (hb : o.secs.length ≤ b) : firstB l D (a + 1) 0 = firstB l D a b := by
 unfold firstB
 rw [atTo_zero, atTo_end (f := ObjD.secs) ho hb]
theorem groupsF_start {l : List ObjD} {D : List (List Bool)} : ∀ i k o s, l[i]? = some o → o.secs[k]? = some s → splitF l D l.length 0 i k s = groupsF l D 0 0 [] i k s := fun i k o s ho hs => by
 have hi := (List.getElem?_eq_some_iff.1 ho).1
 unfold splitF groupsF grpAt
 rw [if_pos (by omega), if_neg (by omega)]
 split <;> rfl
theorem groupsF_step {l : List ObjD} {D : List (List Bool)} {a g j : Nat} {ms : List Int} {n : Nat} (hj : ms[j]? = some ((n : Int) + 1)) (s : SecD) : ∀ i k o' s', l[i]? = some o' → o'.secs[k]? = some s' → (i = a ∧ k = n → s' = s) → updF (groupsF l D a g (ms.take j)) a n ⟨pcsAt D (a, n, s), fstB l D a n s, ((allTo ObjD.groups l a).length : Int) + (g : Int) + 1, false⟩ i k s' = groupsF l D a g (ms.take (j + 1)) i k s' := fun i k o' s' _ _ he => by
 unfold updF groupsF
 have ht : ms.take (j + 1) = ms.take j ++ [(n : Int) + 1] := by rw [List.take_add_one, hj]; rfl
 by_cases h2 : i = a ∧ k = n
 ·rw [if_pos h2, he h2]
  obtain ⟨rfl, rfl⟩ := h2
  unfold grpAt
  rw [if_neg (by omega), if_pos rfl, ht]
  simp
 ·rw [if_neg h2]
  congr 1
  unfold grpAt
  by_cases h3 : i < a
  ·rw [if_pos h3, if_pos h3]
  ·rw [if_neg h3, if_neg h3]
   by_cases h4 : i = a
   ·subst h4
    rw [if_pos rfl, if_pos rfl, ht]
    have hk : ¬ (k : Int) = (n : Int) := by omega
    have : (ms.take j ++ [(n : Int) + 1]).contains ((k : Int) + 1) = (ms.take j).contains ((k : Int) + 1) := by simp; omega
    rw [this]
   ·rw [if_neg h4, if_neg h4]
theorem groupsF_group {l : List ObjD} {D : List (List Bool)} {a g : Nat} {o : ObjD} {gr : GroupD} (ho : l[a]? = some o) (hg : o.groups[g]? = some gr) : ∀ i k o' s', l[i]? = some o' → o'.secs[k]? = some s' → groupsF l D a g gr.members i k s' = groupsF l D a (g + 1) [] i k s' := fun i k o' s' _ _ => by
 unfold groupsF
 congr 1
 unfold grpAt
 by_cases h3 : i < a
 ·rw [if_pos h3, if_pos h3]
 ·rw [if_neg h3, if_neg h3]
  by_cases h4 : i = a
  ·subst h4
   rw [if_pos rfl, if_pos rfl, obAt_eq ho, group_step hg]
   rfl
  ·rw [if_neg h4, if_neg h4]
theorem groupsF_next {l : List ObjD} {D : List (List Bool)} {a g : Nat} {o : ObjD} (ho : l[a]? = some o) (hg : g = o.groups.length) : ∀ i k o' s', l[i]? = some o' → o'.secs[k]? = some s' → groupsF l D a g [] i k s' = groupsF l D (a + 1) 0 [] i k s' := fun i k o' s' _ _ => by
 unfold groupsF
 congr 1
 unfold grpAt
 by_cases h3 : i < a
 ·rw [if_pos h3, if_pos (by omega)]
 ·rw [if_neg h3]
  by_cases h4 : i = a
  ·subst h4
   rw [if_pos rfl, if_pos (by omega)]
   unfold groupB
   rw [obAt_eq ho, hg]
   rfl
  ·rw [if_neg h4, if_neg (by omega)]
   by_cases h5 : i = a + 1
   ·rw [if_pos h5]; rfl
   ·rw [if_neg h5]
theorem groupsF_end {l : List ObjD} {D : List (List Bool)} : ∀ i k o s, l[i]? = some o → o.secs[k]? = some s → groupsF l D l.length 0 [] i k s = namedF l D 0 0 i k s := fun i k o s ho hs => by
 have hi := (List.getElem?_eq_some_iff.1 ho).1
 unfold groupsF namedF grpAt
 rw [if_pos hi, atTo_zero]
 rfl
theorem groups_snoc {l : List ObjD} {a : Nat} {o : ObjD} (ho : l[a]? = some o) : (allTo ObjD.groups l (a + 1)).length = (allTo ObjD.groups l a).length + o.groups.length := by
 conv => lhs; unfold allTo
 rw [ho]
 simp [tagged]
theorem namedF_no {l : List ObjD} {D : List (List Bool)} {a q : Nat} {o : ObjD} {y : Int} (ho : l[a]? = some o) (hy : o.sig[q]? = some y) (h : (whereB l D a y).2 ≠ 0 ∨ (whereB l D a y).1.sec < 1) : ∀ i k o' s', l[i]? = some o' → o'.secs[k]? = some s' → namedF l D a q i k s' = namedF l D a (q + 1) i k s' := fun i k o' s' _ _ => by
 unfold namedF
 rw [atTo_step ho hy, List.any_append]
 have : hitSig l D i ((k : Int) + 1) (a, q, y) = false := by
  unfold hitSig
  rcases h with h | h
  ·rw [show ((whereB l D a y).2 == 0) = false by simpa using h]; rfl
  ·rw [show ((whereB l D a y).1.sec == (k : Int) + 1) = false by simp; omega]; simp
 simp [this]
theorem namedF_yes {l : List ObjD} {D : List (List Bool)} {a q pi pk : Nat} {o : ObjD} {y at_ : Int} {s : SecD} (ho : l[a]? = some o) (hy : o.sig[q]? = some y) (h0 : (whereB l D a y).2 = 0) (h1 : (whereB l D a y).1 = ⟨(pi : Int), (pk : Int) + 1, at_⟩) : ∀ i k o' s', l[i]? = some o' → o'.secs[k]? = some s' → (i = pi ∧ k = pk → s' = s) → updF (namedF l D a q) pi pk ⟨pcsAt D (pi, pk, s), fstB l D pi pk s, groupB l pi ((pk : Int) + 1), true⟩ i k s' = namedF l D a (q + 1) i k s' := fun i k o' s' _ _ he => by
 unfold updF namedF
 have hh : hitSig l D i ((k : Int) + 1) (a, q, y) = decide (i = pi ∧ k = pk) := by
  unfold hitSig
  rw [h0, h1]
  by_cases h2 : i = pi ∧ k = pk
  ·obtain ⟨rfl, rfl⟩ := h2; simp
  ·have : ¬ ((pk : Int) + 1 = (k : Int) + 1 ∧ (pi : Int) = (i : Int)) := by omega
   simp [h2]
   omega
 rw [atTo_step ho hy, List.any_append, List.any_cons, hh]
 by_cases h2 : i = pi ∧ k = pk
 ·rw [if_pos h2, he h2]
  obtain ⟨rfl, rfl⟩ := h2
  simp
 ·rw [if_neg h2]
  simp [h2]
theorem namedF_next {l : List ObjD} {D : List (List Bool)} {a q : Nat} {o : ObjD} (ho : l[a]? = some o) (hq : o.sig.length ≤ q) : namedF l D a q = namedF l D (a + 1) 0 := by
 funext i k s
 unfold namedF
 rw [atTo_zero, atTo_end (f := ObjD.sig) ho hq]
theorem namedF_end {l : List ObjD} {D : List (List Bool)} : namedF l D l.length 0 = knowF l D := by
 funext i k s
 unfold namedF knowF namedB
 rw [atTo_zero]
def knowS (l : List ObjD) (D : List (List Bool)) : List (List SctD) := l.mapIdx fun i o => o.secs.mapIdx (knowF l D i)
theorem knowS_len (l : List ObjD) (D : List (List Bool)) : (knowS l D).length = l.length := by simp [knowS]
theorem knowS_at {l : List ObjD} {D : List (List Bool)} {i k : Nat} {o : ObjD} {s : SecD} (ho : l[i]? = some o) (hs : o.secs[k]? = some s) : ∃ row, (knowS l D)[i]? = some row ∧ row[k]? = some (knowF l D i k s) ∧ row.length = o.secs.length := by
 refine ⟨o.secs.mapIdx (knowF l D i), ?_, ?_, by simp⟩
 ·unfold knowS
  rw [List.getElem?_mapIdx, ho]
  rfl
 ·rw [List.getElem?_mapIdx, hs]
  rfl
theorem first_few {l : List ObjD} {D : List (List Bool)} (hs : SecsG l) (hok : ∀ o ∈ l, OkD o) (i k : Nat) : firstB l D i k ≤ (i + 1) * 16384000 := by
 have := pieces_few (D := D) hs hok i k
 rwa [nodesOf_length] at this
theorem pcs_ok {l : List ObjD} {D : List (List Bool)} (hs : SecsG l) {i k : Nat} {o : ObjD} {s : SecD} (ho : l[i]? = some o) (hk : o.secs[k]? = some s) : PcsOK (pcsAt D (i, k, s)) s.size ∨ pcsAt D (i, k, s) = [] := by
 unfold pcsAt
 cases hasN D (i, k, s) with
 | false => exact .inr rfl
 | true =>
  have hf := (hs o (List.mem_of_getElem? ho) s (List.mem_of_getElem? hk)).facts
  have h1 := pieces_facts hf
  exact .inl ⟨h1.2.1, h1.1, hf.1.2, h1.2.2.1, pieces_some⟩
theorem knowS_ok {l : List ObjD} {D : List (List Bool)} (hs : SecsG l) (hok : ∀ o ∈ l, OkD o) (hlc : l.length ≤ 1000) : SctsOK l D (knowS l D) := fun i k o s ho hk => by
 obtain ⟨row, h1, h2, _⟩ := knowS_at (D := D) ho hk
 have hi := (List.getElem?_eq_some_iff.1 ho).1
 have hkl := (List.getElem?_eq_some_iff.1 hk).1
 have hfew := (hok o (List.mem_of_getElem? ho)).few.1
 have hff := first_few (D := D) hs hok i k
 have hfm : (i + 1) * 16384000 ≤ 1001 * 16384000 := Nat.mul_le_mul_right _ (by omega)
 have hpo : ∃ n, PcsOK (pcsAt D (i, k, s)) n := by
  rcases pcs_ok (D := D) hs ho hk with h | h
  ·exact ⟨_, h⟩
  ·refine ⟨0, ?_⟩
   rw [h]
   exact ⟨by simp, ⟨rfl, fun i p hp => by simp at hp⟩, by omega, fun p hp => by simp at hp, .inr fun p hp => by simp at hp⟩
 obtain ⟨n, hn⟩ := hpo
 refine ⟨row, knowF l D i k s, n, h1, h2, rfl, hn, ?_, fun hne => ?_, by omega⟩
 ·show 0 ≤ fstB l D i k s ∧ fstB l D i k s ≤ 1000000000000
  unfold fstB
  cases hasN D (i, k, s) <;> simp only [cond_true, cond_false] <;> omega
 ·show fstB l D i k s = _
  unfold fstB
  cases hq : hasN D (i, k, s) with
  | true => rfl
  | false =>
   refine absurd ?_ hne
   show pcsAt D (i, k, s) = []
   unfold pcsAt
   rw [hq]
   rfl
end Go.Proofs.YteopgmieindojaaGreat

namespace Go.Proofs.YteopgmieindojaaGreat
open Go.RowKit
theorem flat_at {α β : Type} {f : α → List β} : ∀ {xs : List α} {i : Nat} {y : β}, (xs.flatMap f)[i]? = some y → ∃ pre x post j, xs = pre ++ x :: post ∧ (f x)[j]? = some y ∧ i = (pre.flatMap f).length + j
 | [], i, y, h => by simp at h
 | x :: xs, i, y, h => by
  rw [List.flatMap_cons] at h
  by_cases hi : i < (f x).length
  ·rw [List.getElem?_append_left hi] at h
   exact ⟨[], x, xs, i, rfl, h, by simp⟩
  ·rw [List.getElem?_append_right (by omega)] at h
   obtain ⟨pre, x', post, j, e, h1, h2⟩ := flat_at h
   exact ⟨x :: pre, x', post, j, by rw [e]; rfl, h1, by rw [List.flatMap_cons, List.length_append]; omega⟩
theorem split_unique {α : Type} {x : α} : ∀ {A R pre post : List α}, x ∉ A → x ∉ R → pre ++ x :: post = A ++ x :: R → pre = A ∧ post = R
 | [], R, [], post, _, _, h => ⟨rfl, by simpa using h⟩
 | a :: A, R, [], post, hA, _, h => by
  simp only [List.nil_append, List.cons_append, List.cons.injEq] at h
  exact absurd (by rw [h.1]; simp) hA
 | [], R, p :: pre, post, _, hR, h => by
  simp only [List.nil_append, List.cons_append, List.cons.injEq] at h
  exact absurd (by rw [← h.2]; simp) hR
 | a :: A, R, p :: pre, post, hA, hR, h => by
  simp only [List.cons_append, List.cons.injEq] at h
  obtain ⟨e1, e2⟩ := split_unique (fun hm => hA (List.mem_cons_of_mem _ hm)) hR h.2
  exact ⟨by rw [h.1, e1], e2⟩
structure NodeAt (l : List ObjD) (D : List (List Bool)) (i : Nat) (y : NodeD) (a k j : Nat) (o : ObjD) (s : SecD) (p : PcD) : Prop where
 ho : l[a]? = some o
 hs : o.secs[k]? = some s
 has : hasN D (a, k, s) = true
 hp : (piecesOf s)[j]? = some p
 hy : y = mkN l D (a, k, s) p
 hi : i = firstB l D a k + j
 next : ∀ q, (piecesOf s)[j + 1]? = some q → (nodesOf l D (secsTo l))[i + 1]? = some (mkN l D (a, k, s) q)
 prev : ∀ q, 0 < j → (piecesOf s)[j - 1]? = some q → (nodesOf l D (secsTo l))[i - 1]? = some (mkN l D (a, k, s) q)
 first : j = 0 → i = 0 ∨ ∃ z, (nodesOf l D (secsTo l))[i - 1]? = some z ∧ (z.obj ≠ (a : Int) ∨ z.sec ≠ (k : Int) + 1)
 last : j + 1 = (piecesOf s).length → i + 1 = (nodesOf l D (secsTo l)).length ∨ ∃ z, (nodesOf l D (secsTo l))[i + 1]? = some z ∧ (z.obj ≠ (a : Int) ∨ z.sec ≠ (k : Int) + 1)
theorem secs_split {l : List ObjD} {D : List (List Bool)} {a k : Nat} {o : ObjD} {s : SecD} (ho : l[a]? = some o) (hs : o.secs[k]? = some s) : ∃ rest, secsTo l = atTo ObjD.secs l a k ++ (a, k, s) :: rest ∧ nodesOf l D (secsTo l) = nodesOf l D (atTo ObjD.secs l a k) ++ ((pcsAt D (a, k, s)).map (mkN l D (a, k, s)) ++ nodesOf l D rest) ∧
  (∀ y ∈ nodesOf l D (atTo ObjD.secs l a k), y.obj ≠ (a : Int) ∨ y.sec ≠ (k : Int) + 1) ∧ (∀ y ∈ nodesOf l D rest, y.obj ≠ (a : Int) ∨ y.sec ≠ (k : Int) + 1) ∧ (a, k, s) ∉ atTo ObjD.secs l a k ∧ (a, k, s) ∉ rest := by
 obtain ⟨rest, e, hr⟩ := allTo_split (f := ObjD.secs) ho hs (n := l.length) (List.getElem?_eq_some_iff.1 ho).1
 refine ⟨rest, e, ?_, fun y hy => ?_, fun y hy => ?_, fun hm => ?_, fun hm => ?_⟩
 ·unfold secsTo
  rw [e, nodesOf_append]
  congr 1
 ·obtain ⟨x, hx, p, _, rfl⟩ := nodesOf_mem hy
  have := atTo_le x hx
  show (x.1 : Int) ≠ a ∨ (x.2.1 : Int) + 1 ≠ (k : Int) + 1
  omega
 ·obtain ⟨x, hx, p, _, rfl⟩ := nodesOf_mem hy
  have := hr x hx
  show (x.1 : Int) ≠ a ∨ (x.2.1 : Int) + 1 ≠ (k : Int) + 1
  omega
 ·have := atTo_le _ hm
  simp only at this
  omega
 ·have := hr _ hm
  simp only at this
  omega
theorem pcsAt_has {D : List (List Bool)} {x : Sx} {j : Nat} {p : PcD} (h : (pcsAt D x)[j]? = some p) : hasN D x = true ∧ pcsAt D x = piecesOf x.2.2 := by
 unfold pcsAt at h ⊢
 cases hq : hasN D x with
 | false => rw [hq] at h; simp at h
 | true => exact ⟨rfl, rfl⟩
theorem node_at {l : List ObjD} {D : List (List Bool)} {i : Nat} {y : NodeD} (h : (nodesOf l D (secsTo l))[i]? = some y) : ∃ a k j o s p, NodeAt l D i y a k j o s p := by
 have h0 := h
 unfold nodesOf at h
 obtain ⟨pre, ⟨a, k, s⟩, post, j, e, hj, hi⟩ := flat_at h
 have hm : (a, k, s) ∈ secsTo l := by rw [e]; simp
 obtain ⟨_, o, ho, hs⟩ := allTo_mem.1 hm
 obtain ⟨rest, e1, e2, n1, n2, m1, m2⟩ := secs_split (D := D) ho hs
 obtain ⟨rfl, rfl⟩ := split_unique m1 m2 (e.symm.trans e1)
 rw [List.getElem?_map] at hj
 cases hp : (pcsAt D (a, k, s))[j]? with
 | none => rw [hp] at hj; cases hj
 | some p =>
  rw [hp] at hj
  cases hj
  obtain ⟨hh, hpc⟩ := pcsAt_has hp
  have hpc : pcsAt D (a, k, s) = piecesOf s := hpc
  have hi2 : i = firstB l D a k + j := by
   rw [hi]
   congr 1
   exact nodesOf_length l D _
  have hf : (nodesOf l D (atTo ObjD.secs l a k)).length = firstB l D a k := nodesOf_length _ _ _
  have hml : ((piecesOf s).map (mkN l D (a, k, s))).length = (piecesOf s).length := by simp
  rw [hpc] at hp e2
  have hjl := (List.getElem?_eq_some_iff.1 hp).1
  refine ⟨a, k, j, o, s, p, ho, hs, hh, hp, rfl, hi2, fun q hq => ?_, fun q h0 hq => ?_, fun h0 => ?_, fun hl => ?_⟩
  ·have hq1 := (List.getElem?_eq_some_iff.1 hq).1
   rw [e2, List.getElem?_append_right (by omega), List.getElem?_append_left (by omega), List.getElem?_map, show i + 1 - (nodesOf l D (atTo ObjD.secs l a k)).length = j + 1 by omega, hq]
   rfl
  ·rw [e2, List.getElem?_append_right (by omega), List.getElem?_append_left (by omega), List.getElem?_map, show i - 1 - (nodesOf l D (atTo ObjD.secs l a k)).length = j - 1 by omega, hq]
   rfl
  ·by_cases hz : firstB l D a k = 0
   ·left; omega
   ·right
    refine ⟨(nodesOf l D (atTo ObjD.secs l a k))[firstB l D a k - 1]'(by omega), ?_, n1 _ (List.getElem_mem _)⟩
    rw [e2, List.getElem?_append_left (by omega), List.getElem?_eq_getElem (by omega)]
    congr 2
    omega
  ·have hlen : (nodesOf l D (secsTo l)).length = firstB l D a k + ((piecesOf s).length + (nodesOf l D post).length) := by rw [e2, List.length_append, List.length_append, hf, hml]
   by_cases hz : (nodesOf l D post).length = 0
   ·left; omega
   ·right
    refine ⟨(nodesOf l D post)[0]'(by omega), ?_, n2 _ (List.getElem_mem _)⟩
    rw [e2, List.getElem?_append_right (by omega), List.getElem?_append_right (by omega), List.getElem?_eq_getElem (by omega)]
    congr 2
    omega
def ValsG (l : List ObjD) : Prop := ∀ o ∈ l, ∀ y ∈ o.syms, 0 ≤ y.value
theorem ownPl_pos {D : List (List Bool)} {i : Nat} {y : SymD} (h : 0 ≤ y.value) : 0 ≤ (ownPl D i y).1.at_ := by
 unfold ownPl
 cases decide (y.sec < 1) with
 | true => exact h
 | false =>
  cases (drAt D i)[(y.sec - 1).toNat]?.getD false with
  | true => exact Int.le_refl 0
  | false => exact h
theorem where_pos {l : List ObjD} {D : List (List Bool)} {o s : Int} (hv : ValsG l) : 0 ≤ (whereB l D o s).1.at_ := by
 have hown : ∀ (i k : Nat) (y : SymD), symAt2 l i k = some y → ∀ j, 0 ≤ (ownPl D j y).1.at_ := fun i k y h j => by
  unfold symAt2 at h
  cases hq : l[i]? with
  | none => rw [hq] at h; cases h
  | some ob =>
   rw [hq] at h
   exact ownPl_pos (hv ob (List.mem_of_getElem? hq) y (List.mem_of_getElem? h))
 unfold whereB
 split
 ·exact Int.le_refl 0
 ·cases hx : symAt2 l o.toNat s.toNat with
  | none => exact Int.le_refl 0
  | some x =>
   show 0 ≤ (whereIn l D o.toNat x).1.at_
   unfold whereIn
   cases (x.bind == 0) with
   | true => exact hown _ _ _ hx _
   | false =>
    simp only [cond_false]
    cases findIn (allTo ObjD.syms l l.length) D x.name with
    | none => cases (x.bind == 2) <;> exact Int.le_refl 0
    | some d =>
     simp only
     cases hq : symAt2 l d.obj d.sym with
     | none => exact Int.le_refl 0
     | some y => exact hown _ _ _ hq _
theorem inStep_in {l : List PcD} {at_ : Int} : ∀ k, 0 ≤ inStep l at_ k → ∃ (i : Nat) (p : PcD), inStep l at_ k = (i : Int) ∧ l[i]? = some p ∧ p.at_ ≤ at_ ∧ at_ ≤ p.at_ + p.size
 | 0, h => by simp [inStep] at h
 | k + 1, h => by
  unfold inStep at h ⊢
  cases hq : l[k]? with
  | none => rw [hq] at h; exact inStep_in k h
  | some p =>
   rw [hq] at h
   simp only at h ⊢
   cases hh : inB2 l.length at_ k p with
   | true =>
    refine ⟨k, p, rfl, hq, ?_⟩
    unfold inB2 at hh
    simp only [Bool.and_eq_true, Bool.or_eq_true, decide_eq_true_eq, beq_iff_eq] at hh
    omega
   | false => rw [hh] at h; exact inStep_in k h
theorem findB_node {l : List ObjD} {D : List (List Bool)} {p : PlaceD} {t : Int × Int} (h : findB l D p = some t) : ∃ (i : Nat) (y : NodeD), t.1 = (i : Int) ∧ (nodesOf l D (secsTo l))[i]? = some y ∧ 0 ≤ t.2 ∧ t.2 ≤ y.size := by
 unfold findB at h
 split at h
 ·cases h
 ·rename_i hsec
  cases hs : (obAt l p.obj.toNat).secs[(p.sec - 1).toNat]? with
  | none => rw [hs] at h; cases h
  | some s =>
   rw [hs] at h
   simp only at h
   have ho : l[p.obj.toNat]? = some (obAt l p.obj.toNat) := by
    unfold obAt at hs ⊢
    cases hq : l[p.obj.toNat]? with
    | none => rw [hq] at hs; simp at hs
    | some o => rfl
   obtain ⟨rest, e1, e2, n1, n2, m1, m2⟩ := secs_split (D := D) ho hs
   unfold findPc at h
   split at h
   ·cases h
   ·rename_i hin
    obtain ⟨j, q, hj, hq, hq1, hq2⟩ := inStep_in (l := pcsAt D (p.obj.toNat, (p.sec - 1).toNat, s)) (at_ := p.at_) (pcsAt D (p.obj.toNat, (p.sec - 1).toNat, s)).length (by unfold inP at hin; omega)
    have hj2 : inP (pcsAt D (p.obj.toNat, (p.sec - 1).toNat, s)) p.at_ = (j : Int) := hj
    rw [hj2, Int.toNat_natCast, hq] at h
    cases h
    have hf : (nodesOf l D (atTo ObjD.secs l p.obj.toNat (p.sec - 1).toNat)).length = firstB l D p.obj.toNat (p.sec - 1).toNat := nodesOf_length _ _ _
    have hjl := (List.getElem?_eq_some_iff.1 hq).1
    refine ⟨firstB l D p.obj.toNat (p.sec - 1).toNat + j, mkN l D (p.obj.toNat, (p.sec - 1).toNat, s) q, by simp, ?_, by show 0 ≤ p.at_ - q.at_; omega, by show p.at_ - q.at_ ≤ q.size; omega⟩
    rw [e2, List.getElem?_append_right (by omega), List.getElem?_append_left (by rw [List.length_map]; omega), List.getElem?_map, show firstB l D p.obj.toNat (p.sec - 1).toNat + j - (nodesOf l D (atTo ObjD.secs l p.obj.toNat (p.sec - 1).toNat)).length = j by omega, hq]
    rfl
theorem edge_good {l : List ObjD} {D : List (List Bool)} {i : Nat} {r : RelD} (hv : ValsG l) (h : (edgeB l D i r).2 = 0) : (edgeB l D i r).1.off = r.off ∧ (edgeB l D i r).1.type = r.type ∧ (edgeB l D i r).1.add = r.add ∧
  ((edgeB l D i r).1.to_ = -1 ∧ 0 ≤ (edgeB l D i r).1.at_ ∨ ∃ (t : Nat) (y : NodeD), (edgeB l D i r).1.to_ = (t : Int) ∧ (nodesOf l D (secsTo l))[t]? = some y ∧ 0 ≤ (edgeB l D i r).1.at_ ∧ (edgeB l D i r).1.at_ ≤ y.size) := by
 have hp := where_pos (D := D) (o := i) (s := r.sym) hv
 unfold edgeB at h ⊢
 by_cases h1 : (whereB l D i r.sym).2 ≠ 0
 ·rw [if_pos h1] at h
  exact absurd h h1
 ·rw [if_neg h1] at h ⊢
  by_cases h2 : (whereB l D i r.sym).1.sec < 1
  ·rw [if_pos h2]
   exact ⟨rfl, rfl, rfl, .inl ⟨rfl, hp⟩⟩
  ·rw [if_neg h2] at h ⊢
   cases hf : findB l D (whereB l D i r.sym).1 with
   | none => rw [hf] at h; simp at h
   | some t =>
    obtain ⟨n, y, e1, e2, e3, e4⟩ := findB_node hf
    exact ⟨rfl, rfl, rfl, .inr ⟨n, y, e1, e2, e3, e4⟩⟩
theorem edges_good {l : List ObjD} {D : List (List Bool)} (he : errB l D = 0) {i a k j : Nat} {y : NodeD} {o : ObjD} {s : SecD} {p : PcD} (h : NodeAt l D i y a k j o s p) : ∀ r ∈ relsN s, (edgeB l D a r).2 = 0 := fun r hr => by
 refine firstErr_zero he _ (List.mem_flatMap.2 ⟨(a, k, s), allTo_mem.2 ⟨(List.getElem?_eq_some_iff.1 h.ho).1, o, h.ho, h.hs⟩, ?_⟩)
 unfold errsN codesN
 refine List.mem_flatMap.2 ⟨p, ?_, List.mem_map.2 ⟨r, hr, rfl⟩⟩
 unfold pcsAt
 rw [h.has]
 exact List.mem_of_getElem? h.hp
theorem names_good {l : List ObjD} {D : List (List Bool)} {defs : List DefD} : ∀ m ∈ namesB l D defs, ∃ (i : Nat) (y : NodeD), m.to_ = (i : Int) ∧ (nodesOf l D (secsTo l))[i]? = some y ∧ 0 ≤ m.at_ ∧ m.at_ ≤ y.size := fun m hm => by
 unfold namesB at hm
 obtain ⟨d, _, hd⟩ := List.mem_filterMap.1 hm
 unfold gnameB at hd
 split at hd
 ·cases hd
 ·cases hf : findB l D (whereB l D d.obj d.sym).1 with
  | none => rw [hf] at hd; cases hd
  | some t =>
   rw [hf] at hd
   cases hd
   exact findB_node hf
theorem names_sorted {l : List ObjD} {D : List (List Bool)} {defs : List DefD} (h : DSorted defs) : (namesB l D defs).Pairwise fun a b => sLt a.name b.name = true := by
 unfold namesB
 rw [List.pairwise_filterMap]
 refine h.imp fun {a b} hab x hx y hy => ?_
 have hn : ∀ (d : DefD) (m : NmD), gnameB l D d = some m → m.name = d.name := fun d m hd => by
  unfold gnameB at hd
  split at hd
  ·cases hd
  ·cases hf : findB l D (whereB l D d.obj d.sym).1 with
   | none => rw [hf] at hd; cases hd
   | some t => rw [hf] at hd; cases hd; rfl
 rw [hn a x hx, hn b y hy]
 exact hab
theorem piece_at {s : SecD} (h : SecFacts s) {j : Nat} {p : PcD} (hp : (piecesOf s)[j]? = some p) : (p.at_ = 0 ↔ j = 0) ∧ (p.at_ + p.size = s.size ↔ j + 1 = (piecesOf s).length) ∧ (0 ≤ p.at_ ∧ 0 ≤ p.size ∧ p.at_ + p.size ≤ s.size) ∧ ∀ q, 0 < j → (piecesOf s)[j - 1]? = some q → p.at_ = q.at_ + q.size := by
 obtain ⟨⟨hc1, hc2⟩, _, hb, _⟩ := pieces_facts h
 have hjl := (List.getElem?_eq_some_iff.1 hp).1
 have hpos : ∀ a b, a ≤ b → b ≤ (piecesOf s).length → endOf ((piecesOf s).take a) ≤ endOf ((piecesOf s).take b) ∧ ((piecesOf s).length ≠ 1 → a < b → endOf ((piecesOf s).take a) < endOf ((piecesOf s).take b)) := fun a b hab hbl => by
  induction b with
  | zero =>
   obtain rfl : a = 0 := by omega
   exact ⟨Int.le_refl _, fun _ h => by omega⟩
  | succ b ih =>
   obtain ⟨q, hq⟩ : ∃ q, (piecesOf s)[b]? = some q := ⟨_, List.getElem?_eq_getElem (by omega)⟩
   have e := endOf_take hq
   have hq0 := (hc2 b q hq).2
   by_cases hb2 : a = b + 1
   ·rw [hb2]; exact ⟨Int.le_refl _, fun _ h => by omega⟩
   ·have ih := ih (by omega) (by omega)
    refine ⟨by omega, fun hne _ => ?_⟩
    rcases pieces_some (s := s) with h1 | h1
    ·exact absurd h1 hne
    ·have := h1 q (List.mem_of_getElem? hq)
     omega
 have hpa := (hc2 j p hp).1
 have ej := endOf_take hp
 have e0 : endOf ((piecesOf s).take 0) = 0 := rfl
 have eN : endOf ((piecesOf s).take (piecesOf s).length) = s.size := by rw [List.take_length]; exact hc1
 refine ⟨⟨fun h0 => ?_, fun h0 => ?_⟩, ⟨fun h0 => ?_, fun h0 => ?_⟩, hb p (List.mem_of_getElem? hp), fun q hq0 hq => ?_⟩
 ·by_cases hj : j = 0
  ·exact hj
  ·have := (hpos 0 j (by omega) (by omega)).2 (by omega) (by omega)
   omega
 ·subst h0; omega
 ·by_cases hj : j + 1 = (piecesOf s).length
  ·exact hj
  ·have := (hpos (j + 1) (piecesOf s).length (by omega) (Nat.le_refl _)).2 (by omega) (by omega)
   omega
 ·rw [← h0] at eN; omega
 ·have e1 := endOf_take hq
  have e2 := (hc2 (j - 1) q hq).1
  rw [show j - 1 + 1 = j by omega] at e1
  omega
end Go.Proofs.YteopgmieindojaaGreat

namespace Go.Proofs.YteopgmieindojaaGreat
open Go.RowKit
structure Fine (N : List NodeD) (i : Nat) (y : NodeD) (a k : Nat) (s : SecD) : Prop where
 obj : y.obj = (a : Int)
 sec : y.sec = (k : Int) + 1
 name : y.name = s.name
 flags : y.flags = s.flags
 alloc : hasO s.flags 2 = true
 pos : 0 ≤ y.pos ∧ 0 ≤ y.size ∧ y.pos + y.size ≤ s.size ∧ s.size ≤ 2147483647
 merge : hasF s.flags 16 = true → y.unique = false ∧ y.edges = []
 rels : hasF s.flags 16 = false → y.edges.length = s.rels.length
 data : s.type = 1 ∧ y.data = win s.data y.pos.toNat y.size.toNat ∧ s.size = (s.data.length : Int) ∨ s.type = 8 ∧ y.data = []
 edge : ∀ (j : Nat) (e : EdgeD), y.edges[j]? = some e → ∃ r, s.rels[j]? = some r ∧ e.off = r.off ∧ e.type = r.type ∧ e.add = r.add ∧ (e.to_ = -1 ∧ 0 ≤ e.at_ ∨ ∃ (t : Nat) (z : NodeD), e.to_ = (t : Int) ∧ N[t]? = some z ∧ 0 ≤ e.at_ ∧ e.at_ ≤ z.size)
 first : ∀ z, N[i - 1]? = some z → (y.pos = 0 ↔ i = 0 ∨ z.obj ≠ y.obj ∨ z.sec ≠ y.sec) ∧ (y.pos ≠ 0 → y.pos = z.pos + z.size)
 last : ∀ z, N[min (i + 1) (N.length - 1)]? = some z → (y.pos + y.size = s.size ↔ i + 1 = N.length ∨ z.obj ≠ y.obj ∨ z.sec ≠ y.sec)
def NmFine (N : List NodeD) (m : NmD) : Prop := ∃ (t : Nat) (z : NodeD), m.to_ = (t : Int) ∧ N[t]? = some z ∧ 0 ≤ m.at_ ∧ m.at_ ≤ z.size
structure GFine (l : List ObjD) (g : GraphD) : Prop where
 node : ∀ (i : Nat) y, g.nodes[i]? = some y → ∃ a k o s, l[a]? = some o ∧ o.secs[k]? = some s ∧ Fine g.nodes i y a k s
 names : ∀ m ∈ g.names, NmFine g.nodes m
 entry : NmFine g.nodes ⟨⟨#[]⟩, g.to_, g.at_⟩
 sorted : g.names.Pairwise fun a b => sLt a.name b.name = true
 few : g.names.length ≤ 100000
structure GCtx (w4 : World) (l : List ObjD) (g : GraphD) (p p0 p3 : Option Addr) (g3 c0 c3 : Nat) : Prop where
 g0 : w4.cell? ⟨g3, 0, none⟩ = some (.slice p0 g.nodes.length c0)
 g1 : w4.cell? ⟨g3, 1, none⟩ = some (.int .i64 g.to_)
 g2 : w4.cell? ⟨g3, 2, none⟩ = some (.int .i64 g.at_)
 gn : w4.cell? ⟨g3, 3, none⟩ = some (.slice p3 g.names.length c3)
 nodes : HasL 14 ENode w4 p0 g.nodes
 objs : HasL 5 EObj w4 p l
 nms : IsL 3 ENm w4 (.slice p3 g.names.length c3) g.names
 fine : GFine l g
 len : g.nodes.length ≤ maxLen
 lenl : l.length ≤ maxLen
def nodeA (y : NodeD) (pd : Option Addr) (cd : Nat) (pe : Option Addr) (ce : Nat) : Array Value := #[.int .i64 y.obj, .int .i64 y.sec, .int .i64 y.pos, .string y.name, .int .i64 y.type, .int .i64 y.flags, .int .i64 y.align, .int .i64 y.ent, .int .i64 y.size, .slice pd y.data.length cd, .slice pe y.edges.length ce, .bool y.unique, .int .i64 y.group, .int .i64 y.link]
def secA (s : SecD) (qd : Option Addr) (cq : Nat) (qr : Option Addr) (cr : Nat) : Array Value := #[.string s.name, .int .i64 s.type, .int .i64 s.flags, .int .i64 s.align, .int .i64 s.ent, .int .i64 s.link, .int .i64 s.size, .slice qd s.data.length cq, .slice qr s.rels.length cr]
end Go.Proofs.YteopgmieindojaaGreat

namespace Go.Proofs.YteopgmieindojaaGreat
open Go.RowKit
theorem then_normal {next : Act → World → Prop} {Q : Exit → Act → World → Prop} {a : Act} {w : World} (h : next a w) : Exit.then next Q .normal a w := h
theorem in_normal {Q : Exit → Act → World → Prop} {id : Nat} {a : Act} {w : World} (h : Q .normal a w) : Exit.inBlock id Q .normal a w := h
theorem node_cell {w : World} {gx : Nat} {cs : Array Value} {T : TypeId} (hX : w.heap[gx]? = some (.cells cs T (0, 0))) (j : Nat) (v : Value) (h : cs[j]? = some v) : w.cell? ⟨gx, j, none⟩ = some v := (cell_of_row w gx j _ _ (0, 0) hX).trans h
theorem block_later {w w' : World} {gx : Nat} {o : Obj} (hb : Below w.heap.size w w') (hX : w.heap[gx]? = some o) : w'.heap[gx]? = some o := (hb.block gx (Array.getElem?_eq_some_iff.1 hX).1).trans hX
set_option maxRecDepth 1000000 in
set_option maxHeartbeats 8000000 in
theorem t30 {w4 : World} {l : List ObjD} {g : GraphD} {p p0 p3 : Option Addr} {g3 c0 c3 : Nat} (C : GCtx w4 l g p p0 p3 g3 c0 c3) {w : World} (hb : Below w4.heap.size w4 w) {y : NodeD} {s : SecD} {gx g10 : Nat} {pd pe qd qr : Option Addr} {cd ce cq cr : Nat}
  (hX : w.heap[gx]? = some (.cells (nodeA y pd cd pe ce) 86 (0, 0))) (hS : w.heap[g10]? = some (.cells (secA s qd cq qr cr) 89 (0, 0)))
  (hE : HasL 5 EEdge w pe y.edges) (hR : HasL 4 ERel w qr s.rels) (_hcm : y.edges.length ≤ maxLen) (hN : 0 < g.nodes.length)
  (hed : ∀ (j : Nat) (e : EdgeD), y.edges[j]? = some e → ∃ r, s.rels[j]? = some r ∧ e.off = r.off ∧ e.type = r.type ∧ e.add = r.add ∧ (e.to_ = -1 ∧ 0 ≤ e.at_ ∨ ∃ (t : Nat) (z : NodeD), e.to_ = (t : Int) ∧ g.nodes[t]? = some z ∧ 0 ≤ e.at_ ∧ e.at_ ≤ z.size))
  {j : Nat} (hj : j < y.edges.length) (Q : Exit → Act → World → Prop) (v0 v1 v2 v3 v4 v5 v7 v8 v11 v12 v13 v15 v16 v17 : Value) (R : List Value) (hRl : R.length = 442)
  (hQ : ∀ (v15 : Value) (R' : List Value) (w' : World), R'.length = 442 → Below w.heap.size w w' → Q .normal ⟨(List.toArray (v0 :: v1 :: v2 :: v3 :: v4 :: v5 :: .pointer (some ⟨g3, 0, none⟩) :: v7 :: v8 :: .pointer (some ⟨gx, 0, none⟩) :: .pointer (some ⟨g10, 0, none⟩) :: v11 :: v12 :: v13 :: .int .i64 (j : Int) :: v15 :: v16 :: v17 :: R')), []⟩ w') :
  (wTail 30).wp Tryz.prog Q ⟨(List.toArray (v0 :: v1 :: v2 :: v3 :: v4 :: v5 :: .pointer (some ⟨g3, 0, none⟩) :: v7 :: v8 :: .pointer (some ⟨gx, 0, none⟩) :: .pointer (some ⟨g10, 0, none⟩) :: v11 :: v12 :: v13 :: .int .i64 (j : Int) :: v15 :: v16 :: v17 :: R)), []⟩ w := by
 obtain ⟨be, oe, e, rfl, he, ⟨e0, _⟩, ⟨e1, _⟩, ⟨e2, _⟩, ⟨e3, _⟩, ⟨e4, _⟩⟩ := hE.at_ hj
 obtain ⟨r, hr, ho, ht, ha, hto⟩ := hed j e he
 have hrl := (List.getElem?_eq_some_iff.1 hr).1
 obtain ⟨br, orr, r', rfl, hr', ⟨r0, _⟩, ⟨r1, _⟩, _, ⟨r3, _⟩⟩ := hR.at_ hrl
 obtain rfl : r' = r := by rw [hr] at hr'; cases hr'; rfl
 rw [tail30]
 refine wp_seq (rg30 _ _ _ _ _ _ _ _ _ _ _ _ _ _ _ _ _ _ _ _ _ _ _ _ _ _ _ _ _ _ (hRl) (node_cell hX 10 _ rfl) (by omega) (e0) (e1) (e2) (e3) (e4) ?_)
 intro R1 h1
 refine then_normal ?_
 have hA := heap_alloc_new w (.cells #[.int .i64 e.off, .int .i64 e.type, .int .i64 e.add, .int .i64 e.to_, .int .i64 e.at_] 92)
 have hb1 : Below w.heap.size w (w.alloc (.cells #[.int .i64 e.off, .int .i64 e.type, .int .i64 e.add, .int .i64 e.to_, .int .i64 e.at_] 92)) := (Below.refl _ w).alloc (Nat.le_refl _) _
 generalize w.alloc (.cells #[.int .i64 e.off, .int .i64 e.type, .int .i64 e.add, .int .i64 e.to_, .int .i64 e.at_] 92) = w1 at *
 have hb41 := hb.trans (hb1.mono hb.size)
 have h0 : -1 ≤ e.to_ ∧ e.to_ < (g.nodes.length : Int) ∧ 0 ≤ e.at_ := by
  rcases hto with ⟨h, h'⟩ | ⟨t, z, h, hz, h', _⟩
  ·omega
  ·have := (List.getElem?_eq_some_iff.1 hz).1
   omega
 rw [tail31, open442 R1 h1]
 refine wp_seq (wp_seq (reg31 _ _ _ _ _ _ _ _ _ _ _ _ _ _ _ _ _ _ _ _ _ _ _ _ _ _ _ _ _ _ _ _ _ _ _ _ _ _ _ _ _ _ _ _ _ _ _ _ _ _ _ _ _ _ _ _ _ _ _ _ _ _ _ _ _ _ _ _ _ _ _ _ _ _ _ _ _ _ _ _ _ _ _ _ _ _ _ _ _ _ _ _ _ _ _ _ _ _ _ _ _ _ _ _ _ _ _ _ _ _ _ _ _ _ _ _ _ _ _ _ _ _ _ _ _ _ _ _ _ _ _ _ _ _ _ _ _ _ _ _ _ _ _ _ _ _ _ _ _ _ _ _ _ _ _ _ _ _ _ _ _ _ _ _ _ _ _ _ _ _ _ _ _ _ _ _ _ _ _ _ _ _ _ _ _ _ _ _ _ _ _ _ _ _ _ _ _ _ _ _ _ _ _ _ _ _ _ _ _ _ _ _ _ _ _ _ _ _ _ _ _ _ _ _ _ _ _ _ _ _ _ _ _ _ _ _ _ _ _ _ _ _ _ _ _ _ _ _ _ _ _ _ _ _ _ _ _ _ _ _ _ _ _ _ _ _ _ _ _ _ _ _ _ _ _ _ _ _ _ _ _ _ _ _ _ _ _ _ _ _ _ _ _ _ _ _ _ _ _ _ _ _ _ _ _ _ _ _ _ _ _ _ _ _ _ _ _ _ _ _ _ _ _ _ _ _ _ _ _ _ _ _ _ _ _ _ _ _ _ _ _ _ _ _ _ _ _ _ _ _ _ _ _ _ _ _ _ _ _ _ _ _ _ _ _ _ _ _ _ _ _ _ _ _ _ _ _ _ _ _ _ _ _ _ _ _ _ _ _ _ _ _ _ _ _ _ _ _ _ _ _ _ _ _ _ _ _ _ _ _ _ _ _ _ _ _ _ _ _ _ _ _ _ _ _ _ _ _ _ _ _ _ _ _ _ _ _ _ _ _ _ _ _ _ _ _ _ _ _ _ _ _ _ _ _ _ _ _ _ _ _ _ _ _ _ _ _ _ _ _ _ _ _ _ (cell_later hb41 C.g0) (cell_later hb1 (node_cell hS 8 _ rfl)) (node_cell hA 0 _ rfl) (node_cell hA 1 _ rfl) (node_cell hA 2 _ rfl) (node_cell hA 3 _ rfl) (node_cell hA 4 _ rfl) (by rw [ho]; exact cell_later hb1 r0) (by rw [ht]; exact cell_later hb1 r1) (by rw [ha]; exact cell_later hb1 r3) (by omega) (h0.1) (h0.2.1) (h0.2.2) ?_))
 intros
 rename_i n1
 refine then_normal (wp_cond_false (by kernel_rfl) (wp_skip (then_normal ?_)))
 refine again (by kernel_rfl) ?_
 intro R2 h2
 have hb2 : Below w1.heap.size w1 (w1.drewN n1) := below_drewN (Below.refl _ w1) n1
 have hb42 := hb41.trans (hb2.mono hb41.size)
 have hb02 := hb1.trans (hb2.mono hb1.size)
 generalize w1.drewN n1 = w2 at *
 have hfin : ∀ (t : Nat) (zs : Int) (b off : Nat), p0 = some ⟨b, off, none⟩ → (e.to_ = -1 ∨ e.to_ = (t : Int) ∧ (t : Int) < (g.nodes.length : Int) ∧ w2.cell? ⟨b, off + t * 14 + 8, none⟩ = some (.int .i64 zs) ∧ 0 ≤ e.at_ ∧ e.at_ ≤ zs) → (wTail 33).wp Tryz.prog Q ⟨(List.toArray (v0 :: v1 :: v2 :: v3 :: v4 :: v5 :: .pointer (some ⟨g3, 0, none⟩) :: v7 :: v8 :: .pointer (some ⟨gx, 0, none⟩) :: .pointer (some ⟨g10, 0, none⟩) :: v11 :: v12 :: v13 :: .int .i64 (j : Int) :: .pointer (some ⟨w.heap.size, 0, none⟩) :: v16 :: v17 :: R2)), []⟩ w2 := by
  intro t zs b off hp hh
  subst hp
  rw [tail33, open442 R2 h2]
  refine wp_seq (reg33 _ _ _ _ _ _ _ _ _ _ _ _ _ _ _ _ _ _ _ _ _ _ _ _ _ _ _ _ _ _ _ _ _ _ _ _ _ _ _ _ _ _ _ _ _ _ _ _ _ _ _ _ _ _ _ _ _ _ _ _ _ _ _ _ _ _ _ _ _ _ _ _ _ _ _ _ _ _ _ _ _ _ _ _ _ _ _ _ _ _ _ _ _ _ _ _ _ _ _ _ _ _ _ _ _ _ _ _ _ _ _ _ _ _ _ _ _ _ _ _ _ _ _ _ _ _ _ _ _ _ _ _ _ _ _ _ _ _ _ _ _ _ _ _ _ _ _ _ _ _ _ _ _ _ _ _ _ _ _ _ _ _ _ _ _ _ _ _ _ _ _ _ _ _ _ _ _ _ _ _ _ _ _ _ _ _ _ _ _ _ _ _ _ _ _ _ _ _ _ _ _ _ _ _ _ _ _ _ _ _ _ _ _ _ _ _ _ _ _ _ _ _ _ _ _ _ _ _ _ _ _ _ _ _ _ _ _ _ _ _ _ _ _ _ _ _ _ _ _ _ _ _ _ _ _ _ _ _ _ _ _ _ _ _ _ _ _ _ _ _ _ _ _ _ _ _ _ _ _ _ _ _ _ _ _ _ _ _ _ _ _ _ _ _ _ _ _ _ _ _ _ _ _ _ _ _ _ _ _ _ _ _ _ _ _ _ _ _ _ _ _ _ _ _ _ _ _ _ _ _ _ _ _ _ _ _ _ _ _ _ _ _ _ _ _ _ _ _ _ _ _ _ _ _ _ _ _ _ _ _ _ _ _ _ _ _ _ _ _ _ _ _ _ _ _ _ _ _ _ _ _ _ _ _ _ _ _ _ _ _ _ _ _ _ _ _ _ _ _ _ _ _ _ _ _ _ _ _ _ _ _ _ _ _ _ _ _ _ _ _ _ _ _ _ _ _ _ _ _ _ _ _ _ _ _ _ _ _ _ _ _ _ _ _ _ _ _ _ _ _ _ _ _ _ _ _ _ _ _ _ _ _ _ _ _ _ _ _ _ _ (cell_later hb42 C.g0) (cell_later hb2 (node_cell hA 3 _ rfl)) (cell_later hb2 (node_cell hA 4 _ rfl)) (hh) ?_)
  intros
  rename_i n2
  refine then_normal (wp_cond_false (by kernel_rfl) (wp_skip ?_))
  exact hQ _ _ _ (by kernel_rfl) (below_drewN hb02 n2)
 obtain ⟨b, off, z0, hp, _⟩ := C.nodes.at_ hN
 rcases hto with ⟨h, h'⟩ | ⟨t, z, h, hz, h', h''⟩
 ·exact hfin 0 0 b off hp (.inl h)
 ·have htl := (List.getElem?_eq_some_iff.1 hz).1
  obtain ⟨b', off', z', hp', hz', _, _, _, _, _, _, _, _, ⟨E8, _⟩, _⟩ := C.nodes.at_ htl
  rw [hz] at hz'
  cases hz'
  rw [hp] at hp'
  cases hp'
  exact hfin t z.size b off hp (.inr ⟨h, by omega, cell_later hb42 E8, h', h''⟩)
set_option maxRecDepth 1000000 in
set_option maxHeartbeats 8000000 in
theorem t27 {w4 : World} {l : List ObjD} {g : GraphD} {p p0 p3 : Option Addr} {g3 c0 c3 : Nat} (C : GCtx w4 l g p p0 p3 g3 c0 c3) {w : World} (hb : Below w4.heap.size w4 w) {y : NodeD} {s : SecD} {gx g10 : Nat} {pd pe qd qr : Option Addr} {cd ce cq cr : Nat}
  (hX : w.heap[gx]? = some (.cells (nodeA y pd cd pe ce) 86 (0, 0))) (hS : w.heap[g10]? = some (.cells (secA s qd cq qr cr) 89 (0, 0)))
  (hE : HasL 5 EEdge w pe y.edges) (hR : HasL 4 ERel w qr s.rels) (_hcm : y.edges.length ≤ maxLen) (hN : 0 < g.nodes.length)
  (hed : ∀ (j : Nat) (e : EdgeD), y.edges[j]? = some e → ∃ r, s.rels[j]? = some r ∧ e.off = r.off ∧ e.type = r.type ∧ e.add = r.add ∧ (e.to_ = -1 ∧ 0 ≤ e.at_ ∨ ∃ (t : Nat) (z : NodeD), e.to_ = (t : Int) ∧ g.nodes[t]? = some z ∧ 0 ≤ e.at_ ∧ e.at_ ≤ z.size))
  (Q : Exit → Act → World → Prop) (v0 v1 v2 v3 v4 v5 v7 v8 v11 v12 v13 v14 v15 v16 v17 : Value) (R : List Value) (hRl : R.length = 442)
  (hQ : ∀ (v14 v15 : Value) (R' : List Value) (w' : World), R'.length = 442 → Below w.heap.size w w' → Q .normal ⟨(List.toArray (v0 :: v1 :: v2 :: v3 :: v4 :: v5 :: .pointer (some ⟨g3, 0, none⟩) :: v7 :: v8 :: .pointer (some ⟨gx, 0, none⟩) :: .pointer (some ⟨g10, 0, none⟩) :: v11 :: v12 :: v13 :: v14 :: v15 :: v16 :: v17 :: R')), []⟩ w') :
  (wTail 27).wp Tryz.prog Q ⟨(List.toArray (v0 :: v1 :: v2 :: v3 :: v4 :: v5 :: .pointer (some ⟨g3, 0, none⟩) :: v7 :: v8 :: .pointer (some ⟨gx, 0, none⟩) :: .pointer (some ⟨g10, 0, none⟩) :: v11 :: v12 :: v13 :: v14 :: v15 :: v16 :: v17 :: R)), []⟩ w := by
 rw [tail27]
 refine wp_seq (rg27 _ _ _ _ _ _ _ _ _ _ _ _ _ _ _ _ _ _ _ _ _ (hRl) ?_)
 refine then_normal (wp_block (wp_loop (fun act w' => ∃ (j : Nat) (v15 : Value) (R' : List Value), act = ⟨(List.toArray (v0 :: v1 :: v2 :: v3 :: v4 :: v5 :: .pointer (some ⟨g3, 0, none⟩) :: v7 :: v8 :: .pointer (some ⟨gx, 0, none⟩) :: .pointer (some ⟨g10, 0, none⟩) :: v11 :: v12 :: v13 :: .int .i64 (j : Int) :: v15 :: v16 :: v17 :: R')), []⟩ ∧ R'.length = 442 ∧ j ≤ y.edges.length ∧ Below w.heap.size w w') (fun act _ => y.edges.length - (intOf (act.eval (.tmp 14))).toNat) ⟨0, v15, R, rfl, hRl, Nat.zero_le _, Below.refl _ _⟩ ?_))
 rintro act w' ⟨j, v15, R, rfl, hRl, hj, hb'⟩
 rw [tail28]
 refine wp_seq (wp_seq (rg28 _ _ _ _ _ _ _ _ _ _ _ _ _ _ _ _ _ _ _ _ _ _ _ _ (hRl) (cell_later hb' (node_cell hX 10 _ rfl)) ?_))
 intro R1 h1 h303
 refine then_normal ?_
 by_cases hlt : j < y.edges.length
 ·refine wp_cond_true ((eval_rest R1 _ _ _ _ _ _ _ _ _ _ _ _ _ _ _ _ _ _ 285).trans (h303.trans (by simp [hlt]))) (wp_skip (then_normal ?_))
  refine wp_seq (wp_block (t30 C (hb.trans (hb'.mono hb.size)) (block_later hb' hX) (block_later hb' hS) (hE.below EEdge.keeps hb') (hR.below ERel.keeps hb') _hcm hN hed hlt _ _ _ _ _ _ _ _ _ _ _ _ _ _ _ _ (h1) ?_))
  intro v15' R2 w2 h2 hb2
  refine in_normal (then_normal ?_)
  refine rg29 _ _ _ _ _ _ _ _ _ _ _ _ _ _ _ _ _ _ _ _ _ (h2) (IntWalk.i64_in _ (by unfold maxLen at _hcm; omega)) ?_
  intro R3 h3
  refine then_normal ⟨⟨j + 1, v15', R3, rfl, h3, hlt, hb'.trans (hb2.mono hb'.size)⟩, ?_⟩
  show y.edges.length - ((j : Int) + 1).toNat < y.edges.length - (j : Int).toNat
  omega
 ·refine wp_cond_false ((eval_rest R1 _ _ _ _ _ _ _ _ _ _ _ _ _ _ _ _ _ _ 285).trans (h303.trans (by simp [hlt]))) (wp_exit ?_)
  exact hQ _ _ R1 w' h1 hb'
end Go.Proofs.YteopgmieindojaaGreat

namespace Go.Proofs.YteopgmieindojaaGreat
open Go.RowKit
set_option maxRecDepth 1000000 in
set_option maxHeartbeats 8000000 in
theorem reg17 (g3 gx b off i m nn a k : Nat) (c0 : Nat) (zo zs : Int) (fi : Bool) (w : World) (Q : Exit → Act → World → Prop) (v0 v1 v2 v3 v4 v5 v7 v10 v11 v12 v13 v14 v15 v16 v17 v18 v19 v20 v21 v22 v23 v24 v25 v26 v27 v28 v29 v30 v31 v32 v33 v34 v35 v36 v37 v38 v39 v40 v41 v42 v43 v44 v45 v46 v47 v48 v49 v50 v51 v52 v53 v54 v55 v56 v57 v58 v59 v60 v61 v62 v63 v64 v65 v66 v67 v68 v69 v70 v71 v72 v73 v74 v75 v76 v77 v78 v79 v80 v81 v82 v83 v84 v85 v86 v87 v88 v89 v90 v91 v92 v93 v94 v95 v96 v97 v98 v99 v100 v101 v102 v103 v104 v105 v106 v107 v108 v109 v110 v111 v112 v113 v114 v115 v116 v117 v118 v119 v120 v121 v122 v123 v124 v125 v126 v127 v128 v129 v130 v131 v132 v133 v134 v135 v136 v137 v138 v139 v140 v141 v142 v143 v144 v145 v146 v147 v148 v149 v150 v151 v152 v153 v154 v155 v156 v157 v158 v159 v160 v161 v162 v163 v164 v165 v166 v167 v168 v169 v170 v171 v172 v173 v174 v175 v176 v177 v178 v179 v180 v181 v182 v183 v184 v185 v186 v187 v188 v189 v190 v191 v192 v193 v194 v195 v196 v197 v198 v199 v200 v201 v202 v203 v204 v205 v206 v207 v208 v209 v210 v211 v212 v213 v214 v215 v216 v217 v218 v219 v220 v221 v222 v223 v224 v225 v226 v227 v228 v229 v230 v231 v232 v233 v234 v235 v236 v237 v238 v239 v240 v241 v242 v243 v244 v245 v246 v247 v248 v249 v250 v251 v252 v253 v254 v255 v256 v257 v258 v259 v260 v261 v262 v263 v264 v265 v266 v267 v268 v269 v270 v271 v272 v273 v274 v275 v276 v277 v278 v279 v280 v281 v282 v283 v284 v285 v286 v287 v288 v289 v290 v291 v292 v293 v294 v295 v296 v297 v298 v299 v300 v301 v302 v303 v304 v305 v306 v307 v308 v309 v310 v311 v312 v313 v314 v315 v316 v317 v318 v319 v320 v321 v322 v323 v324 v325 v326 v327 v328 v329 v330 v331 v332 v333 v334 v335 v336 v337 v338 v339 v340 v341 v342 v343 v344 v345 v346 v347 v348 v349 v350 v351 v352 v353 v354 v355 v356 v357 v358 v359 v360 v361 v362 v363 v364 v365 v366 v367 v368 v369 v370 v371 v372 v373 v374 v375 v376 v377 v378 v379 v380 v381 v382 v383 v384 v385 v386 v387 v388 v389 v390 v391 v392 v393 v394 v395 v396 v397 v398 v399 v400 v401 v402 v403 v404 v405 v406 v407 v408 v409 v410 v411 v412 v413 v414 v415 v416 v417 v418 v419 v420 v421 v422 v423 v424 v425 v426 v427 v428 v429 v430 v431 v432 v433 v434 v435 v436 v437 v438 v439 v440 v441 v442 v443 v444 v445 v446 v447 v448 v449 v450 v451 v452 v453 v454 v455 v456 v457 v458 v459 : Value)
  (y0 : w.cell? ⟨g3, 0, none⟩ = some (.slice (some ⟨b, off, none⟩) nn c0)) (d0 : w.cell? ⟨gx, 0, none⟩ = some (.int .i64 (a : Int))) (d1 : w.cell? ⟨gx, 1, none⟩ = some (.int .i64 ((k : Int) + 1)))
  (Z0 : w.cell? ⟨b, off + m * 14, none⟩ = some (.int .i64 zo)) (Z1 : w.cell? ⟨b, off + m * 14 + 1, none⟩ = some (.int .i64 zs)) (jm : (m : Int) < (nn : Int)) (kwm : i ≠ 0 → IntKind.i64.wrap ((i : Int) - 1) = (m : Int))
  (hfi : fi = (((i : Int) == 0) || (zo != (a : Int)) || (zs != (k : Int) + 1)))
  (hQ : ∀ (x88 x89 x90 x91 x92 x93 x94 x95 x96 x97 x98 x99 x100 x101 x102 x103 x104 x105 x106 x107 x108 x109 x110 x111 x112 x113 x114 x115 : Value) (n : Nat), Q .normal ⟨(List.toArray (v0 :: v1 :: v2 :: v3 :: v4 :: v5 :: .pointer (some ⟨g3, 0, none⟩) :: v7 :: .int .i64 (i : Int) :: .pointer (some ⟨gx, 0, none⟩) :: v10 :: v11 :: .bool fi :: v13 :: v14 :: v15 :: v16 :: v17 :: v18 :: v19 :: v20 :: v21 :: v22 :: v23 :: v24 :: v25 :: v26 :: v27 :: v28 :: v29 :: v30 :: v31 :: v32 :: v33 :: v34 :: v35 :: v36 :: v37 :: v38 :: v39 :: v40 :: v41 :: v42 :: v43 :: v44 :: v45 :: v46 :: v47 :: v48 :: v49 :: v50 :: v51 :: v52 :: v53 :: v54 :: v55 :: v56 :: v57 :: v58 :: v59 :: v60 :: v61 :: v62 :: v63 :: v64 :: v65 :: v66 :: v67 :: v68 :: v69 :: v70 :: v71 :: v72 :: v73 :: v74 :: v75 :: v76 :: v77 :: v78 :: v79 :: v80 :: v81 :: v82 :: v83 :: v84 :: v85 :: v86 :: v87 :: x88 :: x89 :: x90 :: x91 :: x92 :: x93 :: x94 :: x95 :: x96 :: x97 :: x98 :: x99 :: x100 :: x101 :: x102 :: x103 :: x104 :: x105 :: x106 :: x107 :: x108 :: x109 :: x110 :: x111 :: x112 :: x113 :: x114 :: x115 :: v116 :: v117 :: v118 :: v119 :: v120 :: v121 :: v122 :: v123 :: v124 :: v125 :: v126 :: v127 :: v128 :: v129 :: v130 :: v131 :: v132 :: v133 :: v134 :: v135 :: v136 :: v137 :: v138 :: v139 :: v140 :: v141 :: v142 :: v143 :: v144 :: v145 :: v146 :: v147 :: v148 :: v149 :: v150 :: v151 :: v152 :: v153 :: v154 :: v155 :: v156 :: v157 :: v158 :: v159 :: v160 :: v161 :: v162 :: v163 :: v164 :: v165 :: v166 :: v167 :: v168 :: v169 :: v170 :: v171 :: v172 :: v173 :: v174 :: v175 :: v176 :: v177 :: v178 :: v179 :: v180 :: v181 :: v182 :: v183 :: v184 :: v185 :: v186 :: v187 :: v188 :: v189 :: v190 :: v191 :: v192 :: v193 :: v194 :: v195 :: v196 :: v197 :: v198 :: v199 :: v200 :: v201 :: v202 :: v203 :: v204 :: v205 :: v206 :: v207 :: v208 :: v209 :: v210 :: v211 :: v212 :: v213 :: v214 :: v215 :: v216 :: v217 :: v218 :: v219 :: v220 :: v221 :: v222 :: v223 :: v224 :: v225 :: v226 :: v227 :: v228 :: v229 :: v230 :: v231 :: v232 :: v233 :: v234 :: v235 :: v236 :: v237 :: v238 :: v239 :: v240 :: v241 :: v242 :: v243 :: v244 :: v245 :: v246 :: v247 :: v248 :: v249 :: v250 :: v251 :: v252 :: v253 :: v254 :: v255 :: v256 :: v257 :: v258 :: v259 :: v260 :: v261 :: v262 :: v263 :: v264 :: v265 :: v266 :: v267 :: v268 :: v269 :: v270 :: v271 :: v272 :: v273 :: v274 :: v275 :: v276 :: v277 :: v278 :: v279 :: v280 :: v281 :: v282 :: v283 :: v284 :: v285 :: v286 :: v287 :: v288 :: v289 :: v290 :: v291 :: v292 :: v293 :: v294 :: v295 :: v296 :: v297 :: v298 :: v299 :: v300 :: v301 :: v302 :: v303 :: v304 :: v305 :: v306 :: v307 :: v308 :: v309 :: v310 :: v311 :: v312 :: v313 :: v314 :: v315 :: v316 :: v317 :: v318 :: v319 :: v320 :: v321 :: v322 :: v323 :: v324 :: v325 :: v326 :: v327 :: v328 :: v329 :: v330 :: v331 :: v332 :: v333 :: v334 :: v335 :: v336 :: v337 :: v338 :: v339 :: v340 :: v341 :: v342 :: v343 :: v344 :: v345 :: v346 :: v347 :: v348 :: v349 :: v350 :: v351 :: v352 :: v353 :: v354 :: v355 :: v356 :: v357 :: v358 :: v359 :: v360 :: v361 :: v362 :: v363 :: v364 :: v365 :: v366 :: v367 :: v368 :: v369 :: v370 :: v371 :: v372 :: v373 :: v374 :: v375 :: v376 :: v377 :: v378 :: v379 :: v380 :: v381 :: v382 :: v383 :: v384 :: v385 :: v386 :: v387 :: v388 :: v389 :: v390 :: v391 :: v392 :: v393 :: v394 :: v395 :: v396 :: v397 :: v398 :: v399 :: v400 :: v401 :: v402 :: v403 :: v404 :: v405 :: v406 :: v407 :: v408 :: v409 :: v410 :: v411 :: v412 :: v413 :: v414 :: v415 :: v416 :: v417 :: v418 :: v419 :: v420 :: v421 :: v422 :: v423 :: v424 :: v425 :: v426 :: v427 :: v428 :: v429 :: v430 :: v431 :: v432 :: v433 :: v434 :: v435 :: v436 :: v437 :: v438 :: v439 :: v440 :: v441 :: v442 :: v443 :: v444 :: v445 :: v446 :: v447 :: v448 :: v449 :: v450 :: v451 :: v452 :: v453 :: v454 :: v455 :: v456 :: v457 :: v458 :: v459 :: [])), []⟩ (w.drewN n)) :
  Code.wp Tryz.prog (wReg 17) Q ⟨(List.toArray (v0 :: v1 :: v2 :: v3 :: v4 :: v5 :: .pointer (some ⟨g3, 0, none⟩) :: v7 :: .int .i64 (i : Int) :: .pointer (some ⟨gx, 0, none⟩) :: v10 :: v11 :: v12 :: v13 :: v14 :: v15 :: v16 :: v17 :: v18 :: v19 :: v20 :: v21 :: v22 :: v23 :: v24 :: v25 :: v26 :: v27 :: v28 :: v29 :: v30 :: v31 :: v32 :: v33 :: v34 :: v35 :: v36 :: v37 :: v38 :: v39 :: v40 :: v41 :: v42 :: v43 :: v44 :: v45 :: v46 :: v47 :: v48 :: v49 :: v50 :: v51 :: v52 :: v53 :: v54 :: v55 :: v56 :: v57 :: v58 :: v59 :: v60 :: v61 :: v62 :: v63 :: v64 :: v65 :: v66 :: v67 :: v68 :: v69 :: v70 :: v71 :: v72 :: v73 :: v74 :: v75 :: v76 :: v77 :: v78 :: v79 :: v80 :: v81 :: v82 :: v83 :: v84 :: v85 :: v86 :: v87 :: v88 :: v89 :: v90 :: v91 :: v92 :: v93 :: v94 :: v95 :: v96 :: v97 :: v98 :: v99 :: v100 :: v101 :: v102 :: v103 :: v104 :: v105 :: v106 :: v107 :: v108 :: v109 :: v110 :: v111 :: v112 :: v113 :: v114 :: v115 :: v116 :: v117 :: v118 :: v119 :: v120 :: v121 :: v122 :: v123 :: v124 :: v125 :: v126 :: v127 :: v128 :: v129 :: v130 :: v131 :: v132 :: v133 :: v134 :: v135 :: v136 :: v137 :: v138 :: v139 :: v140 :: v141 :: v142 :: v143 :: v144 :: v145 :: v146 :: v147 :: v148 :: v149 :: v150 :: v151 :: v152 :: v153 :: v154 :: v155 :: v156 :: v157 :: v158 :: v159 :: v160 :: v161 :: v162 :: v163 :: v164 :: v165 :: v166 :: v167 :: v168 :: v169 :: v170 :: v171 :: v172 :: v173 :: v174 :: v175 :: v176 :: v177 :: v178 :: v179 :: v180 :: v181 :: v182 :: v183 :: v184 :: v185 :: v186 :: v187 :: v188 :: v189 :: v190 :: v191 :: v192 :: v193 :: v194 :: v195 :: v196 :: v197 :: v198 :: v199 :: v200 :: v201 :: v202 :: v203 :: v204 :: v205 :: v206 :: v207 :: v208 :: v209 :: v210 :: v211 :: v212 :: v213 :: v214 :: v215 :: v216 :: v217 :: v218 :: v219 :: v220 :: v221 :: v222 :: v223 :: v224 :: v225 :: v226 :: v227 :: v228 :: v229 :: v230 :: v231 :: v232 :: v233 :: v234 :: v235 :: v236 :: v237 :: v238 :: v239 :: v240 :: v241 :: v242 :: v243 :: v244 :: v245 :: v246 :: v247 :: v248 :: v249 :: v250 :: v251 :: v252 :: v253 :: v254 :: v255 :: v256 :: v257 :: v258 :: v259 :: v260 :: v261 :: v262 :: v263 :: v264 :: v265 :: v266 :: v267 :: v268 :: v269 :: v270 :: v271 :: v272 :: v273 :: v274 :: v275 :: v276 :: v277 :: v278 :: v279 :: v280 :: v281 :: v282 :: v283 :: v284 :: v285 :: v286 :: v287 :: v288 :: v289 :: v290 :: v291 :: v292 :: v293 :: v294 :: v295 :: v296 :: v297 :: v298 :: v299 :: v300 :: v301 :: v302 :: v303 :: v304 :: v305 :: v306 :: v307 :: v308 :: v309 :: v310 :: v311 :: v312 :: v313 :: v314 :: v315 :: v316 :: v317 :: v318 :: v319 :: v320 :: v321 :: v322 :: v323 :: v324 :: v325 :: v326 :: v327 :: v328 :: v329 :: v330 :: v331 :: v332 :: v333 :: v334 :: v335 :: v336 :: v337 :: v338 :: v339 :: v340 :: v341 :: v342 :: v343 :: v344 :: v345 :: v346 :: v347 :: v348 :: v349 :: v350 :: v351 :: v352 :: v353 :: v354 :: v355 :: v356 :: v357 :: v358 :: v359 :: v360 :: v361 :: v362 :: v363 :: v364 :: v365 :: v366 :: v367 :: v368 :: v369 :: v370 :: v371 :: v372 :: v373 :: v374 :: v375 :: v376 :: v377 :: v378 :: v379 :: v380 :: v381 :: v382 :: v383 :: v384 :: v385 :: v386 :: v387 :: v388 :: v389 :: v390 :: v391 :: v392 :: v393 :: v394 :: v395 :: v396 :: v397 :: v398 :: v399 :: v400 :: v401 :: v402 :: v403 :: v404 :: v405 :: v406 :: v407 :: v408 :: v409 :: v410 :: v411 :: v412 :: v413 :: v414 :: v415 :: v416 :: v417 :: v418 :: v419 :: v420 :: v421 :: v422 :: v423 :: v424 :: v425 :: v426 :: v427 :: v428 :: v429 :: v430 :: v431 :: v432 :: v433 :: v434 :: v435 :: v436 :: v437 :: v438 :: v439 :: v440 :: v441 :: v442 :: v443 :: v444 :: v445 :: v446 :: v447 :: v448 :: v449 :: v450 :: v451 :: v452 :: v453 :: v454 :: v455 :: v456 :: v457 :: v458 :: v459 :: [])), []⟩ w := by
 conv => arg 2; whnf
 have hmx := run_max m
 have jm0 : (0 : Int) ≤ (m : Int) := by omega
 cases e0 : ((i : Int) == 0) with
 | true =>
  obtain rfl : fi = true := by rw [hfi, e0]; rfl
  clear kwm hfi
  go_quiet (fail)
  exact hQ _ _ _ _ _ _ _ _ _ _ _ _ _ _ _ _ _ _ _ _ _ _ _ _ _ _ _ _ _
 | false =>
  have kw := kwm (by intro h; rw [h] at e0; simp at e0)
  clear kwm
  cases c1 : (zo != (a : Int)) with
  | true =>
   obtain rfl : fi = true := by rw [hfi, e0, c1]; rfl
   clear hfi
   go_quiet (fail)
   exact hQ _ _ _ _ _ _ _ _ _ _ _ _ _ _ _ _ _ _ _ _ _ _ _ _ _ _ _ _ _
  | false =>
   cases c2 : (zs != (k : Int) + 1) with
   | true =>
    obtain rfl : fi = true := by rw [hfi, e0, c1, c2]; rfl
    clear hfi
    go_quiet (fail)
    exact hQ _ _ _ _ _ _ _ _ _ _ _ _ _ _ _ _ _ _ _ _ _ _ _ _ _ _ _ _ _
   | false =>
    obtain rfl : fi = false := by rw [hfi, e0, c1, c2]; rfl
    clear hfi
    go_quiet (fail)
    exact hQ _ _ _ _ _ _ _ _ _ _ _ _ _ _ _ _ _ _ _ _ _ _ _ _ _ _ _ _ _
end Go.Proofs.YteopgmieindojaaGreat

namespace Go.Proofs.YteopgmieindojaaGreat
open Go.RowKit
set_option maxRecDepth 1000000 in
set_option maxHeartbeats 8000000 in
theorem reg18 (g3 gx b off i q n1 nn a k : Nat) (c0 : Nat) (zo zs : Int) (fi : Bool) (w : World) (Q : Exit → Act → World → Prop) (v0 v1 v2 v3 v4 v5 v7 v10 v11 v12 v13 v14 v15 v16 v17 v18 v19 v20 v21 v22 v23 v24 v25 v26 v27 v28 v29 v30 v31 v32 v33 v34 v35 v36 v37 v38 v39 v40 v41 v42 v43 v44 v45 v46 v47 v48 v49 v50 v51 v52 v53 v54 v55 v56 v57 v58 v59 v60 v61 v62 v63 v64 v65 v66 v67 v68 v69 v70 v71 v72 v73 v74 v75 v76 v77 v78 v79 v80 v81 v82 v83 v84 v85 v86 v87 v88 v89 v90 v91 v92 v93 v94 v95 v96 v97 v98 v99 v100 v101 v102 v103 v104 v105 v106 v107 v108 v109 v110 v111 v112 v113 v114 v115 v116 v117 v118 v119 v120 v121 v122 v123 v124 v125 v126 v127 v128 v129 v130 v131 v132 v133 v134 v135 v136 v137 v138 v139 v140 v141 v142 v143 v144 v145 v146 v147 v148 v149 v150 v151 v152 v153 v154 v155 v156 v157 v158 v159 v160 v161 v162 v163 v164 v165 v166 v167 v168 v169 v170 v171 v172 v173 v174 v175 v176 v177 v178 v179 v180 v181 v182 v183 v184 v185 v186 v187 v188 v189 v190 v191 v192 v193 v194 v195 v196 v197 v198 v199 v200 v201 v202 v203 v204 v205 v206 v207 v208 v209 v210 v211 v212 v213 v214 v215 v216 v217 v218 v219 v220 v221 v222 v223 v224 v225 v226 v227 v228 v229 v230 v231 v232 v233 v234 v235 v236 v237 v238 v239 v240 v241 v242 v243 v244 v245 v246 v247 v248 v249 v250 v251 v252 v253 v254 v255 v256 v257 v258 v259 v260 v261 v262 v263 v264 v265 v266 v267 v268 v269 v270 v271 v272 v273 v274 v275 v276 v277 v278 v279 v280 v281 v282 v283 v284 v285 v286 v287 v288 v289 v290 v291 v292 v293 v294 v295 v296 v297 v298 v299 v300 v301 v302 v303 v304 v305 v306 v307 v308 v309 v310 v311 v312 v313 v314 v315 v316 v317 v318 v319 v320 v321 v322 v323 v324 v325 v326 v327 v328 v329 v330 v331 v332 v333 v334 v335 v336 v337 v338 v339 v340 v341 v342 v343 v344 v345 v346 v347 v348 v349 v350 v351 v352 v353 v354 v355 v356 v357 v358 v359 v360 v361 v362 v363 v364 v365 v366 v367 v368 v369 v370 v371 v372 v373 v374 v375 v376 v377 v378 v379 v380 v381 v382 v383 v384 v385 v386 v387 v388 v389 v390 v391 v392 v393 v394 v395 v396 v397 v398 v399 v400 v401 v402 v403 v404 v405 v406 v407 v408 v409 v410 v411 v412 v413 v414 v415 v416 v417 v418 v419 v420 v421 v422 v423 v424 v425 v426 v427 v428 v429 v430 v431 v432 v433 v434 v435 v436 v437 v438 v439 v440 v441 v442 v443 v444 v445 v446 v447 v448 v449 v450 v451 v452 v453 v454 v455 v456 v457 v458 v459 : Value)
  (y0 : w.cell? ⟨g3, 0, none⟩ = some (.slice (some ⟨b, off, none⟩) nn c0)) (d0 : w.cell? ⟨gx, 0, none⟩ = some (.int .i64 (a : Int))) (d1 : w.cell? ⟨gx, 1, none⟩ = some (.int .i64 ((k : Int) + 1)))
  (Z0 : q ≠ nn → w.cell? ⟨b, off + q * 14, none⟩ = some (.int .i64 zo)) (Z1 : q ≠ nn → w.cell? ⟨b, off + q * 14 + 1, none⟩ = some (.int .i64 zs)) (kwq : IntKind.i64.wrap ((i : Int) + 1) = (q : Int)) (kwn : IntKind.i64.wrap ((nn : Int) - 1) = (n1 : Int)) (hqn : q ≠ nn → q ≤ n1 ∧ q < nn)
  (hfi : fi = (((q : Int) == (nn : Int)) || (zo != (a : Int)) || (zs != (k : Int) + 1)))
  (hQ : ∀ (x116 x117 x118 x119 x120 x121 x122 x123 x124 x125 x126 x127 x128 x129 x130 x131 x132 x133 x134 x135 x136 x137 x138 x139 x140 x141 x142 x143 x144 x145 x146 x147 x148 x149 x150 x151 x152 x153 x154 x155 : Value) (n : Nat), Q .normal ⟨(List.toArray (v0 :: v1 :: v2 :: v3 :: v4 :: v5 :: .pointer (some ⟨g3, 0, none⟩) :: v7 :: .int .i64 (i : Int) :: .pointer (some ⟨gx, 0, none⟩) :: v10 :: v11 :: v12 :: .bool fi :: v14 :: v15 :: v16 :: v17 :: v18 :: v19 :: v20 :: v21 :: v22 :: v23 :: v24 :: v25 :: v26 :: v27 :: v28 :: v29 :: v30 :: v31 :: v32 :: v33 :: v34 :: v35 :: v36 :: v37 :: v38 :: v39 :: v40 :: v41 :: v42 :: v43 :: v44 :: v45 :: v46 :: v47 :: v48 :: v49 :: v50 :: v51 :: v52 :: v53 :: v54 :: v55 :: v56 :: v57 :: v58 :: v59 :: v60 :: v61 :: v62 :: v63 :: v64 :: v65 :: v66 :: v67 :: v68 :: v69 :: v70 :: v71 :: v72 :: v73 :: v74 :: v75 :: v76 :: v77 :: v78 :: v79 :: v80 :: v81 :: v82 :: v83 :: v84 :: v85 :: v86 :: v87 :: v88 :: v89 :: v90 :: v91 :: v92 :: v93 :: v94 :: v95 :: v96 :: v97 :: v98 :: v99 :: v100 :: v101 :: v102 :: v103 :: v104 :: v105 :: v106 :: v107 :: v108 :: v109 :: v110 :: v111 :: v112 :: v113 :: v114 :: v115 :: x116 :: x117 :: x118 :: x119 :: x120 :: x121 :: x122 :: x123 :: x124 :: x125 :: x126 :: x127 :: x128 :: x129 :: x130 :: x131 :: x132 :: x133 :: x134 :: x135 :: x136 :: x137 :: x138 :: x139 :: x140 :: x141 :: x142 :: x143 :: x144 :: x145 :: x146 :: x147 :: x148 :: x149 :: x150 :: x151 :: x152 :: x153 :: x154 :: x155 :: v156 :: v157 :: v158 :: v159 :: v160 :: v161 :: v162 :: v163 :: v164 :: v165 :: v166 :: v167 :: v168 :: v169 :: v170 :: v171 :: v172 :: v173 :: v174 :: v175 :: v176 :: v177 :: v178 :: v179 :: v180 :: v181 :: v182 :: v183 :: v184 :: v185 :: v186 :: v187 :: v188 :: v189 :: v190 :: v191 :: v192 :: v193 :: v194 :: v195 :: v196 :: v197 :: v198 :: v199 :: v200 :: v201 :: v202 :: v203 :: v204 :: v205 :: v206 :: v207 :: v208 :: v209 :: v210 :: v211 :: v212 :: v213 :: v214 :: v215 :: v216 :: v217 :: v218 :: v219 :: v220 :: v221 :: v222 :: v223 :: v224 :: v225 :: v226 :: v227 :: v228 :: v229 :: v230 :: v231 :: v232 :: v233 :: v234 :: v235 :: v236 :: v237 :: v238 :: v239 :: v240 :: v241 :: v242 :: v243 :: v244 :: v245 :: v246 :: v247 :: v248 :: v249 :: v250 :: v251 :: v252 :: v253 :: v254 :: v255 :: v256 :: v257 :: v258 :: v259 :: v260 :: v261 :: v262 :: v263 :: v264 :: v265 :: v266 :: v267 :: v268 :: v269 :: v270 :: v271 :: v272 :: v273 :: v274 :: v275 :: v276 :: v277 :: v278 :: v279 :: v280 :: v281 :: v282 :: v283 :: v284 :: v285 :: v286 :: v287 :: v288 :: v289 :: v290 :: v291 :: v292 :: v293 :: v294 :: v295 :: v296 :: v297 :: v298 :: v299 :: v300 :: v301 :: v302 :: v303 :: v304 :: v305 :: v306 :: v307 :: v308 :: v309 :: v310 :: v311 :: v312 :: v313 :: v314 :: v315 :: v316 :: v317 :: v318 :: v319 :: v320 :: v321 :: v322 :: v323 :: v324 :: v325 :: v326 :: v327 :: v328 :: v329 :: v330 :: v331 :: v332 :: v333 :: v334 :: v335 :: v336 :: v337 :: v338 :: v339 :: v340 :: v341 :: v342 :: v343 :: v344 :: v345 :: v346 :: v347 :: v348 :: v349 :: v350 :: v351 :: v352 :: v353 :: v354 :: v355 :: v356 :: v357 :: v358 :: v359 :: v360 :: v361 :: v362 :: v363 :: v364 :: v365 :: v366 :: v367 :: v368 :: v369 :: v370 :: v371 :: v372 :: v373 :: v374 :: v375 :: v376 :: v377 :: v378 :: v379 :: v380 :: v381 :: v382 :: v383 :: v384 :: v385 :: v386 :: v387 :: v388 :: v389 :: v390 :: v391 :: v392 :: v393 :: v394 :: v395 :: v396 :: v397 :: v398 :: v399 :: v400 :: v401 :: v402 :: v403 :: v404 :: v405 :: v406 :: v407 :: v408 :: v409 :: v410 :: v411 :: v412 :: v413 :: v414 :: v415 :: v416 :: v417 :: v418 :: v419 :: v420 :: v421 :: v422 :: v423 :: v424 :: v425 :: v426 :: v427 :: v428 :: v429 :: v430 :: v431 :: v432 :: v433 :: v434 :: v435 :: v436 :: v437 :: v438 :: v439 :: v440 :: v441 :: v442 :: v443 :: v444 :: v445 :: v446 :: v447 :: v448 :: v449 :: v450 :: v451 :: v452 :: v453 :: v454 :: v455 :: v456 :: v457 :: v458 :: v459 :: [])), []⟩ (w.drewN n)) :
  Code.wp Tryz.prog (wReg 18) Q ⟨(List.toArray (v0 :: v1 :: v2 :: v3 :: v4 :: v5 :: .pointer (some ⟨g3, 0, none⟩) :: v7 :: .int .i64 (i : Int) :: .pointer (some ⟨gx, 0, none⟩) :: v10 :: v11 :: v12 :: v13 :: v14 :: v15 :: v16 :: v17 :: v18 :: v19 :: v20 :: v21 :: v22 :: v23 :: v24 :: v25 :: v26 :: v27 :: v28 :: v29 :: v30 :: v31 :: v32 :: v33 :: v34 :: v35 :: v36 :: v37 :: v38 :: v39 :: v40 :: v41 :: v42 :: v43 :: v44 :: v45 :: v46 :: v47 :: v48 :: v49 :: v50 :: v51 :: v52 :: v53 :: v54 :: v55 :: v56 :: v57 :: v58 :: v59 :: v60 :: v61 :: v62 :: v63 :: v64 :: v65 :: v66 :: v67 :: v68 :: v69 :: v70 :: v71 :: v72 :: v73 :: v74 :: v75 :: v76 :: v77 :: v78 :: v79 :: v80 :: v81 :: v82 :: v83 :: v84 :: v85 :: v86 :: v87 :: v88 :: v89 :: v90 :: v91 :: v92 :: v93 :: v94 :: v95 :: v96 :: v97 :: v98 :: v99 :: v100 :: v101 :: v102 :: v103 :: v104 :: v105 :: v106 :: v107 :: v108 :: v109 :: v110 :: v111 :: v112 :: v113 :: v114 :: v115 :: v116 :: v117 :: v118 :: v119 :: v120 :: v121 :: v122 :: v123 :: v124 :: v125 :: v126 :: v127 :: v128 :: v129 :: v130 :: v131 :: v132 :: v133 :: v134 :: v135 :: v136 :: v137 :: v138 :: v139 :: v140 :: v141 :: v142 :: v143 :: v144 :: v145 :: v146 :: v147 :: v148 :: v149 :: v150 :: v151 :: v152 :: v153 :: v154 :: v155 :: v156 :: v157 :: v158 :: v159 :: v160 :: v161 :: v162 :: v163 :: v164 :: v165 :: v166 :: v167 :: v168 :: v169 :: v170 :: v171 :: v172 :: v173 :: v174 :: v175 :: v176 :: v177 :: v178 :: v179 :: v180 :: v181 :: v182 :: v183 :: v184 :: v185 :: v186 :: v187 :: v188 :: v189 :: v190 :: v191 :: v192 :: v193 :: v194 :: v195 :: v196 :: v197 :: v198 :: v199 :: v200 :: v201 :: v202 :: v203 :: v204 :: v205 :: v206 :: v207 :: v208 :: v209 :: v210 :: v211 :: v212 :: v213 :: v214 :: v215 :: v216 :: v217 :: v218 :: v219 :: v220 :: v221 :: v222 :: v223 :: v224 :: v225 :: v226 :: v227 :: v228 :: v229 :: v230 :: v231 :: v232 :: v233 :: v234 :: v235 :: v236 :: v237 :: v238 :: v239 :: v240 :: v241 :: v242 :: v243 :: v244 :: v245 :: v246 :: v247 :: v248 :: v249 :: v250 :: v251 :: v252 :: v253 :: v254 :: v255 :: v256 :: v257 :: v258 :: v259 :: v260 :: v261 :: v262 :: v263 :: v264 :: v265 :: v266 :: v267 :: v268 :: v269 :: v270 :: v271 :: v272 :: v273 :: v274 :: v275 :: v276 :: v277 :: v278 :: v279 :: v280 :: v281 :: v282 :: v283 :: v284 :: v285 :: v286 :: v287 :: v288 :: v289 :: v290 :: v291 :: v292 :: v293 :: v294 :: v295 :: v296 :: v297 :: v298 :: v299 :: v300 :: v301 :: v302 :: v303 :: v304 :: v305 :: v306 :: v307 :: v308 :: v309 :: v310 :: v311 :: v312 :: v313 :: v314 :: v315 :: v316 :: v317 :: v318 :: v319 :: v320 :: v321 :: v322 :: v323 :: v324 :: v325 :: v326 :: v327 :: v328 :: v329 :: v330 :: v331 :: v332 :: v333 :: v334 :: v335 :: v336 :: v337 :: v338 :: v339 :: v340 :: v341 :: v342 :: v343 :: v344 :: v345 :: v346 :: v347 :: v348 :: v349 :: v350 :: v351 :: v352 :: v353 :: v354 :: v355 :: v356 :: v357 :: v358 :: v359 :: v360 :: v361 :: v362 :: v363 :: v364 :: v365 :: v366 :: v367 :: v368 :: v369 :: v370 :: v371 :: v372 :: v373 :: v374 :: v375 :: v376 :: v377 :: v378 :: v379 :: v380 :: v381 :: v382 :: v383 :: v384 :: v385 :: v386 :: v387 :: v388 :: v389 :: v390 :: v391 :: v392 :: v393 :: v394 :: v395 :: v396 :: v397 :: v398 :: v399 :: v400 :: v401 :: v402 :: v403 :: v404 :: v405 :: v406 :: v407 :: v408 :: v409 :: v410 :: v411 :: v412 :: v413 :: v414 :: v415 :: v416 :: v417 :: v418 :: v419 :: v420 :: v421 :: v422 :: v423 :: v424 :: v425 :: v426 :: v427 :: v428 :: v429 :: v430 :: v431 :: v432 :: v433 :: v434 :: v435 :: v436 :: v437 :: v438 :: v439 :: v440 :: v441 :: v442 :: v443 :: v444 :: v445 :: v446 :: v447 :: v448 :: v449 :: v450 :: v451 :: v452 :: v453 :: v454 :: v455 :: v456 :: v457 :: v458 :: v459 :: [])), []⟩ w := by
 conv => arg 2; whnf
 cases e0 : ((q : Int) == (nn : Int)) with
 | true =>
  obtain rfl : fi = true := by rw [hfi, e0]; rfl
  clear hqn hfi Z0 Z1
  go_quiet (fail)
  exact hQ _ _ _ _ _ _ _ _ _ _ _ _ _ _ _ _ _ _ _ _ _ _ _ _ _ _ _ _ _ _ _ _ _ _ _ _ _ _ _ _ _
 | false =>
  have hne : q ≠ nn := by intro h; rw [h] at e0; simp at e0
  obtain ⟨h1, h2⟩ := hqn hne
  have z0 := Z0 hne
  have z1 := Z1 hne
  have hmn := run_min q n1 h1
  have jq : (q : Int) < (nn : Int) := by omega
  have jq0 : (0 : Int) ≤ (q : Int) := by omega
  clear hqn Z0 Z1 h1 h2 hne
  cases c1 : (zo != (a : Int)) with
  | true =>
   obtain rfl : fi = true := by rw [hfi, e0, c1]; rfl
   clear hfi
   go_quiet (fail)
   exact hQ _ _ _ _ _ _ _ _ _ _ _ _ _ _ _ _ _ _ _ _ _ _ _ _ _ _ _ _ _ _ _ _ _ _ _ _ _ _ _ _ _
  | false =>
   cases c2 : (zs != (k : Int) + 1) with
   | true =>
    obtain rfl : fi = true := by rw [hfi, e0, c1, c2]; rfl
    clear hfi
    go_quiet (fail)
    exact hQ _ _ _ _ _ _ _ _ _ _ _ _ _ _ _ _ _ _ _ _ _ _ _ _ _ _ _ _ _ _ _ _ _ _ _ _ _ _ _ _ _
   | false =>
    obtain rfl : fi = false := by rw [hfi, e0, c1, c2]; rfl
    clear hfi
    go_quiet (fail)
    exact hQ _ _ _ _ _ _ _ _ _ _ _ _ _ _ _ _ _ _ _ _ _ _ _ _ _ _ _ _ _ _ _ _ _ _ _ _ _ _ _ _ _
end Go.Proofs.YteopgmieindojaaGreat
