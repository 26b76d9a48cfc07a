/-
  What the reference's sections tells, by definition. Nothing here walks the program.
  What the reference's rels tells, by definition: windows of windows, headers that tell of one section. Nothing here walks the program.
  What the reference's Get tells is what the project's tells, by definition. Nothing here walks the program.
  Contract of the reference's rels.
-/
import Derived.Test.YtenmcmnhiejbgaaGreatJg37
import Derived.Test.YtenmcmnhiejbgaaGreatJg16
import Derived.Test.YtenmcmnhiejbgaaGreatJg36
import Derived.Test.YtenmcmnhiejbgaaGreatJg19
import Derived.Test.YtenmcmnhiejbgaaGreatJg14
import Derived.Test.YtenmcmnhiejbgaaGreatJg34
import Derived.Test.YtenmcmnhiejbgaaGreatJg20
namespace Go.Proofs.YtenmcmnhiejbgaaGreat
open Go.RowKit

/-- The rest of the sections, from header i on, behind the names of the headers ahead of it. -/
def secRest (l : List UInt8) (ns : List Int) (tb : List UInt8) (nacc : List ByteArray) (i : Nat) (R : List Ten) (acc : List SecD) : Option (List SecD) := match nmGo tb nacc R with
  | none => none
  | some names => secGo l ns names i R acc
/-- The sections, as the reference tells them. -/
def refSecs (l : List UInt8) (L : List Ten) (n : Nat) : Option (List SecD) := secRest l (numGo 0 L) (toldB l L n) [str []] 1 (L.drop 1) []
theorem nmGo_prefix {tb : List UInt8} : ∀ (L : List Ten) (acc ns : List ByteArray), nmGo tb acc L = some ns → ∃ r, ns = acc ++ r
  | [], acc, ns, h => by cases h; exact ⟨[], (List.append_nil _).symm⟩
  | t :: L, acc, ns, h => by
    unfold nmGo at h
    cases hs : strAt tb t.a with
    | none => rw [hs] at h; cases h
    | some n =>
      rw [hs] at h
      obtain ⟨r, rfl⟩ := nmGo_prefix L _ ns h
      exact ⟨str n :: r, by simp⟩
theorem drop_at {L : List Ten} {i : Nat} {t : Ten} (h : L[i]? = some t) : L.drop i = t :: L.drop (i + 1) := by
  have hl := (List.getElem?_eq_some_iff.1 h).1
  rw [List.drop_eq_getElem_cons hl, (List.getElem?_eq_some_iff.1 h).2]
theorem secRest_noname {l : List UInt8} {ns : List Int} {tb : List UInt8} {nacc : List ByteArray} {i : Nat} {L : List Ten} {acc : List SecD} {t : Ten} (h : L[i]? = some t) (hs : strAt tb t.a = none) : secRest l ns tb nacc i (L.drop i) acc = none := by
  unfold secRest
  rw [drop_at h]
  unfold nmGo
  rw [hs]
theorem secRest_skip {l : List UInt8} {ns : List Int} {tb : List UInt8} {nacc : List ByteArray} {i : Nat} {L : List Ten} {acc : List SecD} {t : Ten} {nm : Nm} (h : L[i]? = some t) (hs : strAt tb t.a = some nm) (hn : ns[i]?.getD 0 = 0) :
    secRest l ns tb nacc i (L.drop i) acc = secRest l ns tb (nacc ++ [str nm]) (i + 1) (L.drop (i + 1)) acc := by
  unfold secRest
  rw [drop_at h]
  conv => lhs; unfold nmGo
  rw [hs]
  simp only
  cases hg : nmGo tb (nacc ++ [str nm]) (L.drop (i + 1)) with
  | none => rfl
  | some names =>
    simp only
    conv => lhs; unfold secGo
    rw [hn]
    rfl
theorem secRest_bad {l : List UInt8} {ns : List Int} {tb : List UInt8} {nacc : List ByteArray} {i : Nat} {L : List Ten} {acc : List SecD} {t : Ten} (h : L[i]? = some t) (hn : (ns[i]?.getD 0 == 0) = false) (hb : secB l ns t = none) : secRest l ns tb nacc i (L.drop i) acc = none := by
  unfold secRest
  rw [drop_at h]
  cases hg : nmGo tb nacc (t :: L.drop (i + 1)) with
  | none => rfl
  | some names =>
    simp only
    unfold secGo
    rw [hn, hb]
    rfl
theorem secRest_more {l : List UInt8} {ns : List Int} {tb : List UInt8} {nacc : List ByteArray} {i : Nat} {L : List Ten} {acc : List SecD} {t : Ten} {nm : Nm} {s : SecD} (h : L[i]? = some t) (hs : strAt tb t.a = some nm) (hn : (ns[i]?.getD 0 == 0) = false) (hb : secB l ns t = some s) (hl : nacc.length = i) :
    secRest l ns tb nacc i (L.drop i) acc = secRest l ns tb (nacc ++ [str nm]) (i + 1) (L.drop (i + 1)) (acc ++ [{ s with name := str nm }]) := by
  unfold secRest
  rw [drop_at h]
  conv => lhs; unfold nmGo
  rw [hs]
  simp only
  cases hg : nmGo tb (nacc ++ [str nm]) (L.drop (i + 1)) with
  | none => rfl
  | some names =>
    obtain ⟨r, rfl⟩ := nmGo_prefix _ _ _ hg
    simp only
    conv => lhs; unfold secGo
    rw [hn, hb]
    simp only [cond_false]
    have e : (nacc ++ [str nm] ++ r)[i]? = some (str nm) := by
      rw [List.append_assoc, List.getElem?_append_right (by omega), hl, Nat.sub_self]
      rfl
    rw [e]
    rfl
/-- The sections that the reference tells are those that the project tells. -/
theorem refSecs_eq {l : List UInt8} {L : List Ten} {n : Nat} (hok : HeadsOK l.length L) (h1 : 1 ≤ L.length) : refSecs l L n = match nmGo (toldB l L n) [str []] (L.drop 1) with
    | none => none
    | some names => secsB l L names := by
  unfold refSecs secRest
  cases nmGo (toldB l L n) [str []] (L.drop 1) with
  | none => rfl
  | some names =>
    simp only
    unfold secsB
    obtain ⟨t, ht⟩ : ∃ t, L[0]? = some t := ⟨_, List.getElem?_eq_getElem (by omega)⟩
    have e : L = t :: L.drop 1 := by have := drop_at ht; simpa using this
    have hn : (numGo 0 L)[0]?.getD 0 = 0 := by
      rw [numGo_at ht]
      unfold isSecT
      rw [heads_zero hok ht]
      rfl
    have hz : secGo l (numGo 0 L) names 0 (t :: L.drop 1) [] = secGo l (numGo 0 L) names 1 (L.drop 1) [] := by
      conv => lhs; unfold secGo
      rw [hn]
      rfl
    rw [← e] at hz
    exact hz.symm
/-- What sections gives. -/
def GivesRSecs (r : Option (List SecD)) (w : World) (e : Ending) (w' : World) : Prop := Below w.heap.size w w' ∧ ((r = none ∧ e = .returned (.tuple #[.slice none 0 0, .bool false])) ∨
  ∃ (p : Option Addr) (c : Nat) (svs : List SecV), r = some (svs.map SecV.s) ∧ e = .returned (.tuple #[.slice p svs.length c, .bool true]) ∧ w'.ownsRow w.heap.size 48 9 (.slice p svs.length c) svs.length (svs.flatMap SecV.cells) ∧ ∀ x ∈ svs, x.ok w.heap.size w' ∧ x.r = .slice none 0 0 ∧ x.s.rels = [])
/-- What the bytes of a section are, as the reference tells them. -/
theorem toldB_data {l : List UInt8} {L : List Ten} {i : Nat} {t : Ten} (h : L[i]? = some t) (hi : 1 ≤ i) (hs : isSecT t = true) : toldB l L i = dataB l t := by
  unfold toldB dataB
  rw [h]
  simp only
  unfold isSecT at hs
  rw [show (i == 0) = false by simp; omega, Bool.or_false]
  cases h1 : (t.b == 1) with
  | true =>
    have : (t.b == 8) = false := by have e : t.b = 1 := by simpa using h1
                                    rw [e]; rfl
    rw [this]
    rfl
  | false =>
    rw [h1] at hs
    have h8 : (t.b == 8) = true := by simpa using hs
    rw [h8]
    rfl
end Go.Proofs.YtenmcmnhiejbgaaGreat

namespace Go.Proofs.YtenmcmnhiejbgaaGreat
open Go.RowKit

theorem relAt_win {l : List UInt8} {e f k : Nat} (hef : e + f ≤ l.length) (hk : k + 24 ≤ f) : relAt (win l e f) (k : Int) = relAt l (((e + k : Nat)) : Int) := by
  have hw := win_length l e f hef
  apply Option.ext
  intro t
  have h1 := relAt_iff (win l e f) k t
  have h2 := relAt_iff l (e + k) t
  rw [win_win l e f k 24 hk, hw] at h1
  constructor
  · intro h
    obtain ⟨a1, a2, a3, a4⟩ := h1.1 h
    exact h2.2 ⟨a1, a2, by omega, a4⟩
  · intro h
    obtain ⟨a1, a2, a3, a4⟩ := h2.1 h
    exact h1.2 ⟨a1, a2, by omega, a4⟩
theorem symAt_win {l : List UInt8} {e f k : Nat} (hef : e + f ≤ l.length) (hk : k + 24 ≤ f) : symAt (win l e f) (k : Int) = symAt l (((e + k : Nat)) : Int) := by
  have hw := win_length l e f hef
  apply Option.ext
  intro t
  have h1 := symAt_iff (win l e f) k t
  have h2 := symAt_iff l (e + k) t
  rw [win_win l e f k 24 hk, hw] at h1
  constructor
  · intro h
    obtain ⟨a1, a2, a3⟩ := h1.1 h
    exact h2.2 ⟨a1, by omega, a3⟩
  · intro h
    obtain ⟨a1, a2, a3⟩ := h2.1 h
    exact h1.2 ⟨a1, by omega, a3⟩

/-- Does one of the first i headers tell relocations of header j? -/
def nmAt (L : List Ten) (i : Nat) (j : Int) : Bool := (L.take i).any fun t => t.b == 4 && t.h == j
def nmOf (L : List Ten) (i : Nat) : List Bool := (List.range L.length).map fun (j : Nat) => nmAt L i (j : Int)
theorem nmAt_step {L : List Ten} {i : Nat} {t : Ten} (h : L[i]? = some t) (j : Int) : nmAt L (i + 1) j = (nmAt L i j || (t.b == 4 && t.h == j)) := by
  unfold nmAt
  rw [take_snoc h, List.any_append]
  simp
theorem nmAt_zero (L : List Ten) (j : Int) : nmAt L 0 j = false := rfl
theorem nmOf_get {L : List Ten} {i j : Nat} (hj : j < L.length) : (nmOf L i)[j]?.getD true = nmAt L i (j : Int) := by
  unfold nmOf
  rw [List.getElem?_map, List.getElem?_range hj]
  rfl
theorem nmOf_same {L : List Ten} {i : Nat} {t : Ten} (h : L[i]? = some t) (hb : t.b ≠ 4) : nmOf L (i + 1) = nmOf L i := by
  unfold nmOf
  refine List.map_congr_left fun j _ => ?_
  rw [nmAt_step h, show (t.b == 4) = false by simpa using hb, Bool.false_and, Bool.or_false]
theorem nmOf_set {L : List Ten} {i : Nat} {t : Ten} (h : L[i]? = some t) (hb : t.b = 4) (h0 : 0 ≤ t.h) : nmOf L (i + 1) = (nmOf L i).set t.h.toNat true := by
  apply List.ext_getElem?
  intro j
  unfold nmOf
  rw [List.getElem?_set]
  by_cases hj : j < L.length
  · rw [List.getElem?_map, List.getElem?_range hj, List.getElem?_map, List.getElem?_range hj]
    by_cases he : t.h.toNat = j
    · subst he
      rw [if_pos rfl, if_pos (by simpa using hj)]
      show some (nmAt L (i + 1) _) = _
      rw [nmAt_step h, hb, show (t.h == ((t.h.toNat : Nat) : Int)) = true by simp; omega]
      simp
    · rw [if_neg he]
      show some (nmAt L (i + 1) _) = some (nmAt L i _)
      rw [nmAt_step h, show (t.h == (j : Int)) = false by simp; omega, Bool.and_false, Bool.or_false]
  · rw [List.getElem?_eq_none (by simp; omega), List.getElem?_eq_none (l := List.map _ _) (by simp; omega)]
    split
    · split
      · rename_i h1 h2; subst h1; exact absurd (by simpa using h2) hj
      · rfl
    · rfl
/-- The relocations of header i, as the reference tells them. -/
def refRels (l : List UInt8) (L : List Ten) (i : Nat) (sy : Int) (h : Ten) : Option (List RelD) := relsAt l L sy (nmOf L i) h
end Go.Proofs.YtenmcmnhiejbgaaGreat

namespace Go.Proofs.YtenmcmnhiejbgaaGreat
open Go.RowKit

theorem refHd_some {l : List UInt8} {L : List Ten} {n : Nat} (h : refHd l = some (L, n)) (hok : HeadsOK l.length L) : filB l = match nmGo (toldB l L n) [str []] (L.drop 1) with
    | none => none
    | some ns => some (L, ns) := by
  unfold refHd at h
  unfold filB
  by_cases hl : 16384 < l.length
  · rw [if_pos hl] at h; cases h
  · rw [if_neg hl] at h ⊢
    cases hb : begunB l with
    | none => rw [hb] at h; cases h
    | some x =>
      obtain ⟨a, m, n'⟩ := x
      rw [hb] at h
      simp only at h ⊢
      cases hd : hdGo l a 0 m [] with
      | none => rw [hd] at h; cases h
      | some L' =>
        rw [hd] at h
        simp only at h ⊢
        cases hi : isTy L' n' 3 with
        | false => rw [hi] at h; cases h
        | true =>
          rw [hi] at h
          cases h
          simp only [cond_true]
          have h1 := hi
          unfold isTy at h1
          cases ht : L[n]? with
          | none => rw [ht] at h1; cases h1
          | some t =>
            rw [ht] at h1
            have h3 : t.b = 3 := by simpa using h1
            have h4 : toldB l L n = win l t.e.toNat t.f.toNat := by
              unfold toldB
              rw [ht]
              simp only
              have h5 : n ≠ 0 := fun h0 => by
                subst h0
                have := heads_zero hok ht
                omega
              rw [h3, show ((3 : Int) == 8 || n == 0) = false by simpa using h5]
              rfl
            rw [h4]
            rfl
theorem refHd_none {l : List UInt8} (h : refHd l = none) : filB l = none := by
  unfold refHd at h
  unfold filB
  by_cases hl : 16384 < l.length
  · rw [if_pos hl]
  · rw [if_neg hl] at h ⊢
    cases hb : begunB l with
    | none => rfl
    | some x =>
      obtain ⟨a, m, n'⟩ := x
      rw [hb] at h
      simp only at h ⊢
      cases hd : hdGo l a 0 m [] with
      | none => rfl
      | some L' =>
        rw [hd] at h
        simp only at h ⊢
        cases hi : isTy L' n' 3 with
        | false => rfl
        | true => rw [hi] at h; cases h
theorem gotB_none {l : List UInt8} (h : refHd l = none) : gotB l = none := by
  unfold gotB readB
  rw [refHd_none h]
theorem nmOf_one {L : List Ten} {t : Ten} (h : L[0]? = some t) (hb : t.b = 0) : nmOf L 1 = List.replicate L.length false := by
  rw [nmOf_same h (by rw [hb]; decide)]
  unfold nmOf
  apply List.ext_getElem (by simp)
  intro j h1 h2
  simp [nmAt]
/-- What is known behind header i, as the reference tells it. -/
theorem restGo_zero {l : List UInt8} {L : List Ten} {ns : List Int} {sy : Int} {st : StD} {t : Ten} (h : L[0]? = some t) (hb : t.b = 0) : restGo l L ns sy L st = restGo l L ns sy (L.drop 1) st := by
  have h1 := restGo_step (l := l) (ns := ns) (sy := sy) (st := st) h
  rw [List.drop_zero] at h1
  rw [h1]
  unfold stepB
  rw [hb]
  rfl
/-- What is told of what is known behind all headers. -/
def rEndB (ys : List SymD) (r : Option StD) : Option ObjD := match r with
  | none => none
  | some st => bif shapeB ⟨st.secs, ys, st.groups, st.hasSig, st.sig⟩ then some ⟨st.secs, ys, st.groups, st.hasSig, st.sig⟩ else none
theorem gotB_secs {l : List UInt8} {L : List Ten} {n : Nat} (h : refHd l = some (L, n)) (hok : HeadsOK l.length L) (h1 : 1 ≤ L.length) (hs : refSecs l L n = none) : gotB l = none := by
  rw [refSecs_eq hok h1] at hs
  unfold gotB readB
  rw [refHd_some h hok]
  cases hn : nmGo (toldB l L n) [str []] (L.drop 1) with
  | none => rfl
  | some names =>
    rw [hn] at hs
    simp only at hs ⊢
    rw [hs]
theorem gotB_syms {l : List UInt8} {L : List Ten} {n : Nat} (h : refHd l = some (L, n)) (hok : HeadsOK l.length L) (hs : symsB l L (numGo 0 L) = none) : gotB l = none := by
  unfold gotB readB
  rw [refHd_some h hok]
  cases hn : nmGo (toldB l L n) [str []] (L.drop 1) with
  | none => rfl
  | some names =>
    simp only
    cases secsB l L names with
    | none => rfl
    | some ss => simp only; rw [hs]
theorem gotB_rest {l : List UInt8} {L : List Ten} {n : Nat} {ss : List SecD} {ys : List SymD} (h : refHd l = some (L, n)) (hok : HeadsOK l.length L) (h1 : 1 ≤ L.length) (hs : refSecs l L n = some ss) (hy : symsB l L (numGo 0 L) = some ys) :
    gotB l = rEndB ys (restGo l L (numGo 0 L) ((last2 L L.length : Nat) : Int) (L.drop 1) ⟨ss, [], false, [], nmOf L 1⟩) := by
  rw [refSecs_eq hok h1] at hs
  obtain ⟨t, ht⟩ : ∃ t, L[0]? = some t := ⟨_, List.getElem?_eq_getElem (by omega)⟩
  have hb := heads_zero hok ht
  rw [nmOf_one ht hb, ← restGo_zero ht hb]
  unfold gotB readB
  rw [refHd_some h hok]
  cases hn : nmGo (toldB l L n) [str []] (L.drop 1) with
  | none => rw [hn] at hs; cases hs
  | some names =>
    rw [hn] at hs
    simp only at hs ⊢
    rw [hs]
    simp only
    rw [hy]
    simp only
    cases restGo l L (numGo 0 L) ((last2 L L.length : Nat) : Int) L ⟨ss, [], false, [], List.replicate L.length false⟩ with
    | none => rfl
    | some st => rfl
/-- The step of one header, by its type. -/
theorem rstep_rels {l : List UInt8} {L : List Ten} {ns : List Int} {sy : Int} {i : Nat} {t : Ten} {ss : List SecD} {gs : List GroupD} {hs : Bool} {sg : List Int} (h : L[i]? = some t) (hb : t.b = 4) (h0 : 0 ≤ t.h) : restGo l L ns sy (L.drop i) ⟨ss, gs, hs, sg, nmOf L i⟩ = match refRels l L i sy t with
    | none => none
    | some rs => restGo l L ns sy (L.drop (i + 1)) ⟨setRels ss (ns[t.h.toNat]?.getD 0 - 1).toNat rs, gs, hs, sg, nmOf L (i + 1)⟩ := by
  rw [restGo_step h, nmOf_set h hb h0]
  unfold stepB refRels
  rw [hb]
  cases relsAt l L sy (nmOf L i) t <;> rfl
theorem rstep_group {l : List UInt8} {L : List Ten} {ns : List Int} {sy : Int} {i : Nat} {t : Ten} {ss : List SecD} {gs : List GroupD} {hs : Bool} {sg : List Int} (h : L[i]? = some t) (hb : t.b = 17) : restGo l L ns sy (L.drop i) ⟨ss, gs, hs, sg, nmOf L i⟩ = match groupAt l L ns sy t with
    | none => none
    | some g => restGo l L ns sy (L.drop (i + 1)) ⟨ss, gs ++ [g], hs, sg, nmOf L (i + 1)⟩ := by
  rw [restGo_step h, nmOf_same h (by omega)]
  unfold stepB
  rw [hb]
  cases hg : groupAt l L ns sy t <;> simp
theorem rstep_sig {l : List UInt8} {L : List Ten} {ns : List Int} {sy : Int} {i : Nat} {t : Ten} {ss : List SecD} {gs : List GroupD} {hs : Bool} {sg : List Int} (h : L[i]? = some t) (hb : t.b = 1879002115) : restGo l L ns sy (L.drop i) ⟨ss, gs, hs, sg, nmOf L i⟩ = match sigGo l hs sy t with
    | none => none
    | some xs => restGo l L ns sy (L.drop (i + 1)) ⟨ss, gs, true, xs, nmOf L (i + 1)⟩ := by
  rw [restGo_step h, nmOf_same h (by omega)]
  unfold stepB
  rw [hb]
  cases hg : sigGo l hs sy t <;> simp
theorem rstep_other {l : List UInt8} {L : List Ten} {ns : List Int} {sy : Int} {i : Nat} {t : Ten} {ss : List SecD} {gs : List GroupD} {hs : Bool} {sg : List Int} (h : L[i]? = some t) (h4 : t.b ≠ 4) (h17 : t.b ≠ 17) (hsg : t.b ≠ 1879002115) : restGo l L ns sy (L.drop i) ⟨ss, gs, hs, sg, nmOf L i⟩ = restGo l L ns sy (L.drop (i + 1)) ⟨ss, gs, hs, sg, nmOf L (i + 1)⟩ := by
  rw [restGo_step h, nmOf_same h h4]
  unfold stepB
  rw [show (t.b == 4) = false by simpa using h4, show (t.b == 17) = false by simpa using h17, show (t.b == 1879002115) = false by simpa using hsg]
  rfl
theorem symGo_bd {l : List UInt8} {ns : List Int} {tb : List UInt8} {a : Int} (hn : ∀ n ∈ ns, 0 ≤ n ∧ n ≤ 100000) : ∀ (m i : Nat) (acc ys : List SymD), (∀ y ∈ acc, y.bd) → symGo l ns tb a i m acc = some ys → ∀ y ∈ ys, y.bd
  | 0, _, acc, ys, ha, h => by cases h; exact ha
  | m + 1, i, acc, ys, ha, h => by
    rw [symGo_step] at h
    cases hs : symB l ns tb (a + 24 * (i : Int)) with
    | none => rw [hs] at h; cases h
    | some s =>
      rw [hs] at h
      refine symGo_bd hn m (i + 1) (acc ++ [s]) ys (fun y hy => ?_) h
      rcases List.mem_append.1 hy with hy | hy
      · exact ha y hy
      · obtain rfl := List.mem_singleton.1 hy
        exact symB_bd hn hs
theorem symsB_bd {l : List UInt8} {L : List Ten} {ns : List Int} {ys : List SymD} (hn : ∀ n ∈ ns, 0 ≤ n ∧ n ≤ 100000) (h : symsB l L ns = some ys) : ∀ y ∈ ys, y.bd := by
  unfold symsB at h
  cases h1 : (cnt2 L L.length == 1) with
  | false => rw [h1] at h; cases h
  | true =>
    rw [h1] at h
    cases h2 : L[last2 L L.length]? with
    | none => simp [h2] at h
    | some t =>
      simp only [h2, cond_true] at h
      unfold symsAt at h
      cases h3 : (t.j == 24) && (t.f.tmod 24 == 0) with
      | false => rw [h3] at h; cases h
      | true =>
        rw [h3] at h
        cases h4 : isTy L t.g.toNat 3 with
        | false => rw [h4] at h; cases h
        | true =>
          rw [h4] at h
          cases h5 : L[t.g.toNat]? with
          | none => simp [h5] at h
          | some u =>
            simp only [h5, cond_true] at h
            cases h6 : symGo l ns (win l u.e.toNat u.f.toNat) t.e 0 (t.f.toNat / 24) [] with
            | none => simp [h6] at h
            | some zs =>
              simp only [h6] at h
              cases h7 : (((cntL zs : Nat) : Int) == t.h) with
              | false => rw [h7] at h; cases h
              | true =>
                rw [h7] at h
                cases h
                exact symGo_bd hn _ _ _ _ (fun y hy => by cases hy) h6
theorem relGo_bd {l : List UInt8} {a : Int} : ∀ (m i : Nat) (acc rs : List RelD), (∀ y ∈ acc, y.bd) → relGo l a i m acc = some rs → ∀ y ∈ rs, y.bd
  | 0, _, acc, rs, ha, h => by cases h; exact ha
  | m + 1, i, acc, rs, ha, h => by
    rw [relGo_step] at h
    cases hs : relAt l (a + 24 * (i : Int)) with
    | none => rw [hs] at h; cases h
    | some s =>
      rw [hs] at h
      refine relGo_bd m (i + 1) (acc ++ [relOf s]) rs (fun y hy => ?_) h
      rcases List.mem_append.1 hy with hy | hy
      · exact ha y hy
      · obtain rfl := List.mem_singleton.1 hy
        exact relAt_bd hs
theorem relsAt_bd {l : List UInt8} {L : List Ten} {sy : Int} {nm : List Bool} {h : Ten} {rs : List RelD} (hr : relsAt l L sy nm h = some rs) : ∀ y ∈ rs, y.bd := by
  unfold relsAt at hr
  cases h1 : (h.j == 24) && (h.f.tmod 24 == 0) with
  | false => rw [h1] at hr; cases hr
  | true =>
    rw [h1] at hr
    cases h2 : (h.g != sy) with
    | true => rw [h2] at hr; cases hr
    | false =>
      rw [h2] at hr
      cases h3 : isTy L h.h.toNat 1 with
      | false => rw [h3] at hr; cases hr
      | true =>
        rw [h3] at hr
        cases h4 : nm[h.h.toNat]?.getD true with
        | true => rw [h4] at hr; cases hr
        | false =>
          rw [h4] at hr
          exact relGo_bd _ _ _ _ (fun y hy => by cases hy) hr
theorem mbrGo_bd {l : List UInt8} {L : List Ten} {ns : List Int} {a : Nat} (hn : ∀ n ∈ ns, 0 ≤ n ∧ n ≤ 100000) : ∀ (m i : Nat) (acc r : List Int), (∀ y ∈ acc, i64bd y) → mbrGo l L ns a i m acc = some r → ∀ y ∈ r, i64bd y
  | 0, _, acc, r, ha, h => by cases h; exact ha
  | m + 1, i, acc, r, ha, h => by
    rw [mbrGo_step] at h
    cases h1 : isTy L (num (win l (a + 4 * i) 4)) 4 with
    | true =>
      rw [h1] at h
      exact mbrGo_bd hn m (i + 1) acc r ha h
    | false =>
      rw [h1] at h
      cases h2 : (ns[num (win l (a + 4 * i) 4)]?.getD 0 == 0) with
      | true => rw [h2] at h; cases h
      | false =>
        rw [h2] at h
        refine mbrGo_bd hn m (i + 1) _ r (fun y hy => ?_) h
        rcases List.mem_append.1 hy with hy | hy
        · exact ha y hy
        · obtain rfl := List.mem_singleton.1 hy
          cases hg : ns[num (win l (a + 4 * i) 4)]? with
          | none => exact ⟨by decide, by decide⟩
          | some n => have := hn n (List.mem_of_getElem? hg); exact ⟨by show _ ≤ n; omega, by show n ≤ _; omega⟩
theorem groupAt_bd {l : List UInt8} {L : List Ten} {ns : List Int} {sy : Int} {h : Ten} {g : GroupD} (hn : ∀ n ∈ ns, 0 ≤ n ∧ n ≤ 100000) (hg : groupAt l L ns sy h = some g) : g.sym = h.h ∧ ∀ y ∈ g.members, i64bd y := by
  unfold groupAt at hg
  cases h1 : (h.j == 4) && (h.f.tmod 4 == 0) with
  | false => rw [h1] at hg; cases hg
  | true =>
    rw [h1] at hg
    cases h2 : (h.g != sy) with
    | true => rw [h2] at hg; cases hg
    | false =>
      rw [h2] at hg
      cases h3 : (h.f == 0) with
      | true => rw [h3] at hg; cases hg
      | false =>
        rw [h3] at hg
        cases h4 : (((num (win l h.e.toNat 4) : Nat) : Int) != 1) with
        | true => rw [h4] at hg; cases hg
        | false =>
          rw [h4] at hg
          cases h5 : mbrGo l L ns (h.e.toNat + 4) 0 (h.f.toNat / 4 - 1) [] with
          | none => simp [h5] at hg
          | some r =>
            simp only [h5, cond_true, cond_false, Option.map_some, Option.some.injEq] at hg
            subst hg
            exact ⟨rfl, mbrGo_bd hn _ _ _ _ (fun y hy => by cases hy) h5⟩
theorem refSecs_len {l : List UInt8} {L : List Ten} {n : Nat} {ss : List SecD} (hok : HeadsOK l.length L) (h1 : 1 ≤ L.length) (h : refSecs l L n = some ss) : ss.length = cntS L := by
  rw [refSecs_eq hok h1] at h
  cases hn : nmGo (toldB l L n) [str []] (L.drop 1) with
  | none => rw [hn] at h; cases h
  | some names => rw [hn] at h; exact secsB_len h
end Go.Proofs.YtenmcmnhiejbgaaGreat

namespace Go.Proofs.YtenmcmnhiejbgaaGreat
open Go.RowKit

def GivesRRels (r : Option (List RelD)) (w : World) (e : Ending) (w' : World) : Prop := Below w.heap.size w w' ∧ ((r = none ∧ e = .returned (.tuple #[.slice none 0 0, .bool false])) ∨
  ∃ (p : Option Addr) (c : Nat) (rs : List RelD), r = some rs ∧ e = .returned (.tuple #[.slice p rs.length c, .bool true]) ∧ w'.ownsRow w.heap.size 89 4 (.slice p rs.length c) rs.length (rs.flatMap relC))
theorem nmAt_yes {L : List Ten} {i k : Nat} {t : Ten} {j : Int} (h : L[k]? = some t) (hk : k < i) (hb : (t.b == 4) = true) (hj : (t.h == j) = true) : nmAt L i j = true := by
  unfold nmAt
  rw [List.any_eq_true]
  refine ⟨t, List.mem_of_getElem? (i := k) (by rw [List.getElem?_take, if_pos hk]; exact h), by rw [hb, hj]; rfl⟩
/-- What Rel tells, with a letter for what it tells and whether it does. -/
theorem rel_let (o : Option Fou) : ∃ (t : Fou) (ok : Bool), relV o = (t.v, ok) ∧ (ok = true → o = some t) ∧ (ok = false → o = none) := by
  cases o with
  | none => exact ⟨fou0, false, rfl, (fun h => by cases h), fun _ => rfl⟩
  | some t => exact ⟨t, true, rfl, (fun _ => rfl), fun h => by cases h⟩
theorem four_cells (w : World) (g : Nat) (v0 v1 v2 v3 : Value) (T : TypeId) (h : w.heap[g]? = some (.cells #[v0, v1, v2, v3] T (0, 0))) : w.cell? ⟨g, 0, none⟩ = some v0 ∧ w.cell? ⟨g, 1, none⟩ = some v1 ∧ w.cell? ⟨g, 2, none⟩ = some v2 ∧ w.cell? ⟨g, 3, none⟩ = some v3 := by
  refine ⟨?_, ?_, ?_, ?_⟩ <;> exact (cell_of_row _ _ _ _ _ (0, 0) h).trans rfl

theorem rel_call (p : Option Addr) (len cap : Nat) (l : List UInt8) (at_ : Int) (w : World) (h : Has w p l) (hlen : l.length = len) (hcap : len ≤ cap) (hbig : len ≤ 1000000000) (ha : at_ ≤ 9223372036854775807) (t : Fou) (ok : Bool) (hsv : relV (relAt l at_) = (t.v, ok)) :
    Calls Tryz.prog 61 #[.slice p len cap, .int .i64 at_] w fun e w' => e = .returned (.tuple #[.agg #[.int .i64 t.a, .int .i64 t.b, .int .i64 t.c, .int .i64 t.d], .bool ok]) ∧ Below w.heap.size w w' := by
  have := rel_any p len cap l at_ w h hlen hcap hbig ha
  rw [hsv] at this
  exact this
set_option maxRecDepth 100000 in
set_option maxHeartbeats 8000000 in
theorem rRels_any (F i sy : Nat) (h : Ten) (bp : Option Addr) (bc : Nat) (l : List UInt8) (hp : Option Addr) (hc : Nat) (L : List Ten) (w : World) (hf : RFile w F bp bc l hp hc L) (hi1 : 1 ≤ i) (hh : L[i]? = some h) (hb4 : h.b = 4) (_hsy : sy ≤ 100000) :
    Calls Tryz.prog 27 #[filP F, .int .i64 (i : Int), .int .i64 (sy : Int)] w (GivesRRels (refRels l L i (sy : Int) h) w) := by
  obtain ⟨i0, hi, hz0, hz1, hz2⟩ := info_parts Tryz.infoRel
  have HI := Lib.hid hi
  have H0 := Lib.hid hz0
  have H1 := Lib.hid hz1
  have H2 := Lib.hid hz2
  have hiL : i < L.length := (List.getElem?_eq_some_iff.1 hh).1
  have hm := (hf.ok i h hh).1
  have he := (fitsB_iff _).1 (hm h.e (by simp [Ten.l]))
  have hff := (fitsB_iff _).1 (hm h.f (by simp [Ten.l]))
  have hhh := (fitsB_iff _).1 (hm h.h (by simp [Ten.l]))
  have hin := heads_in hf.ok hh (by omega)
  obtain ⟨eo, heo⟩ := Int.eq_ofNat_of_zero_le he.1
  obtain ⟨fo, hfo⟩ := Int.eq_ofNat_of_zero_le hff.1
  obtain ⟨th, hth⟩ := Int.eq_ofNat_of_zero_le hhh.1
  have hbig := hf.big
  have hLl := hf.hl
  have hef : eo + fo ≤ l.length := by omega
  have htd := told_has hf i
  have htB : toldB l L i = win l eo fo := by
    unfold toldB
    rw [hh]
    simp only
    rw [hb4, heo, hfo, Int.toNat_natCast, Int.toNat_natCast, show ((4 : Int) == 8 || i == 0) = false by simp; omega]
    rfl
  have hwl := win_length l eo fo hef
  rw [htB, hwl] at htd
  have HRF := Lib.hid fun W (hW : Below w.heap.size w W) => hf.below hW
  have HTI := Lib.hid fun W (hW : Below w.heap.size w W) => (show Calls Tryz.prog 31 #[filP F, .int .i64 (i : Int)] W fun e w' => e = .returned (.slice (toldP bp bc L i) fo (toldC bc L i)) ∧ Below W.heap.size W w' by
    have := rTold_any F i bp bc l hp hc L W (hf.below hW) hiL
    rw [htB, hwl] at this
    exact this)
  have HRA := Lib.hid fun W (hW : Below w.heap.size w W) (k : Nat) (hk : k ≤ 100000) (t : Fou) (ok : Bool) (hsv : relV (relAt (win l eo fo) (k : Int)) = (t.v, ok)) => rel_call (toldP bp bc L i) fo (toldC bc L i) (win l eo fo) (k : Int) W (htd.1.below hW) hwl htd.2.1 (by omega) (by omega) t ok hsv
  have HWN := Lib.hid fun (k : Nat) (hk : k + 24 ≤ fo) => relAt_win (l := l) hef hk
  have HIS := Lib.hid fun W (hW : Below w.heap.size w W) => rIs_any F th 1 bp bc l hp hc L W (hf.below hW) (by decide)
  have hrs : refRels l L i (sy : Int) h = bif (h.j == 24) && ((fo : Int) % 24 == 0) then
      bif h.g != (sy : Int) then none else bif isTy L th 1 then bif (nmOf L i)[th]?.getD true then none else relGo l (eo : Int) 0 (fo / 24) [] else none
    else none := by
    unfold refRels relsAt
    rw [heo, hfo, hth, Int.toNat_natCast, Int.toNat_natCast, show ((fo : Int).tmod 24) = (fo : Int) % 24 from Int.tmod_eq_emod_of_nonneg (by omega)]
  have HRS := Lib.hid hrs
  generalize refRels l L i (sy : Int) h = res at *
  have HGV : Hid (GivesRRels res w = fun e w' => Below w.heap.size w w' ∧ ((res = none ∧ e = .returned (.tuple #[.slice none 0 0, .bool false])) ∨
    ∃ (p : Option Addr) (c : Nat) (rs : List RelD), res = some rs ∧ e = .returned (.tuple #[.slice p rs.length c, .bool true]) ∧ w'.ownsRow w.heap.size 89 4 (.slice p rs.length c) rs.length (rs.flatMap relC))) := Lib.hid rfl
  rw [HGV.out]
  clear HGV
  obtain ⟨b, off, t', hpe, ht', e0, e1, e2, e3, e4, e5, e6, e7, e8, e9⟩ := hf.h.at_ (i := i) hiL
  obtain rfl : t' = h := by rw [hh] at ht'; cases ht'; rfl
  subst hpe
  have c1 := hf.c1
  generalize hln : L.length = ln at *
  have HLN := Lib.hid hln
  have HTHH := Lib.hid hth
  have HFO := Lib.hid hfo
  have HB4 := Lib.hid hb4
  have hJ : (i : Int) < (ln : Int) := by omega
  have hJ0 : (0 : Int) ≤ (i : Int) := by omega
  clear hi hz0 hz1 hz2 hf hh hm hrs ht' htd htB hwl hln he hff hhh hin hb4 heo hth hfo
  generalize toldP bp bc L i = dp at *
  generalize toldC bc L i = dc at *
  go_enter Tryz.func27, Tryz.ntmps27
  generalize hB : w.heap.size = B at *
  have HB := Lib.hid hB
  go_upto_region 3 with fail
  have hb1 : Below B w (w.alloc (.cells #[.int .i64 t'.a, .int .i64 t'.b, .int .i64 t'.c, .int .i64 t'.d, .int .i64 t'.e, .int .i64 t'.f, .int .i64 t'.g, .int .i64 t'.h, .int .i64 t'.i, .int .i64 t'.j] 54)) := by rw [← hB]; exact (Below.refl _ w).alloc (Nat.le_refl _) _
  have hgh := heap_alloc_new w (.cells #[.int .i64 t'.a, .int .i64 t'.b, .int .i64 t'.c, .int .i64 t'.d, .int .i64 t'.e, .int .i64 t'.f, .int .i64 t'.g, .int .i64 t'.h, .int .i64 t'.i, .int .i64 t'.j] 54)
  rw [hB] at hgh
  have hs1 : B < (w.alloc (.cells #[.int .i64 t'.a, .int .i64 t'.b, .int .i64 t'.c, .int .i64 t'.d, .int .i64 t'.e, .int .i64 t'.f, .int .i64 t'.g, .int .i64 t'.h, .int .i64 t'.i, .int .i64 t'.j] 54)).heap.size := by simp; omega
  generalize w.alloc (.cells #[.int .i64 t'.a, .int .i64 t'.b, .int .i64 t'.c, .int .i64 t'.d, .int .i64 t'.e, .int .i64 t'.f, .int .i64 t'.g, .int .i64 t'.h, .int .i64 t'.i, .int .i64 t'.j] 54) = w1 at *
  have HS1 := Lib.hid hs1
  obtain ⟨x0, x1, x2, x3, x4, x5, x6, x7, x8, x9⟩ := cells_ten _ _ _ _ _ _ _ _ _ _ _ _ _ hgh
  rw [HTHH.out] at x7
  rw [HFO.out] at x5
  have hgh2 := hgh
  rw [HTHH.out, HFO.out] at hgh2
  have HGH := Lib.hid hgh2
  clear hgh2
  have HI1 := Lib.hid (HIS.out w1 hb1)
  generalize hpr : isTy L th 1 = pr at *
  have hB1 : B ≤ w1.heap.size := Nat.le_of_lt hs1
  clear e0 e1 e2 e3 e4 e5 e6 e7 e8 e9 c1 hgh HIS hs1
  obtain ⟨bad, hbad⟩ : ∃ bad, bad = ((t'.j != 24) || (((fo : Int) % 24 != 0) || ((t'.g != (sy : Int)) || !pr))) := ⟨_, rfl⟩
  have HBAD := Lib.hid hbad
  clear hbad
  go_upto_region 4 with (first | (go_at_call 57; refine HI1.out.mono ?_; rintro e w2 ⟨rfl, rfl⟩) | fail)
  go_cut [44] (fun s44 wx => s44 = .bool bad ∧ w1 = wx)
  case first =>
    cases hj : (t'.j != 24) with
    | true =>
      obtain rfl : bad = true := by rw [HBAD.out, hj]; rfl
      go_wp2_with fail
      go_meet
      exact ⟨rfl, rfl⟩
    | false =>
      cases hmd : ((fo : Int) % 24 != 0) with
      | true =>
        obtain rfl : bad = true := by rw [HBAD.out, hj, hmd]; rfl
        go_wp2_with fail
        go_meet
        exact ⟨rfl, rfl⟩
      | false =>
        cases hgg : (t'.g != (sy : Int)) with
        | true =>
          obtain rfl : bad = true := by rw [HBAD.out, hj, hmd, hgg]; rfl
          go_wp2_with fail
          go_meet
          exact ⟨rfl, rfl⟩
        | false =>
          obtain rfl : bad = !pr := by rw [HBAD.out, hj, hmd, hgg]; rfl
          go_wp2_with fail
          go_meet
          exact ⟨rfl, rfl⟩
  case rest =>
    obtain ⟨rfl, rfl⟩ := hcut
    cases bad with
    | true =>
      have hE : Hid (res = none) := Lib.hid (by
        have hb := HBAD.out
        rw [HRS.out]
        cases hj : (t'.j == 24) with
        | false => rfl
        | true =>
          cases hmd : ((fo : Int) % 24 == 0) with
          | false => rfl
          | true =>
            cases hgg : (t'.g != (sy : Int)) with
            | true => rfl
            | false =>
              rw [show (t'.j != 24) = false by unfold bne; rw [hj]; rfl, show ((fo : Int) % 24 != 0) = false by unfold bne; rw [hmd]; rfl, hgg] at hb
              have : pr = false := by simpa using hb.symm
              rw [this]
              rfl)
      go_wp2_with fail
      exact bodyPost_ret (v := .tuple #[.slice none 0 0, .bool false]) (by simp [results, Tryz.results27, go_sem]) rfl ⟨by first | exact hb1 | (rw [hB]; exact hb1), .inl ⟨hE.out, rfl⟩⟩
    | false =>
      have hR2 : res = bif nmAt L i (th : Int) then none else relGo l (eo : Int) 0 (fo / 24) [] := by
        have hb := HBAD.out
        simp only [Bool.false_eq, Bool.or_eq_false_iff, Bool.not_eq_false'] at hb
        obtain ⟨hj, hmd, hgg, hp⟩ := hb
        have hj2 : (t'.j == 24) = true := by simpa [bne] using hj
        have hm2 : ((fo : Int) % 24 == 0) = true := by simpa [bne] using hmd
        have hlt : th < L.length := by
          have h1 := hpr
          rw [hp] at h1
          unfold isTy at h1
          cases h2 : L[th]? with
          | none => rw [h2] at h1; cases h1
          | some _ => exact (List.getElem?_eq_some_iff.1 h2).1
        rw [HRS.out, hj2, hm2, hgg, hp, nmOf_get hlt]
        rfl
      have h24 : fo % 24 = 0 := by
        have hb := HBAD.out
        simp only [Bool.false_eq, Bool.or_eq_false_iff, Bool.not_eq_false'] at hb
        have hm2 : ((fo : Int) % 24 == 0) = true := by simpa [bne] using hb.2.1
        have h1 : (fo : Int) % 24 = 0 := by simpa using hm2
        omega
      have HR2 := Lib.hid hR2
      clear hR2 HRS HBAD hpr
      go_wp2_with fail
      go_loopw [11] (fun r11 wr => ∃ k : Nat, 1 ≤ k ∧ k ≤ i ∧ r11 = .int .i64 (k : Int) ∧ nmAt L k (th : Int) = false ∧ Below w1.heap.size w1 wr) (fun r11 _ => i - (intOf r11).toNat)
      case atStart =>
        refine ⟨1, Nat.le_refl _, hi1, rfl, ?_, Below.refl _ _⟩
        obtain ⟨t0, ht0⟩ : ∃ t0, L[0]? = some t0 := ⟨_, List.getElem?_eq_getElem (by rw [HLN.out]; omega)⟩
        rw [nmAt_step ht0, nmAt_zero, heads_zero (HRF.out w1 hb1).ok ht0]
        rfl
      case round =>
        obtain ⟨k, hk1, hk2, rfl, hnm, hbr⟩ := hrel
        have HNM := Lib.hid hnm
        have y7 := cell_later hbr x7
        have y5 := cell_later hbr x5
        have hbr1 : Below B w wr := hb1.trans (hbr.mono hB1)
        clear hnm
        by_cases hlt : k < i
        · have hrf := HRF.out wr hbr1
          obtain ⟨b', off', u, hpe2, hu, _, u1, _, _, _, _, _, u7, _⟩ := hrf.h.at_ (i := k) (by rw [HLN.out]; omega)
          cases hpe2
          have c1 := hrf.c1
          rw [HLN.out] at c1
          have HU := Lib.hid hu
          have hK : (k : Int) < (i : Int) := by omega
          have hK1 : (k : Int) < (ln : Int) := by omega
          have hK0 : (0 : Int) ≤ (k : Int) := by omega
          obtain ⟨mt, hmt⟩ : ∃ mt, mt = (u.b == 4 && u.h == (th : Int)) := ⟨_, rfl⟩
          have HMT := Lib.hid hmt
          clear hrf hu hmt
          go_upto_region 9 with fail
          go_cut [71] (fun s71 wx => s71 = .bool mt ∧ Below w1.heap.size w1 wx)
          case first =>
            cases hb4 : (u.b == 4) with
            | false =>
              obtain rfl : mt = false := by rw [HMT.out, hb4]; rfl
              go_quiet (fail)
              go_wp2_with fail
              go_meet
              exact ⟨rfl, below_drewN hbr _⟩
            | true =>
              obtain rfl : mt = (u.h == (th : Int)) := by rw [HMT.out, hb4]; rfl
              go_quiet (fail)
              go_wp2_with fail
              go_meet
              exact ⟨rfl, below_drewN hbr _⟩
          case rest =>
            obtain ⟨rfl, hbx⟩ := hcut
            cases mt with
            | true =>
              have hm3 := HMT.out.symm
              rw [Bool.and_eq_true] at hm3
              have hE : Hid (res = none) := Lib.hid (by rw [HR2.out, nmAt_yes HU.out hlt hm3.1 hm3.2]; rfl)
              have hbx1 : Below B w wc := hb1.trans (hbx.mono hB1)
              go_wp2_with fail
              exact bodyPost_ret (v := .tuple #[.slice none 0 0, .bool false]) (by simp [results, Tryz.results27, go_sem]) rfl ⟨by first | exact hbx1 | (rw [hB]; exact hbx1), .inl ⟨hE.out, rfl⟩⟩
            | false =>
              have hN2 : Hid (nmAt L (k + 1) (th : Int) = false) := Lib.hid (by rw [nmAt_step HU.out, HNM.out, ← HMT.out]; rfl)
              go_wp2_with fail
              go_roundw
              case rel => exact ⟨k + 1, by omega, hlt, by go_num, hN2.out, hbx⟩
              case measure => simp [intOf]; omega
        · obtain rfl : k = i := by omega
          have hK : ¬ (k : Int) < (k : Int) := by omega
          have hR3 : Hid (res = relGo l (eo : Int) 0 (fo / 24) []) := Lib.hid (by rw [HR2.out, HNM.out]; rfl)
          clear HR2 HNM
          generalize wr = wo at *
          have HG0 := Lib.hid ((hbr.block _ (by have := HS1.out; exact this)).trans HGH.out)
          go_wp2_with fail
          go_loopw [8, 12, 13, 14] (fun r8 r12 _ _ wr => ∃ (m : Nat) (acc : List RelD) (p : Option Addr) (c : Nat), 24 * m ≤ fo ∧ r12 = .int .i64 ((24 * m : Nat) : Int) ∧ r8 = .slice p acc.length c ∧ acc.length = m ∧ relGo l (eo : Int) 0 (fo / 24) [] = relGo l (eo : Int) m (fo / 24 - m) acc ∧ wr.ownsRow B 89 4 (.slice p acc.length c) acc.length (acc.flatMap relC) ∧ Below B w wr ∧ wr.heap[B]? = some (.cells #[.int .i64 t'.a, .int .i64 t'.b, .int .i64 t'.c, .int .i64 t'.d, .int .i64 t'.e, .int .i64 (fo : Int), .int .i64 t'.g, .int .i64 (th : Int), .int .i64 t'.i, .int .i64 t'.j] 54 (0, 0))) (fun _ r12 _ _ _ => fo - (intOf r12).toNat)
          case atStart => exact ⟨0, [], none, 0, Nat.zero_le _, rfl, rfl, rfl, rfl, World.ownsRow_nil _ _ _ _, hbr1, HG0.out⟩
          case round =>
            obtain ⟨m, acc, p, c, hm1, rfl, rfl, hal, hgo, hown, hbw, hgb⟩ := hrel
            have HGO := Lib.hid hgo
            have HOWN := Lib.hid hown
            have HGB := Lib.hid hgb
            have hBw : B < wr.heap.size := (Array.getElem?_eq_some_iff.1 hgb).1
            have z5 := (cells_ten _ _ _ _ _ _ _ _ _ _ _ _ _ hgb).2.2.2.2.2.1
            have HAC := Lib.hid hal
            have hacl : acc.length ≤ 100000 := by omega
            clear hgo hown y5 y7 hbr hal hgb
            by_cases hlt : 24 * m < fo
            · have hmf : m < fo / 24 := by omega
              have hTW := HTI.out wr (by first | exact hbw | (rw [hB]; exact hbw))
              have HTW := Lib.hid hTW
              obtain ⟨t, ok, hsv, hok1, hok0⟩ := rel_let (relAt (win l eo fo) ((24 * m : Nat) : Int))
              have hstep : relGo l (eo : Int) m (fo / 24 - m) acc = match relAt (win l eo fo) ((24 * m : Nat) : Int) with
                | none => none
                | some t => relGo l (eo : Int) (m + 1) (fo / 24 - (m + 1)) (acc ++ [relOf t]) := by
                rw [HWN.out (24 * m) (by omega), show fo / 24 - m = (fo / 24 - (m + 1)) + 1 by omega, relGo_step]
                rw [show ((eo + 24 * m : Nat) : Int) = (eo : Int) + 24 * (m : Int) by omega]
                rfl
              have HSTEP := Lib.hid hstep
              have HRW := Lib.hid fun W (hW : Below wr.heap.size wr W) => HRA.out W (hbw.trans (hW.mono (Nat.le_of_lt hBw))) (24 * m) (by omega) t ok hsv
              have HOK1 := Lib.hid hok1
              have HOK0 := Lib.hid hok0
              have hK : ((24 * m : Nat) : Int) < (fo : Int) := by omega
              obtain ⟨mm, hmm⟩ : ∃ mm, mm = 24 * m := ⟨_, rfl⟩
              rw [← hmm] at HRW hK hlt ⊢
              have HMM := Lib.hid hmm
              clear hstep hsv hok1 hok0 hTW hmm hm1
              go_upto_region 15 with (first
                | (go_at_call 31; refine HTW.out.mono ?_; rintro e w3 ⟨rfl, hb3⟩)
                | (go_at_call 61; refine (HRW.out _ (by first | exact hb3 | exact Below.refl _ _ | fail)).mono ?_; rintro e w4 ⟨rfl, hb4⟩)
                | fail)
              have hb34 := hb3.trans (hb4.mono hb3.size)
              have hb5 : Below wr.heap.size wr (w4.alloc (.cells #[.int .i64 t.a, .int .i64 t.b, .int .i64 t.c, .int .i64 t.d] 89)) := hb34.alloc hb34.size _
              have hbB : Below B w (w4.alloc (.cells #[.int .i64 t.a, .int .i64 t.b, .int .i64 t.c, .int .i64 t.d] 89)) := hbw.trans (hb5.mono (Nat.le_of_lt hBw))
              have hg4 := heap_alloc_new w4 (.cells #[.int .i64 t.a, .int .i64 t.b, .int .i64 t.c, .int .i64 t.d] 89)
              have hown5 := owns_belowN HOWN.out hb5
              have hg5 := (hb5.block _ hBw).trans HGB.out
              have hB5 : B < (w4.alloc (.cells #[.int .i64 t.a, .int .i64 t.b, .int .i64 t.c, .int .i64 t.d] 89)).heap.size := Nat.lt_of_lt_of_le hBw hb5.size
              generalize w4.alloc (.cells #[.int .i64 t.a, .int .i64 t.b, .int .i64 t.c, .int .i64 t.d] 89) = w5 at *
              generalize w4.heap.size = g4 at *
              obtain ⟨r0, r1, r2, r3⟩ := four_cells _ _ _ _ _ _ _ hg4
              have HO5 := Lib.hid hown5
              have HG5 := Lib.hid hg5
              have HBB := Lib.hid hbB
              clear hb3 hb4 hb34 hb5 hg4 hown5 hg5 hbB HTW HRW z5
              cases ok with
              | false =>
                have hE : Hid (res = none) := Lib.hid (by rw [hR3.out, HGO.out, HSTEP.out, HOK0.out rfl])
                go_wp2_with fail
                exact bodyPost_ret (v := .tuple #[.slice none 0 0, .bool false]) (by simp [results, Tryz.results27, go_sem]) rfl ⟨by first | exact HBB.out | (rw [hB]; exact HBB.out), .inl ⟨hE.out, rfl⟩⟩
              | true =>
                have hgo2 : Hid (relGo l (eo : Int) 0 (fo / 24) [] = relGo l (eo : Int) (m + 1) (fo / 24 - (m + 1)) (acc ++ [relOf t])) := Lib.hid (by rw [HGO.out, HSTEP.out, HOK1.out rfl])
                have k1 : IntKind.i64.wrap ((mm : Int) + 24) = ((mm + 24 : Nat) : Int) := by rw [show (mm : Int) + 24 = ((mm + 24 : Nat) : Int) by omega]; exact IntWalk.i64_in _ (by omega)
                have hmd : mm + 24 = 24 * (m + 1) := by have := HMM.out; omega
                have HMD := Lib.hid hmd
                have hlt3 : 24 * (m + 1) ≤ fo := by have := HMM.out; omega
                clear hmd
                go_wp2_with (at_builtin; refine wpList_append_own _ rfl (.tmp 88) (.tmp 90) 46 rfl B 89 i0 _ 4 32 Tryz.underlying46 HI.out H0.out H1.out H2.out rfl (by decide) _ acc.length _ rfl (HO5.out.alloc _) ⟨w5.heap.size, 0, none⟩ 1 1 (relC (relOf t)) rfl rfl (ten_cell_at w5 #[.int .i64 t.a, .int .i64 t.b, .int .i64 t.c, .int .i64 t.d] 89) (rel_cells_one _) (by unfold maxLen; omega) (by omega) (by simp; omega) ?_)
                intro v6 w6 hown6 hg6 _
                obtain ⟨p6, c6, rfl, _, _, _⟩ := slice_form hown6
                have hfg : FrT 0 [89] _ w6 := FrT.grown (HO5.out.alloc _) hg6 (by simp) (Nat.zero_le _)
                rw [← flat_snoc] at hown6
                have hb6 : Below B w w6 := (HBB.out.alloc (Nat.le_of_lt hB5) _).grown hg6 (by simp; omega) (fun k hk => (HO5.out.lt k hk).1)
                have h64 := hfg.heap (block_new HG5.out) (by decide)
                have HO6 := Lib.hid hown6
                have HB6 := Lib.hid hb6
                have HG6 := Lib.hid h64
                clear hg6 hfg hown6 hb6 h64
                go_wp2_with fail
                go_roundw
                case rel => exact ⟨m + 1, acc ++ [relOf t], p6, c6, hlt3, by rw [← HMD.out]; go_num, by rw [List.length_append]; rfl, by rw [List.length_append, HAC.out]; rfl, hgo2.out, by rw [List.length_append]; exact HO6.out, HB6.out, HG6.out⟩
                case measure => simp [intOf]; omega
            · have hm24 : 24 * m = fo := by omega
              have hK : ¬ ((24 * m : Nat) : Int) < (fo : Int) := by omega
              have hE : Hid (res = some acc) := Lib.hid (by rw [hR3.out, HGO.out, show fo / 24 - m = 0 by omega]; rfl)
              clear hm24
              generalize 24 * m = mm at *
              go_wp2_with fail
              exact bodyPost_ret (v := .tuple #[.slice p acc.length c, .bool true]) (by simp [results, Tryz.results27, go_sem]) rfl ⟨by first | exact hbw | (rw [hB]; exact hbw), .inr ⟨p, c, acc, hE.out, rfl, by first | exact HOWN.out | (rw [hB]; exact HOWN.out)⟩⟩
end Go.Proofs.YtenmcmnhiejbgaaGreat
