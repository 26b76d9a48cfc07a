/-
  The project's tests of an object and the document's are one: groups; the whole. Nothing here walks the program.
  Contracts of the project's own newPart, index.
  Contract of the project's own secParts.
  Contract of the project's own relParts.
-/
import Derived.Test.YtmcegjkkgbnjlaaGreatJp31
import Derived.Test.YtmcegjkkgbnjlaaGreatJp04
import Derived.Deep.CutBlock
import Derived.Laws.Closers25
import Derived.Test.YtmcegjkkgbnjlaaGreatJp20
namespace Go.Proofs.YtmcegjkkgbnjlaaGreat
open Go.RowKit

/-! ## The members of a group -/
def memP (ql : Nat) : Int → List Int → Prop
  | _, [] => True
  | last, x :: t => last < x ∧ x ≤ (ql : Int) ∧ memP ql x t
theorem memP_gt {ql : Nat} : ∀ {ms : List Int} {last : Int}, memP ql last ms → ∀ y ∈ ms, last < y ∧ y ≤ (ql : Int)
  | [], _, _, y, hy => by simp at hy
  | x :: t, last, ⟨h1, h2, h3⟩, y, hy => by
    rcases List.mem_cons.1 hy with rfl | hy
    · exact ⟨h1, h2⟩
    · have := memP_gt h3 y hy
      exact ⟨by omega, this.2⟩
theorem memP_count {ql : Nat} : ∀ {ms : List Int} {last : Int}, memP ql last ms → ∀ y, ms.count y ≤ 1
  | [], _, _, y => by simp
  | x :: t, last, ⟨h1, h2, h3⟩, y => by
    rw [List.count_cons]
    by_cases hxy : x = y
    · subst hxy
      have : t.count x = 0 := List.count_eq_zero.2 fun hm => by have := (memP_gt h3 x hm).1; omega
      rw [this]
      simp
    · have := memP_count h3 y
      simp [hxy]
      exact this
def prevE (last : Int) (ms : List Int) (k : Nat) : Int := match k with
  | 0 => last
  | j + 1 => ms.getD j 0
theorem memP_iff {ql : Nat} : ∀ {ms : List Int} {last : Int}, memP ql last ms ↔ ∀ (k : Nat) (x : Int), ms[k]? = some x → prevE last ms k < x ∧ x ≤ (ql : Int)
  | [], last => by simp [memP]
  | x :: t, last => by
    have ih := memP_iff (ql := ql) (ms := t) (last := x)
    constructor
    · rintro ⟨h1, h2, h3⟩ k y hy
      match k, hy with
      | 0, hy => simp at hy; subst hy; exact ⟨h1, h2⟩
      | k + 1, hy =>
        obtain ⟨g1, g2⟩ := ih.1 h3 k y (by simpa using hy)
        refine ⟨?_, g2⟩
        match k, g1 with
        | 0, g1 => exact g1
        | j + 1, g1 => exact g1
    · intro h
      obtain ⟨h1, h2⟩ := h 0 x rfl
      refine ⟨h1, h2, ih.2 fun k y hy => ?_⟩
      obtain ⟨g1, g2⟩ := h (k + 1) y (by simpa using hy)
      refine ⟨?_, g2⟩
      match k, g1 with
      | 0, g1 => exact g1
      | j + 1, g1 => exact g1
theorem memOK_iff {ql : Nat} {ms : List Int} : eachB (memOK ql ms) ms = true ↔ memP ql 0 ms := by
  rw [eachB_iff]
  constructor
  · intro h
    refine memP_iff.2 fun k x hx => ?_
    have := h k x hx
    unfold memOK at this
    rw [Bool.and_eq_true, Bool.and_eq_true, decide_eq_true_eq, decide_eq_true_eq] at this
    obtain ⟨⟨h1, h2⟩, h3⟩ := this
    refine ⟨?_, h2⟩
    match k, h3 with
    | 0, _ => show (0 : Int) < x; omega
    | j + 1, h3 => exact of_decide_eq_true h3
  · intro h k x hx
    have h0 := (memP_gt h x (List.mem_of_getElem? hx)).1
    obtain ⟨h1, h2⟩ := memP_iff.1 h k x hx
    unfold memOK
    rw [Bool.and_eq_true, Bool.and_eq_true, decide_eq_true_eq, decide_eq_true_eq]
    refine ⟨⟨by omega, h2⟩, ?_⟩
    match k, h1 with
    | 0, _ => rfl
    | j + 1, h1 => exact decide_eq_true h1
/-- What going through the members of a group does. -/
theorem memGo_spec {ql : Nat} : ∀ (ms : List Int) (last : Int) (gd : List Bool), 0 ≤ last → gd.length = ql →
    (∃ gd', memGoO ql last gd ms = some gd' ∧ gd'.length = ql ∧ memP ql last ms ∧ (∀ y ∈ ms, gd[(y - 1).toNat]? = some false) ∧ ∀ m, m < ql → gd'[m]? = some (gd[m]?.getD true || ms.contains ((m : Int) + 1))) ∨
    (memGoO ql last gd ms = none ∧ (¬ memP ql last ms ∨ ∃ y ∈ ms, gd[(y - 1).toNat]? ≠ some false))
  | [], last, gd, _, hl => .inl ⟨gd, rfl, hl, trivial, fun y hy => by simp at hy, fun m hm => by
      rw [List.getElem?_eq_getElem (by omega)]
      simp⟩
  | x :: t, last, gd, h0, hl => by
    have e : memGoO ql last gd (x :: t) = bif inR x (last + 1) (ql : Int) && !(gd[(x - 1).toNat]?.getD true) then memGoO ql x (gd.set (x - 1).toNat true) t else none := rfl
    cases hi : inR x (last + 1) (ql : Int) with
    | false =>
      rw [hi] at e
      refine .inr ⟨e, .inl fun hm => ?_⟩
      have : inR x (last + 1) (ql : Int) = true := inR_iff.2 ⟨by have := hm.1; omega, hm.2.1⟩
      rw [hi] at this
      cases this
    | true =>
      have hir := inR_iff.1 hi
      obtain ⟨m, rfl⟩ : ∃ m : Nat, x = (m : Int) + 1 := ⟨(x - 1).toNat, by omega⟩
      have hmn : ((m : Int) + 1 - 1).toNat = m := by omega
      rw [hi, hmn] at e
      have hgm : gd[m]? = some gd[m] := List.getElem?_eq_getElem (by omega)
      cases hb : gd[m] with
      | true =>
        rw [hb] at hgm
        rw [hgm] at e
        refine .inr ⟨e, .inr ⟨_, List.mem_cons_self .., ?_⟩⟩
        rw [hmn, hgm]
        simp
      | false =>
        rw [hb] at hgm
        rw [hgm] at e
        have hset : ∀ y : Int, (m : Int) + 1 < y → (gd.set m true)[(y - 1).toNat]? = gd[(y - 1).toNat]? := fun y hy => by
          rw [List.getElem?_set_ne (by omega)]
        rcases memGo_spec (ql := ql) t ((m : Int) + 1) (gd.set m true) (by omega) (by rw [List.length_set]; exact hl) with ⟨gd', g1, g2, g3, g4, g5⟩ | ⟨g1, g2⟩
        · have hgt := memP_gt g3
          refine .inl ⟨gd', by rw [e]; exact g1, g2, ⟨by omega, hir.2, g3⟩, fun y hy => ?_, fun j hj => ?_⟩
          · rcases List.mem_cons.1 hy with rfl | hy
            · rw [hmn]; exact hgm
            · rw [← hset y (hgt y hy).1]
              exact g4 y hy
          · rw [g5 j hj, List.contains_cons]
            by_cases hjm : j = m
            · subst hjm
              rw [List.getElem?_set_self (by omega)]
              simp
            · rw [List.getElem?_set_ne (by omega), show (((j : Int) + 1) == (m : Int) + 1) = false by simp; omega]
              simp
        · refine .inr ⟨by rw [e]; exact g1, ?_⟩
          by_cases hp : memP ql ((m : Int) + 1) t
          · rcases g2 with g2 | ⟨y, hy, g2⟩
            · exact absurd hp g2
            · rw [hset y (memP_gt hp y hy).1] at g2
              exact .inr ⟨y, List.mem_cons_of_mem _ hy, g2⟩
          · exact .inl fun hm => hp hm.2.2

/-! ## Groups -/
theorem memberN_cons (g : GroupD) (gs : List GroupD) (n : Int) : memberN (g :: gs) n = g.members.count n + memberN gs n := by simp [memberN]
/-- What going through the groups does, where c tells in how many each section is by now. -/
theorem grpGo_spec {ql yl : Nat} : ∀ (gs : List GroupD) (gd : List Bool) (c : Nat → Nat), gd.length = ql → (∀ m, m < ql → gd[m]? = some (c m == 1) ∧ c m ≤ 1) →
    (∃ gd', grpGoO ql yl gd gs = some gd' ∧ (∀ g ∈ gs, grpOK ql yl g = true) ∧ ∀ m, m < ql → gd'[m]? = some (c m + memberN gs ((m : Int) + 1) == 1) ∧ c m + memberN gs ((m : Int) + 1) ≤ 1) ∨
    (grpGoO ql yl gd gs = none ∧ ((∃ g ∈ gs, grpOK ql yl g = false) ∨ ∃ m, m < ql ∧ 2 ≤ c m + memberN gs ((m : Int) + 1)))
  | [], gd, c, hl, hc => .inl ⟨gd, rfl, fun g hg => by simp at hg, fun m hm => by simpa [memberN] using hc m hm⟩
  | g :: gs, gd, c, hl, hc => by
    have e : grpGoO ql yl gd (g :: gs) = bif inR g.sym 1 ((yl : Int) - 1) && !(g.members.length == 0) then
        match memGoO ql 0 gd g.members with
        | none => none
        | some gd' => grpGoO ql yl gd' gs
      else none := rfl
    have hk : grpOK ql yl g = (inR g.sym 1 ((yl : Int) - 1) && !(g.members.length == 0) && eachB (memOK ql g.members) g.members) := by
      unfold grpOK inR
      congr 1
      rw [Bool.eq_iff_iff]
      simp only [Bool.and_eq_true, decide_eq_true_eq, Bool.not_eq_true', beq_eq_false_iff_ne]
      omega
    cases hq : (inR g.sym 1 ((yl : Int) - 1) && !(g.members.length == 0)) with
    | false =>
      rw [hq] at e hk
      exact .inr ⟨e, .inl ⟨g, List.mem_cons_self .., by rw [hk]; rfl⟩⟩
    | true =>
      rw [hq] at e hk
      rcases memGo_spec g.members 0 gd (Int.le_refl _) hl with ⟨gd1, g1, g2, g3, g4, g5⟩ | ⟨g1, g2⟩
      · rw [g1] at e
        have hcnt := memP_count g3
        have hgok : grpOK ql yl g = true := by rw [hk, memOK_iff.2 g3]; rfl
        have hzero : ∀ m, m < ql → g.members.count ((m : Int) + 1) = 1 → c m = 0 := fun m hm h1 => by
          have hmem : ((m : Int) + 1) ∈ g.members := List.count_pos_iff.1 (by omega)
          have := g4 _ hmem
          rw [show ((m : Int) + 1 - 1).toNat = m by omega, (hc m hm).1] at this
          have h2 := (hc m hm).2
          have h3 : (c m == 1) = false := by simpa using this
          have h4 : c m ≠ 1 := by simpa using h3
          omega
        have hc' : ∀ m, m < ql → gd1[m]? = some (c m + g.members.count ((m : Int) + 1) == 1) ∧ c m + g.members.count ((m : Int) + 1) ≤ 1 := fun m hm => by
          have h1 := hcnt ((m : Int) + 1)
          have h2 := (hc m hm).2
          have h3 := hzero m hm
          refine ⟨?_, by omega⟩
          rw [g5 m hm, (hc m hm).1]
          congr 1
          show ((c m == 1) || g.members.contains ((m : Int) + 1)) = _
          by_cases hmem : ((m : Int) + 1) ∈ g.members
          · have h4 := List.count_pos_iff.2 hmem
            have h5 := h3 (by omega)
            rw [h5, show g.members.count ((m : Int) + 1) = 1 by omega, List.contains_iff_mem.2 hmem]
            rfl
          · have h4 := List.count_eq_zero.2 hmem
            rw [h4, Nat.add_zero, show g.members.contains ((m : Int) + 1) = false by rw [Bool.eq_false_iff]; exact fun h => hmem (List.contains_iff_mem.1 h)]
            simp
        have hl1 : gd1.length = ql := g2
        rcases grpGo_spec gs gd1 (fun m => c m + g.members.count ((m : Int) + 1)) hl1 hc' with ⟨gd', k1, k2, k3⟩ | ⟨k1, k2⟩
        · refine .inl ⟨gd', by rw [e]; exact k1, fun x hx => ?_, fun m hm => ?_⟩
          · rcases List.mem_cons.1 hx with rfl | hx
            · exact hgok
            · exact k2 x hx
          · have := k3 m hm
            rw [memberN_cons, ← Nat.add_assoc]
            exact this
        · refine .inr ⟨by rw [e]; exact k1, ?_⟩
          rcases k2 with ⟨x, hx, h⟩ | ⟨m, hm, h⟩
          · exact .inl ⟨x, List.mem_cons_of_mem _ hx, h⟩
          · refine .inr ⟨m, hm, ?_⟩
            rw [memberN_cons, ← Nat.add_assoc]
            exact h
      · rw [g1] at e
        refine .inr ⟨e, ?_⟩
        by_cases hp : memP ql 0 g.members
        · rcases g2 with g2 | ⟨y, hy, g2⟩
          · exact absurd hp g2
          · have hgt := memP_gt hp y hy
            refine .inr ⟨(y - 1).toNat, by omega, ?_⟩
            have h1 : (c (y - 1).toNat == 1) = true := by
              rw [(hc _ (by omega)).1] at g2
              simpa using g2
            have h2 : c (y - 1).toNat = 1 := by simpa using h1
            have h3 : 0 < g.members.count y := List.count_pos_iff.2 hy
            rw [memberN_cons, show (((y - 1).toNat : Nat) : Int) + 1 = y by omega]
            omega
        · refine .inl ⟨g, List.mem_cons_self .., ?_⟩
          rw [hk, Bool.true_and, Bool.eq_false_iff]
          exact fun h => hp (memOK_iff.1 h)
def inGrp (gs : List GroupD) (f : Bool) (k : Nat) : Bool := (((memberN gs ((k : Int) + 1) : Int) == 0) && !f) || (((memberN gs ((k : Int) + 1) : Int) == 1) && f)
theorem groups_iff (secs : List SecD) (yl : Nat) (gs : List GroupD) : groupsO secs yl gs = true ↔ (∀ g ∈ gs, grpOK secs.length yl g = true) ∧ ∀ (k : Nat) (s : SecD), secs[k]? = some s → inGrp gs (hasO s.flags 512) k = true := by
  have e : groupsO secs yl gs = match grpGoO secs.length yl (List.replicate secs.length false) gs with
    | none => false
    | some gd => eachB (eqGrp gd) secs := rfl
  rw [e]
  rcases grpGo_spec (ql := secs.length) (yl := yl) gs (List.replicate secs.length false) (fun _ => 0) List.length_replicate (fun m hm => ⟨by rw [List.getElem?_replicate, if_pos hm]; rfl, Nat.zero_le _⟩) with ⟨gd, h1, h2, h3⟩ | ⟨h1, h2⟩
  · rw [h1]
    show eachB (eqGrp gd) secs = true ↔ _
    rw [eachB_iff]
    have hx : ∀ (k : Nat) (s : SecD), secs[k]? = some s → eqGrp gd k s = inGrp gs (hasO s.flags 512) k := fun k s hs => by
      obtain ⟨g1, g2⟩ := h3 k (List.getElem?_eq_some_iff.1 hs).1
      unfold eqGrp inGrp
      rw [g1]
      rw [Nat.zero_add] at g2
      rw [Nat.zero_add]
      generalize memberN gs ((k : Int) + 1) = m at *
      generalize hasO s.flags 512 = f
      have : m = 0 ∨ m = 1 := by omega
      rcases this with rfl | rfl <;> cases f <;> rfl
    exact ⟨fun h => ⟨h2, fun k s hs => by rw [← hx k s hs]; exact h k s hs⟩, fun h k s hs => by rw [hx k s hs]; exact h.2 k s hs⟩
  · rw [h1]
    constructor
    · intro h
      cases h
    · rintro ⟨g1, g2⟩
      rcases h2 with ⟨g, hg, h⟩ | ⟨m, hm, h⟩
      · rw [g1 g hg] at h
        cases h
      · have := g2 m _ (List.getElem?_eq_getElem hm)
        unfold inGrp at this
        rw [Nat.zero_add] at h
        generalize memberN gs ((m : Int) + 1) = q at *
        simp at this
        omega

/-! ## The whole -/
/-- May an object be, but for how many bytes it has: the project's way. -/
def butO (o : ObjD) : Bool := bif decide (o.secs.length ≤ 32) then symsO o.secs o.syms && (groupsO o.secs o.syms.length o.groups && (eachB (secAllO o.secs.length o.syms.length) o.secs && sigO o.hasSig o.syms.length o.sig)) else false
/-- Flags are numbers that a program can hold. -/
def FlagBd (o : ObjD) : Prop := ∀ s ∈ o.secs, -9223372036854775808 ≤ s.flags ∧ s.flags ≤ 9223372036854775807
theorem link_eq {fl li : Int} (k ql : Nat) (h0 : 0 ≤ fl) (h1 : fl ≤ 9223372036854775807) :
    linkO fl li ((k : Int) + 1) (ql : Int) = !((hasF fl 128 && (decide (li < 1) || decide ((ql : Int) < li) || (li == (k : Int) + 1))) || (!hasF fl 128 && (li != 0))) := by
  have e : hasO fl 128 = hasF fl 128 := hasO_eq 7 (by omega) h0 h1
  unfold linkO inR
  rw [e]
  generalize hasF fl 128 = b
  rw [Bool.eq_iff_iff]
  cases b <;> simp <;> omega
theorem but_eq {o : ObjD} (hs : FewD o) (hf : FlagBd o) : butO o = shapeB o := by
  have hb : butO o = (decide (o.secs.length ≤ 32) && (symsO o.secs o.syms && (groupsO o.secs o.syms.length o.groups && (eachB (secAllO o.secs.length o.syms.length) o.secs && sigO o.hasSig o.syms.length o.sig)))) := by
    unfold butO
    cases decide (o.secs.length ≤ 32) <;> rfl
  have hy := hs.syms
  -- of a section whose flags are well
  have hsec : ∀ (k : Nat) (s : SecD), o.secs[k]? = some s → (secAllO o.secs.length o.syms.length k s && inGrp o.groups (hasO s.flags 512) k) = secOK o.secs.length o.syms.length o.groups k s := fun k s hk => by
    have hm := List.mem_of_getElem? hk
    obtain ⟨f0, f1⟩ := hf s hm
    have hd := hs.data s hm
    have e1 := sec_eq s.name s.type s.align s.ent s.size s.data.length s.rels.length (s.data.getLast? == some 0) f0 f1
    have e2 := rels_eq (yl := o.syms.length) (dl := s.data.length) (by omega) (by omega) s.rels
    unfold secAllO secOK
    rw [e1, e2]
    show _ = (bif !mayB (lst s.name) || !kindS s || _ then _ else _)
    have hks : kindB s.type s.flags s.align s.ent s.size s.data.length s.rels.length (s.data.getLast? == some 0) = kindS s := rfl
    rw [hks]
    cases hk1 : kindS s with
    | false => simp
    | true =>
      have hp := (fitsB_iff _).1 (kind_fit hk1).2.1
      have e3 : hasO s.flags 512 = hasF s.flags 512 := hasO_eq 9 (by omega) hp.1 f1
      rw [link_eq k o.secs.length hp.1 f1, e3]
      unfold inGrp
      generalize (hasF s.flags 128 && (decide (s.link < 1) || decide ((o.secs.length : Int) < s.link) || (s.link == (k : Int) + 1)) || !hasF s.flags 128 && (s.link != 0)) = q1
      generalize mayB (lst s.name) = q2
      generalize relsB o.syms.length s.data.length s.rels = q3
      cases q1 <;> cases q2 <;> cases q3 <;> simp
  rw [hb, syms_eq, sig_eq]
  unfold shapeB headOK
  rw [Bool.eq_iff_iff]
  simp only [Bool.and_eq_true, groups_iff]
  have key : ((∀ g ∈ o.groups, grpOK o.secs.length o.syms.length g = true) ∧ ∀ (k : Nat) (s : SecD), o.secs[k]? = some s → inGrp o.groups (hasO s.flags 512) k = true) ∧ eachB (secAllO o.secs.length o.syms.length) o.secs = true ↔
      eachB (fun _ => grpOK o.secs.length o.syms.length) o.groups = true ∧ eachB (secOK o.secs.length o.syms.length o.groups) o.secs = true := by
    rw [eachB_iff, eachB_iff, eachB_iff]
    constructor
    · rintro ⟨⟨h1, h2⟩, h3⟩
      exact ⟨fun i g hg => h1 g (List.mem_of_getElem? hg), fun k s hk => by rw [← hsec k s hk, h3 k s hk, h2 k s hk]; rfl⟩
    · rintro ⟨h1, h2⟩
      have h3 : ∀ (k : Nat) (s : SecD), o.secs[k]? = some s → secAllO o.secs.length o.syms.length k s = true ∧ inGrp o.groups (hasO s.flags 512) k = true := fun k s hk => by
        have := h2 k s hk
        rw [← hsec k s hk, Bool.and_eq_true] at this
        exact this
      refine ⟨⟨fun g hg => ?_, fun k s hk => (h3 k s hk).2⟩, fun k s hk => (h3 k s hk).1⟩
      obtain ⟨i, hi⟩ := List.getElem?_of_mem hg
      exact h1 i g hi
  constructor
  · rintro ⟨a1, ⟨⟨a2, a3⟩, a4⟩, a5, a6, a7, a8⟩
    obtain ⟨k1, k2⟩ := key.1 ⟨a5, a6⟩
    exact ⟨⟨⟨⟨⟨⟨⟨a1, a2⟩, a3⟩, a7⟩, k1⟩, k2⟩, a4⟩, a8⟩
  · rintro ⟨⟨⟨⟨⟨⟨⟨a1, a2⟩, a3⟩, a7⟩, k1⟩, k2⟩, a4⟩, a8⟩
    obtain ⟨a5, a6⟩ := key.2 ⟨k1, k2⟩
    exact ⟨a1, ⟨⟨a2, a3⟩, a4⟩, a5, a6, a7, a8⟩
end Go.Proofs.YtmcegjkkgbnjlaaGreat

namespace Go.Proofs.YtmcegjkkgbnjlaaGreat
open Go.RowKit

def szT (t : Ten) (n : Int) : Ten := ⟨t.a, t.b, t.c, t.d, t.e, n, t.g, t.h, t.i, t.j⟩
/-- A part whose header tells of how many bytes it is. -/
def szP (p : PartD) : PartD := ⟨szT p.h p.b.length, p.name, p.b⟩
abbrev ownV (nm : ByteArray) (t : Ten) (v : Value) : Value := .agg #[.string nm, .int .i64 t.a, .int .i64 t.b, .int .i64 t.c, .int .i64 t.d, .int .i64 t.e, .int .i64 t.f, .int .i64 t.g, .int .i64 t.h, .int .i64 t.i, .int .i64 t.j, v]
theorem index_any (n : Int) (w : World) : Calls Tryz.prog 114 #[.int .i64 n] w fun e w' => e = .returned (.int .i64 (if n < 0 then 65521 else n)) ∧ w = w' := by
  by_cases h : n < 0
  · rw [if_pos h]
    go_enter Tryz.func114, Tryz.ntmps114
    go_wp2_with fail
    go_ret
    exact ⟨rfl, rfl⟩
  · rw [if_neg h]
    go_enter Tryz.func114, Tryz.ntmps114
    go_wp2_with fail
    go_ret
    exact ⟨rfl, rfl⟩
set_option maxRecDepth 100000 in
set_option maxHeartbeats 4000000 in
theorem newPart_any (nm : ByteArray) (t : Ten) (p : Option Addr) (n c : Nat) (w : World) :
    Calls Tryz.prog 69 #[.string nm, t.v, .slice p n c] w fun e w' => e = .returned (ownV nm (szT t n) (.slice p n c)) ∧ Below w.heap.size w w' := by
  obtain ⟨v0, v1, v2, v3, v4, v5, v6, v7, v8, v9⟩ := t
  unfold szT
  go_enter Tryz.func69, Tryz.ntmps69
  go_wp2_with fail
  exact bodyPost_ret (v := ownV nm ⟨v0, v1, v2, v3, v4, (n : Int), v6, v7, v8, v9⟩ (.slice p n c)) (by simp [results, Tryz.results69, go_sem, ownV]) rfl ⟨rfl, ((Below.refl _ w).alloc (Nat.le_refl _) _).alloc (by simp) _⟩
end Go.Proofs.YtmcegjkkgbnjlaaGreat

namespace Go.Proofs.YtmcegjkkgbnjlaaGreat
open Go.RowKit

theorem Tryz.infoOwnPart : (Tryz.prog.info? 127).map (fun i => (i.zero, i.size, i.bytes)) = some (some (.agg #[.string ⟨#[]⟩, .int .i64 0, .int .i64 0, .int .i64 0, .int .i64 0, .int .i64 0, .int .i64 0, .int .i64 0, .int .i64 0, .int .i64 0, .int .i64 0, .slice none 0 0]), 12, 120) := by kernel_rfl
set_option maxRecDepth 100000 in
set_option maxHeartbeats 4000000 in
theorem ownSecParts_any (p0 : Option Addr) (c0 : Nat) (secs : List SecD) (w : World) (hq : HasL 9 ESec w p0 secs) (hl : secs.length ≤ 40) :
    Calls Tryz.prog 73 #[.slice p0 secs.length c0] w (GivesParts 127 false 0 (secs.map secPart) w) := by
  obtain ⟨i0, hi, hz0, hz1, hz2⟩ := info_parts Tryz.infoOwnPart
  have HI := Lib.hid hi
  have H0 := Lib.hid hz0
  have H1 := Lib.hid hz1
  have H2 := Lib.hid hz2
  have HQ := Lib.hid hq
  generalize hql : secs.length = ql at *
  have HQL := Lib.hid hql
  clear hq hi hz0 hz1 hz2 hql
  go_enter Tryz.func73, Tryz.ntmps73
  go_wp2_with fail
  go_loopw [3, 9] (fun r3 r9 wr => ∃ (k : Nat) (pv : List PV) (pd : List PartD), k ≤ ql ∧ r9 = .int .i64 (k : Int) ∧ pd = (secs.take k).map secPart ∧ pd.length ≤ k ∧ wr.ownsRow w.heap.size 127 12 r3 pd.length (pvs false pv) ∧ PartsAt wr (fun b => 0 ≤ b ∧ some b ≠ r3.ownBlock) pv pd ∧ Below w.heap.size w wr) (fun _ r9 _ => ql - (intOf r9).toNat)
  case atStart => exact ⟨0, [], [], Nat.zero_le _, rfl, rfl, Nat.le_refl _, World.ownsRow_nil _ _ _ _, PartsAt.nil _ _, Below.refl _ _⟩
  case round =>
    obtain ⟨k, pv, pd, hk, rfl, hpd, hpl, hown, hpa, hb⟩ := hrel
    have HPD := Lib.hid hpd
    have HPA := Lib.hid hpa
    have hbs := hb.size
    clear hpd hpa
    by_cases hlt : k < ql
    · obtain ⟨b, off, s, rfl, hsk, ⟨d0, _⟩, ⟨d1, _⟩, ⟨d2, _⟩, ⟨d3, _⟩, ⟨d4, _⟩, ⟨d5, _⟩, ⟨d6, _⟩, ⟨vd, d7, hvd⟩, ⟨vr, d8, hvr⟩⟩ := HQ.out.at_ (i := k) (by rw [HQL.out]; exact hlt)
      obtain ⟨dp, dc, rfl, l1, l2, l3, hdh⟩ := hvd
      obtain ⟨rp, rc, rfl, _, _, _, _⟩ := hvr
      have e0 := cell_later hb d0
      have e1 := cell_later hb d1
      have e2 := cell_later hb d2
      have e3 := cell_later hb d3
      have e4 := cell_later hb d4
      have e5 := cell_later hb d5
      have e6 := cell_later hb d6
      have e7 := cell_later hb d7
      have e8 := cell_later hb d8
      have hslr : SlB wr (fun b => 0 ≤ b ∧ some b ≠ u3.ownBlock) (.slice dp s.data.length dc) s.data := ((SlB.of_cells hdh rfl l1 l2 l3).below hb).weaken fun b _ h => ⟨Nat.zero_le _, fun e => by have := (hown.lt b e.symm).1; omega⟩
      have hE : Hid ((secs.take (k + 1)).map secPart = pd ++ [secPart s]) := Lib.hid (by rw [HPD.out, List.take_add_one, hsk]; simp)
      have hba : Below wr.heap.size wr (wr.alloc (.cells #[.string s.name, .int .i64 s.type, .int .i64 s.flags, .int .i64 s.align, .int .i64 s.ent, .int .i64 s.link, .int .i64 s.size, .slice dp s.data.length dc, .slice rp s.rels.length rc] 48)) := (Below.refl _ wr).alloc (Nat.le_refl _) _
      have hha := heap_new wr (.cells #[.string s.name, .int .i64 s.type, .int .i64 s.flags, .int .i64 s.align, .int .i64 s.ent, .int .i64 s.link, .int .i64 s.size, .slice dp s.data.length dc, .slice rp s.rels.length rc] 48)
      have hJ : (k : Int) < (ql : Int) := by omega
      have k2 : (0 : Int) ≤ (k : Int) := by omega
      clear hsk d0 d1 d2 d3 d4 d5 d6 d7 d8 hdh l1 l2 l3
      go_upto_region 5 with fail
      generalize s.data.length = dn at *
      generalize s.rels.length = rn at *
      generalize wr.alloc (.cells #[.string s.name, .int .i64 s.type, .int .i64 s.flags, .int .i64 s.align, .int .i64 s.ent, .int .i64 s.link, .int .i64 s.size, .slice dp dn dc, .slice rp rn rc] 48) = ws at *
      obtain ⟨s0, s1, s2, s3, s4, s5, s6, s7, s8⟩ := cells9 _ _ _ _ _ _ _ _ _ _ _ _ hha
      have hbt : Below ws.heap.size ws (ws.alloc (.cells #[.int .i64 0, .int .i64 s.type, .int .i64 s.flags, .int .i64 0, .int .i64 0, .int .i64 s.size, .int .i64 s.link, .int .i64 0, .int .i64 s.align, .int .i64 s.ent] 104)) := (Below.refl _ ws).alloc (Nat.le_refl _) _
      have hht := heap_new ws (.cells #[.int .i64 0, .int .i64 s.type, .int .i64 s.flags, .int .i64 0, .int .i64 0, .int .i64 s.size, .int .i64 s.link, .int .i64 0, .int .i64 s.align, .int .i64 s.ent] 104)
      have t0 := cell_later hbt s0
      have t7 := cell_later hbt s7
      have hbas := hba.size
      clear e0 e1 e2 e3 e4 e5 e6 e7 e8 hha
      go_upto_region 6 with fail
      have hbw := hba.trans (hbt.mono hbas)
      have hsl : PartsAt (ws.alloc (.cells #[.int .i64 0, .int .i64 s.type, .int .i64 s.flags, .int .i64 0, .int .i64 0, .int .i64 s.size, .int .i64 s.link, .int .i64 0, .int .i64 s.align, .int .i64 s.ent] 104)) (fun b => 0 ≤ b ∧ some b ≠ u3.ownBlock) [⟨secHead s, s.name, (.slice dp dn dc)⟩] [secPart s] := PartsAt.one (hslr.below hbw)
      have HPA2 := Lib.hid (HPA.out.below hbw)
      have hown2 := owns_belowN hown hbw
      generalize ws.alloc (.cells #[.int .i64 0, .int .i64 s.type, .int .i64 s.flags, .int .i64 0, .int .i64 0, .int .i64 s.size, .int .i64 s.link, .int .i64 0, .int .i64 s.align, .int .i64 s.ent] 104) = wt at *
      obtain ⟨x0, x1, x2, x3, x4, x5, x6, x7, x8, x9⟩ := cells_ten _ _ _ _ _ _ _ _ _ _ _ _ _ hht
      have h1c : ∀ u ∈ PV.cells false ⟨secHead s, s.name, (.slice dp dn dc)⟩, u.oneCell' = true := fun u hu => (hsl.oneCell (q := false)) u (by simpa [pvs] using hu)
      have H1C := Lib.hid h1c
      have HSL := Lib.hid hsl
      have hbww : Below w.heap.size w wt := hb.trans (hbw.mono hbs)
      have hbwws := hbww.size
      clear s0 s1 s2 s3 s4 s5 s6 s7 s8 hba hbt hht hbw hsl h1c hslr hown hb HPA
      go_wp2_with (at_builtin; refine wpList_append_own_at _ rfl (.tmp 26) (.tmp 33) 85 rfl w.heap.size 127 i0 _ 12 120 Tryz.underlying85 HI.out H0.out H1.out H2.out rfl (by decide) _ pd.length _ rfl (hown2.alloc _) ⟨wt.heap.size, 0, none⟩ 1 1 (PV.cells false ⟨secHead s, s.name, (.slice dp dn dc)⟩) rfl rfl (ten_cell_at wt _ _) H1C.out (by unfold maxLen; omega) (by omega) (by simp; omega) ?_)
      intro v1 w4 hown4 hg4 _ hat4
      have HP := Lib.hid (push_part HPA2.out HSL.out hown4 hg4 hat4)
      have hb4 : Below w.heap.size w w4 := (hbww.alloc hbww.size _).grown hg4 (by simp; omega) (fun g hg => (hown2.lt g hg).1)
      clear hown4 hg4 hat4 hown2 HPA2 HSL hbww
      go_wp2_with fail
      go_roundw
      case rel => exact ⟨k + 1, _, _, hlt, by go_num, hE.out.symm, by simp; omega, HP.out.1, HP.out.2, hb4⟩
      case measure => simp [intOf]; omega
    · obtain rfl : k = ql := by omega
      have hJ : ¬ (k : Int) < (k : Int) := by omega
      have hE : Hid (pd = secs.map secPart) := Lib.hid (by rw [HPD.out, List.take_of_length_le (by rw [HQL.out]; exact Nat.le_refl _)])
      go_wp2_with fail
      go_ret
      rw [← hE.out]
      exact ⟨u3, pv, rfl, hown, HPA.out, hb⟩
end Go.Proofs.YtmcegjkkgbnjlaaGreat

namespace Go.Proofs.YtmcegjkkgbnjlaaGreat
open Go.RowKit

def RelsMay (secs : List SecD) : Prop := ∀ s ∈ secs, s.rels.length ≤ 80 ∧ ∀ r ∈ s.rels, (fouOf r).may ∧ -9223372036854775808 ≤ r.add ∧ r.add ≤ 9223372036854775807
theorem zput_may (t : Fou) (w : World) (h : t.may) (h1 : -9223372036854775808 ≤ t.d) (h2 : t.d ≤ 9223372036854775807) : Calls Tryz.prog 112 #[t.v] w (Gives (relB t) w) := by
  exact (zput_ok t w ⟨h1, h2⟩).1 h
set_option maxRecDepth 100000 in
set_option maxHeartbeats 4000000 in
theorem ownRelParts_any (p0 : Option Addr) (c0 : Nat) (secs : List SecD) (w : World) (hq : HasL 9 ESec w p0 secs) (hl : secs.length ≤ 40) (hm : RelsMay secs) :
    Calls Tryz.prog 75 #[.slice p0 secs.length c0] w (GivesParts 127 false w.heap.size ((relPs 0 secs secs.length).map szP) w) := by
  obtain ⟨i0, hi, hz0, hz1, hz2⟩ := info_parts Tryz.infoOwnPart
  have HI := Lib.hid hi
  have H0 := Lib.hid hz0
  have H1 := Lib.hid hz1
  have H2 := Lib.hid hz2
  obtain ⟨i1, gi, gz0, gz1, gz2⟩ := info_parts Tryz.infoU8
  have GI := Lib.hid gi
  have G0 := Lib.hid gz0
  have G1 := Lib.hid gz1
  have G2 := Lib.hid gz2
  have HQ := Lib.hid hq
  have HS := Lib.hid hm
  generalize hql : secs.length = ql at *
  have HQL := Lib.hid hql
  clear hq hi hz0 hz1 hz2 hql gi gz0 gz1 gz2 hm
  go_enter Tryz.func75, Tryz.ntmps75
  go_wp2_with fail
  go_loopw [3, 11] (fun r3 r11 wr => ∃ (k : Nat) (pv : List PV) (pd : List PartD), k ≤ ql ∧ r11 = .int .i64 (k : Int) ∧ pd = (relPs 0 secs k).map szP ∧ pd.length ≤ k ∧ wr.ownsRow w.heap.size 127 12 r3 pd.length (pvs false pv) ∧ PartsAt wr (fun b => w.heap.size ≤ b ∧ some b ≠ r3.ownBlock) pv pd ∧ Below w.heap.size w wr) (fun _ r11 _ => ql - (intOf r11).toNat)
  case atStart => exact ⟨0, [], [], Nat.zero_le _, rfl, rfl, Nat.le_refl _, World.ownsRow_nil _ _ _ _, PartsAt.nil _ _, Below.refl _ _⟩
  case round =>
    obtain ⟨k, pv, pd, hk, rfl, hpd, hpl, hown, hpa, hb⟩ := hrel
    have HPD := Lib.hid hpd
    have HPA := Lib.hid hpa
    have hbs := hb.size
    clear hpd hpa
    by_cases hlt : k < ql
    · obtain ⟨b, off, s, rfl, hsk, ⟨d0, _⟩, ⟨d1, _⟩, ⟨d2, _⟩, ⟨d3, _⟩, ⟨d4, _⟩, ⟨d5, _⟩, ⟨d6, _⟩, ⟨vd, d7, hvd⟩, ⟨vr, d8, hvr⟩⟩ := HQ.out.at_ (i := k) (by rw [HQL.out]; exact hlt)
      obtain ⟨dp, dc, rfl, _, _, _, _⟩ := hvd
      obtain ⟨rp, rc, rfl, _, _, _, hrh⟩ := hvr
      have e0 := cell_later hb d0
      have e1 := cell_later hb d1
      have e2 := cell_later hb d2
      have e3 := cell_later hb d3
      have e4 := cell_later hb d4
      have e5 := cell_later hb d5
      have e6 := cell_later hb d6
      have e7 := cell_later hb d7
      have e8 := cell_later hb d8
      have hsm := HS.out s (List.mem_of_getElem? hsk)
      have hrl := hsm.1
      have HR := Lib.hid hsm.2
      have HPS := Lib.hid (relPs_succ (a := 0) hsk)
      have hba : Below wr.heap.size wr (wr.alloc (.cells #[.string s.name, .int .i64 s.type, .int .i64 s.flags, .int .i64 s.align, .int .i64 s.ent, .int .i64 s.link, .int .i64 s.size, .slice dp s.data.length dc, .slice rp s.rels.length rc] 48)) := (Below.refl _ wr).alloc (Nat.le_refl _) _
      have hha := heap_new wr (.cells #[.string s.name, .int .i64 s.type, .int .i64 s.flags, .int .i64 s.align, .int .i64 s.ent, .int .i64 s.link, .int .i64 s.size, .slice dp s.data.length dc, .slice rp s.rels.length rc] 48)
      have HRH := Lib.hid ((hrh.below ERel.keeps hb).below ERel.keeps hba)
      generalize hrn : s.rels.length = rl at *
      have HRN := Lib.hid hrn
      have hJ : (k : Int) < (ql : Int) := by omega
      have k2 : (0 : Int) ≤ (k : Int) := by omega
      clear hsk d0 d1 d2 d3 d4 d5 d6 d7 d8 hrh hsm hrn
      generalize wr = wo at *
      go_upto_region 5 with fail
      generalize s.data.length = dn at *
      generalize wo.alloc (.cells #[.string s.name, .int .i64 s.type, .int .i64 s.flags, .int .i64 s.align, .int .i64 s.ent, .int .i64 s.link, .int .i64 s.size, .slice dp dn dc, .slice rp rl rc] 48) = ws at *
      obtain ⟨_, _, _, _, _, _, _, _, s8⟩ := cells9 _ _ _ _ _ _ _ _ _ _ _ _ hha
      have hbas := hba.size
      clear e0 e1 e2 e3 e4 e5 e6 e7 e8 hha
      go_wp2_with fail
      go_loopw [6, 19] (fun r6 r19 wx => ∃ (j n : Nat), j ≤ rl ∧ r19 = .int .i64 (j : Int) ∧ n = 24 * j ∧ wx.ownsRow ws.heap.size 5 1 r6 n ((relsBy (s.rels.take j)).map u8v) ∧ Below ws.heap.size ws wx) (fun _ r19 _ => rl - (intOf r19).toNat)
      case atStart => exact ⟨0, 0, Nat.zero_le _, rfl, rfl, World.ownsRow_nil _ _ _ _, Below.refl _ _⟩
      case round =>
        obtain ⟨j, n, hj, rfl, hn, hob, hbx⟩ := hrel
        have HN := Lib.hid hn
        have hbxs := hbx.size
        by_cases hjl : j < rl
        · obtain ⟨b2, off2, r, rfl, hrj, ⟨x0, _⟩, ⟨x1, _⟩, ⟨x2, _⟩, ⟨x3, _⟩⟩ := HRH.out.at_ (i := j) (by rw [HRN.out]; exact hjl)
          have d0 := cell_later hbx x0
          have d1 := cell_later hbx x1
          have d2 := cell_later hbx x2
          have d3 := cell_later hbx x3
          have hmay := HR.out r (List.mem_of_getElem? hrj)
          have HC := Lib.hid fun W => zput_may (fouOf r) W hmay.1 hmay.2.1 hmay.2.2
          have HST : Hid (relsBy (s.rels.take (j + 1)) = relsBy (s.rels.take j) ++ relB (fouOf r)) := Lib.hid (by rw [List.take_add_one, hrj]; exact relsBy_snoc _ _)
          have hJ1 : (j : Int) < (rl : Int) := by omega
          have hJ2 : (0 : Int) ≤ (j : Int) := by omega
          have hbr : Below wr.heap.size wr (wr.alloc (.cells #[.int .i64 r.off, .int .i64 r.type, .int .i64 r.sym, .int .i64 r.add] 89)) := (Below.refl _ wr).alloc (Nat.le_refl _) _
          clear hrj hmay x0 x1 x2 x3 hn
          go_wp2_with fail
          refine (HC.out _).mono ?_
          rintro e w2 ⟨v2', rfl, hown2, hbb2⟩
          have hbw2 : Below wr.heap.size wr w2 := hbr.trans (hbb2.mono hbr.size)
          have hob2 := owns_below hob hbw2
          have hbx2 : Below ws.heap.size ws w2 := hbx.trans (hbw2.mono hbxs)
          obtain ⟨p2, cc2, rfl, g1, g2, g3, g4⟩ := Has.of_owns hown2
          have hpn := none_cap hown2
          have HG4 := Lib.hid g4
          have hn80 : n ≤ 2000 := by have := HN.out; omega
          clear hown2 hbb2 hob hbx d0 d1 d2 d3 g4 hbr hbw2
          go_wp2_with (at_builtin; refine wpList_append_bytes _ rfl (.tmp 23) (.tmp 25) 31 rfl ws.heap.size 5 i1 Tryz.underlying31 GI.out G0.out G1.out G2.out _ n _ rfl hob2 p2 24 cc2 (relB (fouOf r)) rfl HG4.out rfl hpn (by omega) hbx2.size ?_)
          intro v3 w3 hob3 hg3 _
          have hbx3 : Below ws.heap.size ws w3 := hbx2.grown hg3 hbx2.size (fun g hg => (hob2.lt g hg).1)
          rw [← List.map_append, ← HST.out] at hob3
          clear hob2 hbx2 hg3
          go_wp2_with fail
          go_roundw
          case rel => exact ⟨j + 1, n + 24, hjl, by go_num, by have := HN.out; omega, hob3, hbx3⟩
          case measure => simp [intOf]; omega
        · obtain rfl : j = rl := by omega
          rw [List.take_of_length_le (by rw [HRN.out]; exact Nat.le_refl _)] at hob
          have hbow : Below wo.heap.size wo wr := hba.trans (hbx.mono hbas)
          have hown2 := owns_belowN hown hbow
          have hpa2 : Hid (PartsAt wr (fun b => w.heap.size ≤ b ∧ some b ≠ u3.ownBlock) pv pd) := Lib.hid (HPA.out.below hbow)
          have hb2 : Below w.heap.size w wr := hb.trans (hbow.mono hbs)
          have hbz := hb2.size
          have hJ1 : ¬ (j : Int) < (j : Int) := by omega
          have hu3 := fun g hg => (hown.lt g hg).2
          have hlen : (relsBy s.rels).length = n := by rw [relsBy_length, HRN.out]; exact hn.symm
          rcases Nat.eq_zero_or_pos j with h0 | h0
          · subst h0
            have hE : Hid ((relPs 0 secs (k + 1)).map szP = pd) := Lib.hid (by rw [HPS.out, List.map_append, ← HPD.out]; unfold relPart; rw [if_pos HRN.out]; simp)
            have hn0 : n = 0 := by omega
            subst hn0
            obtain ⟨p6, c6, rfl, _, _, _, _⟩ := Has.of_owns hob
            clear hob hown HPA hb hbow hn hlen
            go_wp2_with fail
            go_roundw
            case rel => exact ⟨k + 1, pv, pd, hlt, by go_num, hE.out.symm, by omega, hown2, hpa2.out, hb2⟩
            case measure => simp [intOf]; omega
          · obtain ⟨p6, c6, rfl, _, _, _, _⟩ := Has.of_owns hob
            have hn1 : (0 : Int) < (n : Int) := by omega
            have kk : IntKind.i64.wrap ((k : Int) + 1) = (k : Int) + 1 := IntWalk.i64_in _ (by omega)
            have HNP := Lib.hid fun W => newPart_any nRela (relHead 0 ((k : Int) + 1)) p6 n c6 W
            have hsl : PartsAt wr (fun b => w.heap.size ≤ b ∧ some b ≠ u3.ownBlock) [⟨szT (relHead 0 ((k : Int) + 1)) n, nRela, (.slice p6 n c6)⟩] [⟨szT (relHead 0 ((k : Int) + 1)) n, nRela, relsBy s.rels⟩] := PartsAt.one (SlB.of_owns hob fun b hb => by
              have h1 := (hob.lt b hb).1
              exact ⟨by omega, fun e => by have := hu3 b e.symm; omega⟩)
            have HSL := Lib.hid hsl
            have hE : Hid ((relPs 0 secs (k + 1)).map szP = pd ++ [⟨szT (relHead 0 ((k : Int) + 1)) n, nRela, relsBy s.rels⟩]) := Lib.hid (by
              rw [HPS.out, List.map_append, ← HPD.out]
              unfold relPart
              rw [if_neg (by rw [HRN.out]; omega), List.map_cons, List.map_nil]
              unfold szP
              rw [hlen])
            clear hob hown HPA hb hbow hn hlen hsl hu3
            go_wp2_with fail
            refine (HNP.out _).mono ?_
            rintro e w5 ⟨rfl, hbb5⟩
            have hown5 := owns_belowN hown2 hbb5
            have HPA5 := Lib.hid (hpa2.out.below hbb5)
            have HSL5 := Lib.hid (HSL.out.below hbb5)
            have h1c : ∀ u ∈ PV.cells false ⟨szT (relHead 0 ((k : Int) + 1)) n, nRela, (.slice p6 n c6)⟩, u.oneCell' = true := fun u hu => (HSL5.out.oneCell (q := false)) u (by simpa [pvs] using hu)
            have H1C := Lib.hid h1c
            have hb5 : Below w.heap.size w w5 := hb2.trans (hbb5.mono hbz)
            have hb5s := hb5.size
            clear hown2 hpa2 HSL h1c hbb5 hb2
            go_wp2_with (at_builtin; refine wpList_append_own_at _ rfl (.tmp 31) (.tmp 37) 85 rfl w.heap.size 127 i0 _ 12 120 Tryz.underlying85 HI.out H0.out H1.out H2.out rfl (by decide) _ pd.length _ rfl (hown5.alloc _) ⟨w5.heap.size, 0, none⟩ 1 1 (PV.cells false ⟨szT (relHead 0 ((k : Int) + 1)) n, nRela, (.slice p6 n c6)⟩) rfl rfl (ten_cell_at w5 _ _) H1C.out (by unfold maxLen; omega) (by omega) (by simp; omega) ?_)
            intro v1 w4 hown4 hg4 _ hat4
            have HP := Lib.hid (push_part HPA5.out HSL5.out hown4 hg4 hat4)
            have hb4 : Below w.heap.size w w4 := (hb5.alloc hb5.size _).grown hg4 (by simp; omega) (fun g hg => (hown5.lt g hg).1)
            clear hown4 hg4 hat4 hown5 HPA5 HSL5 hb5
            go_wp2_with fail
            go_roundw
            case rel => exact ⟨k + 1, _, _, hlt, by go_num, hE.out.symm, by simp; omega, HP.out.1, HP.out.2, hb4⟩
            case measure => simp [intOf]; omega
    · obtain rfl : k = ql := by omega
      have hJ : ¬ (k : Int) < (k : Int) := by omega
      go_wp2_with fail
      go_ret
      rw [← HPD.out]
      exact ⟨u3, pv, rfl, hown, HPA.out, hb⟩
end Go.Proofs.YtmcegjkkgbnjlaaGreat
