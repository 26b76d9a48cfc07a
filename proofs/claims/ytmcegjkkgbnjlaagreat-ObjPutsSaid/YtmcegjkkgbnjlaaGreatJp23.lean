/-
  What was put is read, part A: the headers of an object's bytes, and what each tells. Nothing here walks the program.
  What was put is read, part B: the sections and the symbols. Nothing here walks the program.
  Contract of the reference's member.
-/
import Derived.Test.YtmcegjkkgbnjlaaGreatJp22
import Derived.Test.YtmcegjkkgbnjlaaGreatJp02
import Derived.Test.YtmcegjkkgbnjlaaGreatJp15
import Derived.Test.YtmcegjkkgbnjlaaGreatJp20
import Derived.Test.YtmcegjkkgbnjlaaGreatShapeA
namespace Go.Proofs.YtmcegjkkgbnjlaaGreat
open Go.RowKit

/-- What is so of an object that may be, as far as its bytes hang on it. -/
structure Well (o : ObjD) : Prop where
  lays : Lays o
  ty : ∀ s ∈ o.secs, s.type = 1 ∨ s.type = 8
  dat : ∀ s ∈ o.secs, s.type = 8 → s.data = []
  al : ∀ s ∈ o.secs, 1 ≤ s.align
  order : ∀ s ∈ o.secs, hasF s.flags 128 = true → 1 ≤ s.link ∧ s.link ≤ (o.secs.length : Int)
  plain : ∀ s ∈ o.secs, hasF s.flags 128 = false → s.link = 0
  rels : ∀ s ∈ o.secs, s.rels ≠ [] → s.type = 1
  mems : ∀ g ∈ o.groups, ∀ m ∈ g.members, 1 ≤ m ∧ m ≤ (o.secs.length : Int)
  symsec : ∀ s ∈ o.syms, -1 ≤ s.sec ∧ s.sec ≤ (o.secs.length : Int)
  sig : o.hasSig = false → o.sig = []
  size : (bytesOf o).length ≤ 16384

/-! ## Windows -/
theorem win_at (a b c : List UInt8) : win (a ++ b ++ c) a.length b.length = b := by
  unfold win
  rw [← List.length_append, List.take_left, List.drop_left]
theorem win_at' {l a b c : List UInt8} {i n : Nat} (h : l = a ++ b ++ c) (hi : a.length = i) (hn : b.length = n) : win l i n = b := by
  subst h
  subst hi
  subst hn
  exact win_at a b c
theorem body_split {P : List PartD} {i : Nat} {p : PartD} (h : P[i]? = some p) : bodyOf P = bodyOf (P.take i) ++ p.b ++ bodyOf (P.drop (i + 1)) := by
  have hl := (List.getElem?_eq_some_iff.1 h).1
  have e : P = P.take i ++ p :: P.drop (i + 1) := by
    conv => lhs; rw [← List.take_append_drop i P, List.drop_eq_getElem_cons hl, (List.getElem?_eq_some_iff.1 h).2]
  conv => lhs; rw [e]
  unfold bodyOf
  rw [List.flatMap_append, List.flatMap_cons, List.append_assoc]
theorem heads_split {pl : List Nat} {P : List PartD} {i : Nat} {p : PartD} (h : P[i]? = some p) : ∀ m, i < m → m ≤ P.length → ∃ r, headsBy pl P m = headsBy pl P i ++ sectB (headAt pl i (bodyOf (P.take i)).length p) ++ r
  | 0, h0, _ => absurd h0 (Nat.not_lt_zero _)
  | m + 1, hm, hl => by
    rcases Nat.lt_or_ge i m with hlt | hge
    · obtain ⟨r, hr⟩ := heads_split h m hlt (by omega)
      rw [headsBy_succ (List.getElem?_eq_getElem (show m < P.length by omega)), hr]
      exact ⟨r ++ _, by rw [List.append_assoc]⟩
    · obtain rfl : m = i := by omega
      exact ⟨[], by rw [headsBy_succ h, List.append_nil]⟩

/-! ## The headers -/
def plc (o : ObjD) : List Nat := placesOf (headNames (partsOf o))
def tenOf (o : ObjD) (i : Nat) (p : PartD) : Ten := headAt (plc o) i (bodyOf ((allOf o).take i)).length p
def headL (o : ObjD) : List Ten := (allOf o).mapIdx (tenOf o)
theorem headL_get {o : ObjD} {i : Nat} {p : PartD} (h : (allOf o)[i]? = some p) : (headL o)[i]? = some (tenOf o i p) := by
  unfold headL
  rw [List.getElem?_mapIdx, h]
  rfl
theorem headL_length (o : ObjD) : (headL o).length = symNo o + 3 := by
  unfold headL
  rw [List.length_mapIdx, allOf_length]
theorem off_add {o : ObjD} {i : Nat} {p : PartD} (h : (allOf o)[i]? = some p) : (bodyOf ((allOf o).take i)).length + p.b.length ≤ (bodyOf (allOf o)).length := by
  have e := congrArg List.length (body_split h)
  rw [List.length_append, List.length_append] at e
  omega
theorem bytes_length (o : ObjD) : (bytesOf o).length = 64 + (bodyOf (allOf o)).length + 64 * (allOf o).length := by
  rw [bytesOf_eq, List.length_append, List.length_append, hdrB_length, headsBy_length _ _ _ (Nat.le_refl _)]
theorem told_win {o : ObjD} {i : Nat} {p : PartD} (h : (allOf o)[i]? = some p) : win (bytesOf o) (64 + (bodyOf ((allOf o).take i)).length) p.b.length = p.b := by
  refine win_at' (a := hdrB (64 + (bodyOf (allOf o)).length) (allOf o).length ((allOf o).length - 1) ++ bodyOf ((allOf o).take i)) (b := p.b) (c := bodyOf ((allOf o).drop (i + 1)) ++ headsBy (placesOf (headNames (partsOf o))) (allOf o) (allOf o).length) ?_ ?_ rfl
  · rw [bytesOf_eq]
    have e := body_split h
    generalize hdrB (64 + (bodyOf (allOf o)).length) (allOf o).length ((allOf o).length - 1) = H
    generalize headsBy (placesOf (headNames (partsOf o))) (allOf o) (allOf o).length = T
    rw [e]
    simp only [List.append_assoc]
  · rw [List.length_append, hdrB_length]
theorem head_win {o : ObjD} {i : Nat} {p : PartD} (h : (allOf o)[i]? = some p) : win (bytesOf o) (64 + (bodyOf (allOf o)).length + 64 * i) 64 = sectB (tenOf o i p) := by
  have hl := (List.getElem?_eq_some_iff.1 h).1
  obtain ⟨r, hr⟩ := heads_split (pl := plc o) h (allOf o).length hl (Nat.le_refl _)
  refine win_at' (a := hdrB (64 + (bodyOf (allOf o)).length) (allOf o).length ((allOf o).length - 1) ++ bodyOf (allOf o) ++ headsBy (plc o) (allOf o) i) (b := sectB (tenOf o i p)) (c := r) ?_ ?_ (sectB_length _)
  · rw [bytesOf_eq]
    unfold plc at hr ⊢
    rw [hr]
    simp only [List.append_assoc]
    rfl
  · rw [List.length_append, List.length_append, hdrB_length, headsBy_length _ _ _ (by omega)]
theorem head_at {o : ObjD} (hw : Well o) {i : Nat} {p : PartD} (h : (allOf o)[i]? = some p) : sectAt (bytesOf o) (((64 + (bodyOf (allOf o)).length : Nat) : Int) + 64 * (i : Int)) = some (tenOf o i p) := by
  have hl := (List.getElem?_eq_some_iff.1 h).1
  rw [show ((64 + (bodyOf (allOf o)).length : Nat) : Int) + 64 * (i : Int) = ((64 + (bodyOf (allOf o)).length + 64 * i : Nat) : Int) by omega]
  refine (sectAt_iff _ _ _).2 ⟨heads_may hw.lays i p h, ?_, (head_win h).symm⟩
  rw [bytes_length]
  omega
theorem begun_at {o : ObjD} (hw : Well o) : begunB (bytesOf o) = some (64 + (bodyOf (allOf o)).length, (allOf o).length, (allOf o).length - 1) := by
  have h1 := allOf_length o
  have h2 := symNo_le hw.lays
  have h3 := hw.size
  rw [bytes_length] at h3
  refine (begunB_iff _ _ _ _).2 ⟨⟨by omega, by omega, by omega, by omega, by omega, by omega⟩, ?_⟩
  rw [bytesOf_eq, List.append_assoc]
  exact (List.take_left' (hdrB_length _ _ _)).symm

/-! ## Parts, and what the headers tell of them -/
/-- What a header tells of a part. -/
structure Tells (l : List UInt8) (p : PartD) (t : Ten) : Prop where
  b : t.b = p.h.b
  c : t.c = p.h.c
  g : t.g = p.h.g
  h : t.h = p.h.h
  i : t.i = p.h.i
  j : t.j = p.h.j
  told : p.h.b ≠ 8 → t.f = (p.b.length : Int) ∧ win l t.e.toNat t.f.toNat = p.b ∧ 0 ≤ t.e ∧ t.e + t.f ≤ (l.length : Int)
  none : p.h.b = 8 → t.f = p.h.f
inductive Al (l : List UInt8) : List PartD → List Ten → Prop
  | nil : Al l [] []
  | cons {p : PartD} {t : Ten} {ps : List PartD} {ts : List Ten} : Tells l p t → Al l ps ts → Al l (p :: ps) (t :: ts)
theorem Al.split {l : List UInt8} : ∀ {A B : List PartD} {L : List Ten}, Al l (A ++ B) L → ∃ L1 L2, L = L1 ++ L2 ∧ Al l A L1 ∧ Al l B L2
  | [], _, L, h => ⟨[], L, rfl, .nil, h⟩
  | _ :: A, B, _, .cons h hr => by
    obtain ⟨L1, L2, rfl, h1, h2⟩ := Al.split hr
    exact ⟨_ :: L1, L2, rfl, .cons h h1, h2⟩
theorem Al.length {l : List UInt8} : ∀ {A : List PartD} {L : List Ten}, Al l A L → L.length = A.length
  | _, _, .nil => rfl
  | _, _, .cons _ hr => by rw [List.length_cons, List.length_cons, hr.length]
theorem Al.get {l : List UInt8} : ∀ {A : List PartD} {L : List Ten} {i : Nat} {p : PartD}, Al l A L → A[i]? = some p → ∃ t, L[i]? = some t ∧ Tells l p t
  | _, _, _, _, .nil, h => by simp at h
  | _, _, 0, _, .cons (t := t) h _, e => by
    simp at e
    subst e
    exact ⟨t, rfl, h⟩
  | _, _, i + 1, _, .cons _ hr, e => by
    obtain ⟨u, hu, ht⟩ := hr.get (by simpa using e)
    exact ⟨u, by simpa using hu, ht⟩
theorem al_of {l : List UInt8} : ∀ {A : List PartD} {L : List Ten}, L.length = A.length → (∀ (i : Nat) (p : PartD) (t : Ten), A[i]? = some p → L[i]? = some t → Tells l p t) → Al l A L
  | [], [], _, _ => .nil
  | [], _ :: _, h, _ => by simp at h
  | _ :: _, [], h, _ => by simp at h
  | p :: A, t :: L, h, ht => .cons (ht 0 p t rfl rfl) (al_of (by simpa using h) fun i q u hq hu => ht (i + 1) q u (by simpa using hq) (by simpa using hu))
theorem tells_of {o : ObjD} {i : Nat} {p : PartD} (h : (allOf o)[i]? = some p) (h0 : i = 0 → p = zeroPart) : Tells (bytesOf o) p (tenOf o i p) := by
  by_cases hi : i = 0
  · obtain rfl := h0 hi
    subst hi
    exact ⟨rfl, rfl, rfl, rfl, rfl, rfl, fun _ => ⟨rfl, by show win (bytesOf o) 0 0 = []; unfold win; simp, Int.le_refl _, by show (0 : Int) + 0 ≤ _; omega⟩, fun _ => rfl⟩
  · have ho := off_add h
    have hb := bytes_length o
    have he : (tenOf o i p).e = 64 + ((bodyOf ((allOf o).take i)).length : Int) := by unfold tenOf headAt; rw [if_neg hi]
    refine ⟨rfl, rfl, rfl, rfl, rfl, rfl, fun h8 => ?_, fun h8 => by
      show (if i = 0 ∨ p.h.b = 8 then p.h.f else (p.b.length : Int)) = _
      exact if_pos (Or.inr h8)⟩
    have hf : (tenOf o i p).f = (p.b.length : Int) := by
      show (if i = 0 ∨ p.h.b = 8 then p.h.f else (p.b.length : Int)) = _
      exact if_neg (by omega)
    refine ⟨hf, ?_, by omega, by omega⟩
    rw [he, hf, show (64 + ((bodyOf ((allOf o).take i)).length : Int)).toNat = 64 + (bodyOf ((allOf o).take i)).length by omega, Int.toNat_natCast]
    exact told_win h
theorem allOf_zero (o : ObjD) : (allOf o)[0]? = some zeroPart := rfl
theorem al_all (o : ObjD) : Al (bytesOf o) (allOf o) (headL o) := by
  refine al_of (by rw [headL_length, allOf_length]) fun i p t hp ht => ?_
  rw [headL_get hp] at ht
  cases ht
  exact tells_of hp fun hi => by subst hi; rw [allOf_zero] at hp; cases hp; rfl

/-! ## Which types there are -/
theorem relPs_mem {a : Int} {secs : List SecD} {k : Nat} {p : PartD} (h : p ∈ relPs a secs k) : p.h.b = 4 ∧ p.h.d = 0 := by
  unfold relPs at h
  obtain ⟨i, _, hp⟩ := List.mem_flatMap.1 h
  unfold relPartAt at hp
  split at hp
  · unfold relPart at hp
    split at hp
    · simp at hp
    · simp only [List.mem_singleton] at hp
      subst hp
      exact ⟨rfl, rfl⟩
  · simp at hp
theorem groupPs_mem {a : Int} {gs : List GroupD} {hs : Bool} {sg : List Int} {p : PartD} (h : p ∈ groupPs a gs hs sg) : (p.h.b = 17 ∨ p.h.b = 1879002115) ∧ p.h.d = 0 := by
  unfold groupPs at h
  rcases List.mem_append.1 h with h | h
  · obtain ⟨g, _, rfl⟩ := List.mem_map.1 h
    exact ⟨.inl rfl, rfl⟩
  · cases hs with
    | false => simp at h
    | true =>
      simp only [cond_true, List.mem_singleton] at h
      subst h
      exact ⟨.inr rfl, rfl⟩
/-- Each part's type, but the zero one's. -/
theorem part_ty {o : ObjD} (hw : Well o) {i : Nat} {p : PartD} (h : (allOf o)[i]? = some p) (hi : i ≠ 0) : (p.h.b = 1 ∨ p.h.b = 8 ∨ p.h.b = 4 ∨ p.h.b = 17 ∨ p.h.b = 1879002115 ∨ p.h.b = 2 ∨ p.h.b = 3) ∧ p.h.d = 0 := by
  have hm : p ∈ (allOf o).drop 1 := by
    refine List.mem_of_getElem? (i := i - 1) ?_
    rw [List.getElem?_drop, show 1 + (i - 1) = i by omega]
    exact h
  have e : (allOf o).drop 1 = o.secs.map secPart ++ relPs (symNo o) o.secs o.secs.length ++ groupPs (symNo o) o.groups o.hasSig o.sig ++ symPs (symNo o) o.syms ++ [lastPart (headNames (partsOf o))] := rfl
  rw [e] at hm
  simp only [List.mem_append, List.mem_map] at hm
  rcases hm with (((⟨s, hs, rfl⟩ | hm) | hm) | hm) | hm
  · exact ⟨(hw.ty s hs).elim (fun h => .inl h) (fun h => .inr (.inl h)), rfl⟩
  · obtain ⟨h1, h2⟩ := relPs_mem hm
    exact ⟨by omega, h2⟩
  · obtain ⟨h1, h2⟩ := groupPs_mem hm
    exact ⟨by omega, h2⟩
  · unfold symPs at hm
    simp only [List.mem_cons, List.not_mem_nil, or_false] at hm
    rcases hm with rfl | rfl
    · exact ⟨.inr (.inr (.inr (.inr (.inr (.inl rfl))))), rfl⟩
    · exact ⟨.inr (.inr (.inr (.inr (.inr (.inr rfl))))), rfl⟩
  · simp only [List.mem_singleton] at hm
    subst hm
    exact ⟨.inr (.inr (.inr (.inr (.inr (.inr rfl))))), rfl⟩
theorem head_may {o : ObjD} (hw : Well o) {i : Nat} {p : PartD} (h : (allOf o)[i]? = some p) : headMay (bytesOf o).length i (tenOf o i p) = true := by
  unfold headMay
  by_cases hi : i = 0
  · subst hi
    rw [allOf_zero] at h
    cases h
    show zeroT (tenOf o 0 zeroPart) = true
    have h0 : (tenOf o 0 zeroPart).a = 0 := by
      show (((plc o).getD 0 0 : Nat) : Int) = 0
      have : (plc o)[0]? = some (placeOf (headNames (partsOf o)) []) := rfl
      rw [List.getD_eq_getElem?_getD, this, Option.getD_some, placeOf_nil]
      rfl
    unfold zeroT
    rw [h0]
    rfl
  · have hp := part_ty hw h hi
    have ht := tells_of h fun h => absurd h hi
    have hd : (tenOf o i p).d = 0 := hp.2
    rw [show (i == 0) = false by simpa using hi, hd]
    simp only [cond_false]
    cases h8 : ((tenOf o i p).b == 8) with
    | true => rfl
    | false =>
      have h8' : p.h.b ≠ 8 := by
        have : (tenOf o i p).b ≠ 8 := by simpa using h8
        rwa [ht.b] at this
      obtain ⟨_, _, _, hf⟩ := ht.told h8'
      have hty : tyOK (tenOf o i p).b = true := by
        rw [ht.b]
        rcases hp.1 with h | h | h | h | h | h | h
        · rw [h]; rfl
        · exact absurd h h8'
        all_goals rw [h]; rfl
      rw [hty]
      simp only [cond_true, cond_false, decide_eq_true hf]
      rfl

theorem hd_go {o : ObjD} (hw : Well o) : ∀ m i, i + m = (allOf o).length → hdGo (bytesOf o) (64 + (bodyOf (allOf o)).length) i m ((headL o).take i) = some (headL o)
  | 0, i, h => by
    show some _ = some _
    rw [List.take_of_length_le (by rw [headL_length, ← allOf_length]; omega)]
  | m + 1, i, h => by
    have hp : (allOf o)[i]? = some _ := List.getElem?_eq_getElem (show i < (allOf o).length by omega)
    rw [hdGo_some (head_at hw hp), head_may hw hp]
    have e : (headL o).take i ++ [tenOf o i _] = (headL o).take (i + 1) := (take_snoc (headL_get hp)).symm
    rw [e]
    exact hd_go hw m (i + 1) (by omega)

/-! ## The headers' names -/
theorem str_lst (s : ByteArray) : str (lst s) = s := by
  unfold str
  rfl
theorem name_got {ns : List Nm} {m : Nm} (hm : m ∈ ns) (h : mayB m = true) : strAt (tabOf ns).tb ((placeOf ns m : Nat) : Int) = some m := by
  obtain ⟨r, hr⟩ := stands ns m (.inr hm)
  have hlt : placeOf ns m < (tabOf ns).tb.length := by
    have := congrArg List.length hr
    rw [List.length_drop, List.length_append, List.length_cons] at this
    omega
  unfold strAt
  rw [if_pos ⟨by omega, by omega⟩, Int.toNat_natCast, hr, nameB_stands h]
theorem nm_go {o : ObjD} (hw : Well o) : ∀ m i, i + m = (allOf o).length → 1 ≤ i → nmGo (tabOf (headNames (partsOf o))).tb (((headNames (partsOf o)).map str).take i) ((headL o).drop i) = some ((headNames (partsOf o)).map str)
  | 0, i, h, _ => by
    have h1 := allOf_length o
    have h2 := partsOf_length o
    have h3 := headL_length o
    rw [List.drop_eq_nil_of_le (by omega)]
    show some _ = some _
    rw [List.take_of_length_le (by rw [List.length_map, headNames_length]; omega)]
  | m + 1, i, h, hi => by
    have h1 := allOf_length o
    have h2 := partsOf_length o
    have hlt : i < (headNames (partsOf o)).length := by rw [headNames_length]; omega
    have hp : (allOf o)[i]? = some _ := List.getElem?_eq_getElem (show i < (allOf o).length by omega)
    have hn : (headNames (partsOf o))[i]? = some _ := List.getElem?_eq_getElem hlt
    rw [nmGo_step (headL_get hp)]
    have ha : (tenOf o i ((allOf o)[i]'(by omega))).a = ((placeOf (headNames (partsOf o)) ((headNames (partsOf o))[i]'hlt) : Nat) : Int) := by
      show (((plc o).getD i 0 : Nat) : Int) = _
      unfold plc placesOf
      rw [List.getD_eq_getElem?_getD, List.getElem?_map, hn]
      rfl
    rw [ha, name_got (List.getElem_mem hlt) (headNames_ok hw.lays _ (List.getElem_mem hlt))]
    have e : ((headNames (partsOf o)).map str).take i ++ [str ((headNames (partsOf o))[i]'hlt)] = ((headNames (partsOf o)).map str).take (i + 1) := (take_snoc (by rw [List.getElem?_map, hn]; rfl)).symm
    simp only [e]
    exact nm_go hw m (i + 1) (by omega) (by omega)
theorem fil_got {o : ObjD} (hw : Well o) : filB (bytesOf o) = some (headL o, (headNames (partsOf o)).map str) := by
  have h1 := allOf_length o
  have hlast : (allOf o)[(allOf o).length - 1]? = some (lastPart (headNames (partsOf o))) := by
    have : (allOf o).length - 1 = (partsOf o).length := by rw [h1, partsOf_length]; omega
    rw [this]
    unfold allOf
    rw [List.getElem?_append_right (Nat.le_refl _), Nat.sub_self]
    rfl
  obtain ⟨t, ht, hT⟩ := (al_all o).get hlast
  obtain ⟨_, hwin, _, _⟩ := hT.told (by show (3 : Int) ≠ 8; decide)
  have hty : isTy (headL o) ((allOf o).length - 1) 3 = true := by
    unfold isTy
    rw [ht]
    show (t.b == 3) = true
    rw [hT.b]
    rfl
  have hhd := hd_go hw (allOf o).length 0 (by omega)
  have hnm := nm_go hw ((allOf o).length - 1) 1 (by omega) (Nat.le_refl _)
  have hn0 : ((headNames (partsOf o)).map str).take 1 = [str []] := rfl
  rw [hn0] at hnm
  rw [List.take_zero] at hhd
  unfold filB
  rw [if_neg (by have := hw.size; omega), begun_at hw]
  simp only [hhd, hty, cond_true, ht]
  rw [hwin]
  show (match nmGo (tabOf (headNames (partsOf o))).tb [str []] ((headL o).drop 1) with | none => none | some ns => some (headL o, ns)) = _
  rw [hnm]
end Go.Proofs.YtmcegjkkgbnjlaaGreat

namespace Go.Proofs.YtmcegjkkgbnjlaaGreat
open Go.RowKit

/-! ## Numbers of sections -/
theorem numGo_secs : ∀ (S : List Ten) (R : List Ten) (m : Nat), (∀ t ∈ S, isSecT t = true) → (∀ t ∈ R, isSecT t = false) → ∀ j : Nat, (numGo m (S ++ R))[j]?.getD 0 = if j < S.length then ((m + j + 1 : Nat) : Int) else 0
  | [], [], m, _, _, j => by simp [numGo]
  | [], t :: R, m, hS, hR, j => by
    show (numGo m (t :: R))[j]?.getD 0 = _
    unfold numGo
    rw [hR t (List.mem_cons_self ..)]
    match j with
    | 0 => rfl
    | j + 1 =>
      show (0 :: numGo m R)[j + 1]?.getD 0 = _
      rw [List.getElem?_cons_succ]
      have := numGo_secs [] R m hS (fun u hu => hR u (List.mem_cons_of_mem _ hu)) j
      simpa using this
  | t :: S, R, m, hS, hR, j => by
    rw [List.cons_append]
    unfold numGo
    rw [hS t (List.mem_cons_self ..)]
    match j with
    | 0 => rfl
    | j + 1 =>
      show (((m + 1 : Nat) : Int) :: numGo (m + 1) (S ++ R))[j + 1]?.getD 0 = _
      rw [List.getElem?_cons_succ, numGo_secs S R (m + 1) (fun u hu => hS u (List.mem_cons_of_mem _ hu)) hR j, List.length_cons]
      by_cases h : j < S.length
      · rw [if_pos h, if_pos (by omega)]
        omega
      · rw [if_neg h, if_neg (by omega)]

/-- The headers of an object's bytes, by kinds. -/
structure Cut (o : ObjD) (S R G : List Ten) (t0 y u v : Ten) : Prop where
  all : headL o = t0 :: (S ++ (R ++ (G ++ [y, u, v])))
  t0 : t0.b = 0
  S : Al (bytesOf o) (o.secs.map secPart) S
  R : Al (bytesOf o) (relPs (symNo o) o.secs o.secs.length) R
  G : Al (bytesOf o) (groupPs (symNo o) o.groups o.hasSig o.sig) G
  y : Tells (bytesOf o) ⟨symHead (symNo o) (localsOf o.syms), nSymtab, symsBy (symNames o.syms) o.syms⟩ y
  u : Tells (bytesOf o) ⟨tabHead, nStrtab, (tabOf (symNames o.syms)).tb⟩ u
  v : Tells (bytesOf o) (lastPart (headNames (partsOf o))) v
theorem Al.three {l : List UInt8} {p q r : PartD} {L : List Ten} (h : Al l [p, q, r] L) : ∃ y u v, L = [y, u, v] ∧ Tells l p y ∧ Tells l q u ∧ Tells l r v := by
  cases h with
  | cons h1 h =>
    cases h with
    | cons h2 h =>
      cases h with
      | cons h3 h =>
        cases h
        exact ⟨_, _, _, rfl, h1, h2, h3⟩
theorem cut_of (o : ObjD) : ∃ S R G t0 y u v, Cut o S R G t0 y u v := by
  have h := al_all o
  have e : allOf o = zeroPart :: (o.secs.map secPart ++ (relPs (symNo o) o.secs o.secs.length ++ (groupPs (symNo o) o.groups o.hasSig o.sig ++ [⟨symHead (symNo o) (localsOf o.syms), nSymtab, symsBy (symNames o.syms) o.syms⟩, ⟨tabHead, nStrtab, (tabOf (symNames o.syms)).tb⟩, lastPart (headNames (partsOf o))]))) := by
    unfold allOf partsOf symPs
    simp only [List.append_assoc, List.cons_append, List.nil_append]
  rw [e] at h
  generalize hL : headL o = L at h
  cases h with
  | cons h0 k0 =>
    obtain ⟨S, L1, rfl, hS, k1⟩ := Al.split (A := o.secs.map secPart) k0
    obtain ⟨R, L2, rfl, hR, k2⟩ := Al.split (A := relPs (symNo o) o.secs o.secs.length) k1
    obtain ⟨G, L3, rfl, hG, k3⟩ := Al.split (A := groupPs (symNo o) o.groups o.hasSig o.sig) k2
    clear k0 k1 k2
    obtain ⟨y, u, v, rfl, hy, hu, hv⟩ := Al.three k3
    exact ⟨S, R, G, _, y, u, v, hL, h0.b, hS, hR, hG, hy, hu, hv⟩
theorem al_mem {l : List UInt8} : ∀ {A : List PartD} {L : List Ten} {t : Ten}, Al l A L → t ∈ L → ∃ p ∈ A, Tells l p t
  | _, _, _, .nil, h => by cases h
  | _, _, _, .cons h hr, ht => by
    rcases List.mem_cons.1 ht with rfl | ht
    · exact ⟨_, List.mem_cons_self .., h⟩
    · obtain ⟨p, hp, hT⟩ := al_mem hr ht
      exact ⟨p, List.mem_cons_of_mem _ hp, hT⟩
section
variable {o : ObjD} {S R G : List Ten} {t0 y u v : Ten}
theorem Cut.slen (c : Cut o S R G t0 y u v) : S.length = o.secs.length := by rw [c.S.length, List.length_map]
theorem Cut.sno (c : Cut o S R G t0 y u v) : symNo o = 1 + S.length + R.length + G.length := by
  have h1 := c.R.length
  have h2 := c.G.length
  rw [relPs_len_any (symNo o) 0] at h1
  rw [groupPs_len_any (symNo o) 0] at h2
  rw [c.slen, h1, h2]
  rfl
theorem Cut.sty (c : Cut o S R G t0 y u v) (hw : Well o) : ∀ t ∈ S, t.b = 1 ∨ t.b = 8 := fun t ht => by
  obtain ⟨p, hp, hT⟩ := al_mem c.S ht
  obtain ⟨s, hs, rfl⟩ := List.mem_map.1 hp
  rw [hT.b]
  exact hw.ty s hs
theorem Cut.rty (c : Cut o S R G t0 y u v) : ∀ t ∈ R, t.b = 4 := fun t ht => by
  obtain ⟨p, hp, hT⟩ := al_mem c.R ht
  rw [hT.b]
  exact (relPs_mem hp).1
theorem Cut.gty (c : Cut o S R G t0 y u v) : ∀ t ∈ G, t.b = 17 ∨ t.b = 1879002115 := fun t ht => by
  obtain ⟨p, hp, hT⟩ := al_mem c.G ht
  rw [hT.b]
  exact (groupPs_mem hp).1
theorem Cut.yty (c : Cut o S R G t0 y u v) : y.b = 2 := c.y.b
theorem Cut.uty (c : Cut o S R G t0 y u v) : u.b = 3 := c.u.b
theorem Cut.vty (c : Cut o S R G t0 y u v) : v.b = 3 := c.v.b
/-- The number of the section that header j is. -/
theorem Cut.num (c : Cut o S R G t0 y u v) (hw : Well o) (j : Nat) : (numGo 0 (headL o))[j]?.getD 0 = if 1 ≤ j ∧ j ≤ o.secs.length then (j : Int) else 0 := by
  rw [c.all]
  have e : numGo 0 (t0 :: (S ++ (R ++ (G ++ [y, u, v])))) = 0 :: numGo 0 (S ++ (R ++ (G ++ [y, u, v]))) := by
    show (bif isSecT t0 then _ else _) = _
    have : isSecT t0 = false := by unfold isSecT; rw [c.t0]; rfl
    rw [this]
    rfl
  rw [e]
  match j with
  | 0 => rfl
  | j + 1 =>
    rw [List.getElem?_cons_succ, numGo_secs S _ 0 (fun t ht => by
      unfold isSecT
      rcases c.sty hw t ht with h | h <;> rw [h] <;> rfl) (fun t ht => by
      unfold isSecT
      simp only [List.mem_append, List.mem_cons, List.not_mem_nil, or_false] at ht
      rcases ht with ht | ht | rfl | rfl | rfl
      · rw [c.rty t ht]; rfl
      · rcases c.gty t ht with h | h <;> rw [h] <;> rfl
      · rw [c.yty]; rfl
      · rw [c.uty]; rfl
      · rw [c.vty]; rfl) j, c.slen]
    by_cases h : j < o.secs.length
    · rw [if_pos h, if_pos ⟨by omega, by omega⟩]
      omega
    · rw [if_neg h, if_neg (by omega)]
theorem Cut.num_int (c : Cut o S R G t0 y u v) (hw : Well o) {x : Int} (h : 1 ≤ x ∧ x ≤ (o.secs.length : Int)) : (numGo 0 (headL o))[x.toNat]?.getD 0 = x := by
  rw [c.num hw, if_pos ⟨by omega, by omega⟩]
  omega

/-! ## The sections -/
def bare (s : SecD) : SecD := { s with rels := [] }
theorem Cut.sec (c : Cut o S R G t0 y u v) (hw : Well o) {s : SecD} (hs : s ∈ o.secs) {t : Ten} (hT : Tells (bytesOf o) (secPart s) t) :
    secB (bytesOf o) (numGo 0 (headL o)) t = some ⟨ByteArray.empty, s.type, s.flags, s.align, s.ent, s.link, s.size, s.data, []⟩ := by
  have hb : t.b = s.type := hT.b
  have hc : t.c = s.flags := hT.c
  have hg : t.g = s.link := hT.g
  have hh : t.h = 0 := hT.h
  have hi : t.i = s.align := hT.i
  have hj : t.j = s.ent := hT.j
  have hal := hw.al s hs
  have hdf : dataB (bytesOf o) t = s.data ∧ t.f = s.size := by
    unfold dataB
    rw [hb]
    rcases hw.ty s hs with h1 | h8
    · obtain ⟨k1, k2, _, _⟩ := hT.told (by show s.type ≠ 8; omega)
      rw [h1]
      refine ⟨k2, ?_⟩
      rw [k1]
      exact ((hw.lays.secs s hs).2.2.2.2.2.2.2.2.2.1 (by omega)).symm
    · rw [h8]
      exact ⟨(hw.dat s hs h8).symm, hT.none h8⟩
  unfold secB
  rw [hh, hc, hdf.1, hdf.2, hi, hj, hg, hb, if_neg (by omega)]
  cases ho : hasF s.flags 128 with
  | true =>
    have hl := hw.order s hs ho
    rw [c.num_int hw hl, show (s.link != 0) = true by simp; omega]
    rfl
  | false =>
    have hl := hw.plain s hs ho
    rw [hl]
    rfl
theorem Cut.secs_go (c : Cut o S R G t0 y u v) (hw : Well o) (Y : List Ten) : ∀ (ss : List SecD) (ts : List Ten) (i : Nat) (acc : List SecD), Al (bytesOf o) (ss.map secPart) ts → 1 ≤ i → i + ss.length = o.secs.length + 1 → o.secs.drop (i - 1) = ss →
    secGo (bytesOf o) (numGo 0 (headL o)) ((headNames (partsOf o)).map str) i (ts ++ Y) acc = secGo (bytesOf o) (numGo 0 (headL o)) ((headNames (partsOf o)).map str) (o.secs.length + 1) Y (acc ++ ss.map bare)
  | [], _, i, acc, .nil, _, hi, _ => by
    rw [List.map_nil, List.append_nil, List.nil_append, show i = o.secs.length + 1 by simpa using hi]
  | s :: ss, _, i, acc, .cons (t := t) (ts := ts) hT hr, h1, hi, hd => by
    rw [List.length_cons] at hi
    have hs : o.secs[i - 1]? = some s := by
      have := congrArg (·[0]?) hd
      simpa using this
    have hmem := List.mem_of_getElem? hs
    have hd2 : o.secs.drop (i + 1 - 1) = ss := by
      have e : o.secs.drop (i + 1 - 1) = (o.secs.drop (i - 1)).drop 1 := by rw [List.drop_drop]; congr 1; omega
      rw [e, hd]
      rfl
    have hn : ((headNames (partsOf o)).map str)[i]?.getD ByteArray.empty = s.name := by
      have hp : (partsOf o)[i]? = some (secPart s) := by
        obtain ⟨j, rfl⟩ : ∃ j, i = j + 1 := ⟨i - 1, by omega⟩
        have e : partsOf o = zeroPart :: (o.secs.map secPart ++ (relPs (symNo o) o.secs o.secs.length ++ groupPs (symNo o) o.groups o.hasSig o.sig ++ symPs (symNo o) o.syms)) := by
          unfold partsOf
          simp only [List.append_assoc, List.cons_append]
        rw [e, List.getElem?_cons_succ, List.getElem?_append_left (by rw [List.length_map]; omega), List.getElem?_map]
        rw [show j + 1 - 1 = j by omega] at hs
        rw [hs]
        rfl
      have hlt := (List.getElem?_eq_some_iff.1 hp).1
      unfold headNames
      rw [List.getElem?_map, List.getElem?_append_left (by rw [List.length_map]; exact hlt), List.getElem?_map, hp]
      exact str_lst s.name
    rw [List.cons_append]
    conv => lhs; unfold secGo
    rw [c.num hw i, if_pos ⟨h1, by omega⟩, show ((i : Int) == 0) = false by simp; omega, c.sec hw hmem hT, hn]
    simp only [cond_false]
    rw [c.secs_go hw Y ss ts (i + 1) _ hr (by omega) (by omega) hd2, List.map_cons, List.append_assoc]
    rfl
theorem Cut.skip_go (c : Cut o S R G t0 y u v) (hw : Well o) (nm : List ByteArray) : ∀ (ts : List Ten) (i : Nat) (acc : List SecD), o.secs.length < i → secGo (bytesOf o) (numGo 0 (headL o)) nm i ts acc = some acc
  | [], _, _, _ => rfl
  | t :: ts, i, acc, h => by
    unfold secGo
    rw [c.num hw i, if_neg (by omega)]
    exact c.skip_go hw nm ts (i + 1) acc (by omega)
theorem Cut.secs (c : Cut o S R G t0 y u v) (hw : Well o) : secsB (bytesOf o) (headL o) ((headNames (partsOf o)).map str) = some (o.secs.map bare) := by
  unfold secsB
  have h0 : secGo (bytesOf o) (numGo 0 (headL o)) ((headNames (partsOf o)).map str) 0 (headL o) [] = secGo (bytesOf o) (numGo 0 (headL o)) ((headNames (partsOf o)).map str) 1 (S ++ (R ++ (G ++ [y, u, v]))) [] := by
    conv => lhs; arg 5; rw [c.all]
    rw [secGo.eq_2, c.num hw 0, if_neg (by omega)]
    rfl
  rw [h0, c.secs_go hw _ o.secs S 1 [] c.S (Nat.le_refl _) (by omega) rfl, c.skip_go hw _ _ _ _ (by omega)]
  rfl

/-! ## The symbols -/
theorem cnt2_none {L : List Ten} : ∀ k, (∀ j t, j < k → L[j]? = some t → t.b ≠ 2) → cnt2 L k = 0 ∧ last2 L k = 0
  | 0, _ => ⟨rfl, rfl⟩
  | k + 1, h => by
    obtain ⟨h1, h2⟩ := cnt2_none k fun j t hj ht => h j t (by omega) ht
    cases hk : L[k]? with
    | none =>
      unfold cnt2 last2
      rw [hk]
      exact ⟨by omega, h2⟩
    | some t =>
      have hb : (t.b == 2) = false := by simpa using h k t (Nat.lt_succ_self _) hk
      rw [cnt2_step hk, last2_step hk, hb]
      exact ⟨by rw [h1]; rfl, h2⟩
theorem cnt2_one {L : List Ten} {a : Nat} {y : Ten} (ha : L[a]? = some y) (hy : y.b = 2) (hn : ∀ j t, j ≠ a → L[j]? = some t → t.b ≠ 2) : ∀ m, cnt2 L (a + 1 + m) = 1 ∧ last2 L (a + 1 + m) = a
  | 0 => by
    obtain ⟨h1, h2⟩ := cnt2_none (L := L) a fun j t hj ht => hn j t (by omega) ht
    rw [show a + 1 + 0 = a + 1 from rfl, cnt2_step ha, last2_step ha, hy, h1]
    exact ⟨rfl, rfl⟩
  | m + 1 => by
    obtain ⟨h1, h2⟩ := cnt2_one ha hy hn m
    show cnt2 L (a + 1 + m + 1) = 1 ∧ last2 L (a + 1 + m + 1) = a
    cases hk : L[a + 1 + m]? with
    | none =>
      unfold cnt2 last2
      rw [hk]
      exact ⟨by omega, h2⟩
    | some t =>
      have hb : (t.b == 2) = false := by simpa using hn _ t (by omega) hk
      rw [cnt2_step hk, last2_step hk, hb]
      exact ⟨by rw [h1]; rfl, h2⟩
theorem Cut.y_at (c : Cut o S R G t0 y u v) : (headL o)[symNo o]? = some y ∧ (headL o)[symNo o + 1]? = some u := by
  have e := c.sno
  have e1 : ∀ k, (headL o)[symNo o + k]? = [y, u, v][k]? := fun k => by
    rw [c.all, e, show 1 + S.length + R.length + G.length + k = (S.length + (R.length + (G.length + k))) + 1 by omega, List.getElem?_cons_succ, List.getElem?_append_right (by omega), show S.length + (R.length + (G.length + k)) - S.length = R.length + (G.length + k) by omega, List.getElem?_append_right (by omega), show R.length + (G.length + k) - R.length = G.length + k by omega, List.getElem?_append_right (by omega), show G.length + k - G.length = k by omega]
  exact ⟨e1 0, e1 1⟩
theorem Cut.not_two (c : Cut o S R G t0 y u v) (hw : Well o) : ∀ j t, j ≠ symNo o → (headL o)[j]? = some t → t.b ≠ 2 := fun j t hj ht => by
  have e := c.sno
  rw [c.all] at ht
  match j with
  | 0 => simp at ht; subst ht; rw [c.t0]; decide
  | j + 1 =>
    rw [List.getElem?_cons_succ] at ht
    rcases Nat.lt_or_ge j S.length with h1 | h1
    · rw [List.getElem?_append_left h1] at ht
      have := c.sty hw t (List.mem_of_getElem? ht)
      omega
    rw [List.getElem?_append_right h1] at ht
    rcases Nat.lt_or_ge (j - S.length) R.length with h2 | h2
    · rw [List.getElem?_append_left h2] at ht
      have := c.rty t (List.mem_of_getElem? ht)
      omega
    rw [List.getElem?_append_right h2] at ht
    rcases Nat.lt_or_ge (j - S.length - R.length) G.length with h3 | h3
    · rw [List.getElem?_append_left h3] at ht
      have := c.gty t (List.mem_of_getElem? ht)
      omega
    rw [List.getElem?_append_right h3] at ht
    obtain ⟨k, hk⟩ : ∃ k, j - S.length - R.length - G.length = k + 1 := ⟨j - S.length - R.length - G.length - 1, by omega⟩
    rw [hk, List.getElem?_cons_succ] at ht
    match k with
    | 0 => simp at ht; subst ht; rw [c.uty]; decide
    | 1 => simp at ht; subst ht; rw [c.vty]; decide
    | k + 2 => simp at ht
theorem flat_win {α : Type} {f : α → List UInt8} {n : Nat} (hn : ∀ x, (f x).length = n) : ∀ {xs : List α} {i : Nat} {x : α}, xs[i]? = some x → win (xs.flatMap f) (n * i) n = f x
  | [], i, x, h => by simp at h
  | z :: xs, 0, x, h => by
    simp at h
    subst h
    rw [List.flatMap_cons]
    exact win_at' (a := []) (b := f z) (c := xs.flatMap f) rfl (by simp) (hn z)
  | z :: xs, i + 1, x, h => by
    have ih := flat_win hn (xs := xs) (i := i) (x := x) (by simpa using h)
    rw [List.flatMap_cons]
    unfold win at ih ⊢
    rw [show n * (i + 1) = (f z).length + n * i by rw [hn z, Nat.mul_succ, Nat.add_comm], show (f z).length + n * i + n = (f z).length + (n * i + n) by omega, List.take_length_add_append, List.drop_length_add_append]
    exact ih
theorem Cut.sym (c : Cut o S R G t0 y u v) (hw : Well o) {i : Nat} {s : SymD} (hs : o.syms[i]? = some s) : symB (bytesOf o) (numGo 0 (headL o)) (tabOf (symNames o.syms)).tb (y.e + 24 * (i : Int)) = some s := by
  have hm := List.mem_of_getElem? hs
  have hl := (List.getElem?_eq_some_iff.1 hs).1
  obtain ⟨h1, h2, h3, h4, h5, h6, h7, h8, h9⟩ := hw.lays.syms s hm
  obtain ⟨k1, k2, k3, k4⟩ := c.y.told (by show (2 : Int) ≠ 8; decide)
  have hlen : (symsBy (symNames o.syms) o.syms).length = 24 * o.syms.length := symsBy_length _ _
  obtain ⟨e, he⟩ := Int.eq_ofNat_of_zero_le k3
  have hfl : y.f = ((24 * o.syms.length : Nat) : Int) := by rw [k1]; show ((symsBy (symNames o.syms) o.syms).length : Int) = _; rw [hlen]
  have hpl := places_small o.syms (by have := hw.lays.nsym; omega) (fun s hs => (hw.lays.syms s hs).1) s hm
  have hsx := hw.symsec s hm
  have hnl := hw.lays.nsec
  have hix : (0 ≤ symIdx s.sec ∧ symIdx s.sec ≤ 65535) := by
    unfold symIdx
    split <;> omega
  have hat : symAt (bytesOf o) (y.e + 24 * (i : Int)) = some (sixOf (placeOf (symNames o.syms) (lst s.name)) s) := by
    rw [he, show (e : Int) + 24 * (i : Int) = ((e + 24 * i : Nat) : Int) by omega]
    refine (symAt_iff _ _ _).2 ⟨⟨fitsN _ hpl, h2, h3, h4, h5, h6, h7, hix.1, hix.2⟩, by omega, ?_⟩
    rw [he, hfl, Int.toNat_natCast] at k2
    have hw1 := win_win (bytesOf o) e (24 * o.syms.length) (24 * i) 24 (by omega)
    rw [← hw1]
    have k2' : win (bytesOf o) e (24 * o.syms.length) = symsBy (symNames o.syms) o.syms := k2
    rw [k2']
    have hfw := flat_win (n := 24) (f := fun s => entB (sixOf (placeOf (symNames o.syms) (lst s.name)) s)) (fun x => entB_length _) hs
    generalize placeOf (symNames o.syms) (lst s.name) = pl at *
    unfold symsBy
    exact hfw.symm
  have hnm : strAt (tabOf (symNames o.syms)).tb ((placeOf (symNames o.syms) (lst s.name) : Nat) : Int) = some (lst s.name) := name_got (List.mem_map.2 ⟨s, hm, rfl⟩) h1
  unfold symB
  rw [hat]
  have ha : (sixOf (placeOf (symNames o.syms) (lst s.name)) s).a = ((placeOf (symNames o.syms) (lst s.name) : Nat) : Int) := rfl
  simp only [ha, hnm, str_lst]
  show (bif symIdx s.sec == 0 then some (⟨s.name, s.bind, s.type, 0, s.value, s.size⟩ : SymD) else bif symIdx s.sec == 65521 then some ⟨s.name, s.bind, s.type, -1, s.value, s.size⟩ else bif (numGo 0 (headL o))[(symIdx s.sec).toNat]?.getD 0 != 0 then some ⟨s.name, s.bind, s.type, (numGo 0 (headL o))[(symIdx s.sec).toNat]?.getD 0, s.value, s.size⟩ else none) = some s
  by_cases hm1 : s.sec = -1
  · have : symIdx s.sec = 65521 := by unfold symIdx; rw [if_pos hm1]
    rw [this]
    obtain ⟨a, b, d, q, f, g⟩ := s
    simp only at hm1
    subst hm1
    rfl
  · have : symIdx s.sec = s.sec := by unfold symIdx; rw [if_neg hm1]
    rw [this]
    by_cases h0 : s.sec = 0
    · obtain ⟨a, b, d, q, f, g⟩ := s
      simp only at h0
      subst h0
      rfl
    · rw [c.num_int hw ⟨by omega, hsx.2⟩, show (s.sec == 0) = false by simpa using h0, show (s.sec == 65521) = false by simp; omega, show (s.sec != 0) = true by simpa using h0]
      rfl
theorem Cut.syms_go (c : Cut o S R G t0 y u v) (hw : Well o) : ∀ m i, i + m = o.syms.length → symGo (bytesOf o) (numGo 0 (headL o)) (tabOf (symNames o.syms)).tb y.e i m (o.syms.take i) = some o.syms
  | 0, i, h => by
    show some _ = some _
    rw [List.take_of_length_le (by omega)]
  | m + 1, i, h => by
    have hs : o.syms[i]? = some _ := List.getElem?_eq_getElem (show i < o.syms.length by omega)
    rw [symGo_step, c.sym hw hs]
    have e := take_snoc hs
    simp only [← e]
    exact c.syms_go hw m (i + 1) (by omega)
theorem Cut.syms (c : Cut o S R G t0 y u v) (hw : Well o) : symsB (bytesOf o) (headL o) (numGo 0 (headL o)) = some o.syms ∧ last2 (headL o) (headL o).length = symNo o := by
  obtain ⟨hy, hu⟩ := c.y_at
  have hlen := headL_length o
  obtain ⟨h1, h2⟩ := cnt2_one hy c.yty (c.not_two hw) 2
  rw [show symNo o + 1 + 2 = (headL o).length by omega] at h1 h2
  refine ⟨?_, h2⟩
  obtain ⟨k1, k2, k3, k4⟩ := c.y.told (by show (2 : Int) ≠ 8; decide)
  obtain ⟨j1, j2, j3, j4⟩ := c.u.told (by show (3 : Int) ≠ 8; decide)
  have hlen : (symsBy (symNames o.syms) o.syms).length = 24 * o.syms.length := symsBy_length _ _
  have hfl : y.f = ((24 * o.syms.length : Nat) : Int) := by rw [k1]; show ((symsBy (symNames o.syms) o.syms).length : Int) = _; rw [hlen]
  have hyg : y.g = ((symNo o + 1 : Nat) : Int) := c.y.g
  have hyj : y.j = 24 := c.y.j
  have hyh : y.h = ((localsOf o.syms : Nat) : Int) := c.y.h
  have hm : ((24 * o.syms.length : Nat) : Int).tmod 24 = 0 := by rw [Int.natCast_mul]; exact Int.mul_tmod_right _ _
  have hdiv : 24 * o.syms.length / 24 = o.syms.length := by omega
  have hty : isTy (headL o) (symNo o + 1) 3 = true := by
    unfold isTy
    rw [hu]
    show (u.b == 3) = true
    rw [c.uty]
    rfl
  have hgo := c.syms_go hw o.syms.length 0 (by omega)
  rw [List.take_zero] at hgo
  unfold symsB
  rw [h1, h2, hy]
  show symsAt (bytesOf o) (headL o) (numGo 0 (headL o)) y = some o.syms
  unfold symsAt
  rw [hyj, hfl, hm, hyg, Int.toNat_natCast, Int.toNat_natCast, hty, hdiv, hu]
  have j2' : win (bytesOf o) u.e.toNat u.f.toNat = (tabOf (symNames o.syms)).tb := j2
  simp only [j2', hgo, hyh]
  show (bif ((cntL o.syms : Nat) : Int) == ((localsOf o.syms : Nat) : Int) then some o.syms else none) = some o.syms
  have : cntL o.syms = localsOf o.syms := rfl
  rw [this]
  simp
end
end Go.Proofs.YtmcegjkkgbnjlaaGreat

namespace Go.Proofs.YtmcegjkkgbnjlaaGreat
open Go.RowKit

/-- An object's value: its five cells. -/
abbrev objV (v0 v1 v2 : Value) (sig : Bool) (v4 : Value) : Value := .agg #[v0, v1, v2, .bool sig, v4]
def memberN (gs : List GroupD) (n : Int) : Nat := (gs.map fun g => g.members.count n).sum
theorem member_step {gs : List GroupD} {g : GroupD} {i : Nat} (n : Int) (h : gs[i]? = some g) : memberN (gs.take (i + 1)) n = memberN (gs.take i) n + g.members.count n := by
  unfold memberN
  rw [List.take_add_one, h]
  simp
theorem count_step {l : List Int} {x : Int} {k : Nat} (n : Int) (h : l[k]? = some x) : (l.take (k + 1)).count n = (l.take k).count n + (if x == n then 1 else 0) := by
  rw [List.take_add_one, h]
  simp [List.count_append, List.count_cons]

set_option maxRecDepth 100000 in
set_option maxHeartbeats 1000000 in
theorem member_any (v0 v1 v2 : Value) (sig : Bool) (v4 : Value) (gs : List GroupD) (n : Int) (w : World) (hg : IsL 2 EGroup w v2 gs) (hgl : gs.length ≤ 1000000) (hml : ∀ g ∈ gs, g.members.length ≤ 1000000) :
    Calls Tryz.prog 67 #[objV v0 v1 v2 sig v4, .int .i64 n] w fun e w' => e = .returned (.int .i64 (memberN gs n : Int)) ∧ Below w.heap.size w w' := by
  have hb : Below w.heap.size w (w.alloc (.cells #[v0, v1, v2, .bool sig, v4] 27)) := (Below.refl _ w).alloc (Nat.le_refl _) _
  have hg1 := hg.below EGroup.keeps hb
  have hc2 : (w.alloc (.cells #[v0, v1, v2, .bool sig, v4] 27)).cell? ⟨w.heap.size, 2, none⟩ = some v2 := by simp
  obtain ⟨p, c, rfl, _, _, _, hgs⟩ := hg1
  generalize hm : gs.length = m at *
  have HG := Lib.hid hgs
  have HML := Lib.hid hml
  have HM := Lib.hid hm
  clear hg hgs hml hm
  go_enter Tryz.func67, Tryz.ntmps67
  go_wp2_with fail
  generalize w.alloc (.cells #[v0, v1, .slice p m c, .bool sig, v4] 27) = w1 at *
  generalize hgb : w.heap.size = gb at *
  go_loop [5, 6] (fun r5 r6 => ∃ (i q : Nat), i ≤ m ∧ r6 = .int .i64 (i : Int) ∧ r5 = .int .i64 (q : Int) ∧ q = memberN (gs.take i) n ∧ q ≤ i * 1000000) (fun _ r6 => m - (intOf r6).toNat)
  case atStart => exact ⟨0, 0, Nat.zero_le _, rfl, rfl, rfl, Nat.le_refl _⟩
  case round =>
    obtain ⟨i, q, hi, rfl, rfl, hq, hqb⟩ := hrel
    have HQ := Lib.hid hq
    clear hq
    by_cases hlt : i < m
    · obtain ⟨b, off, g, rfl, hgi, hge⟩ := HG.out.at_ (i := i) (by rw [HM.out]; exact hlt)
      obtain ⟨⟨hsym, _⟩, vm, hvm, pm, cm, rfl, hl1, hl2, hl3, hms⟩ := hge
      have hlb := HML.out g (List.mem_of_getElem? hgi)
      have HGI := Lib.hid hgi
      have HMS := Lib.hid hms
      generalize hml : g.members.length = ml at *
      have HL := Lib.hid hml
      have hI : (i : Int) < (m : Int) := by omega
      have hI0 : (0 : Int) ≤ (i : Int) := by omega
      clear hgi hms hml hsym hl3
      go_wp2_with fail
      go_loop [5, 7] (fun r5 r7 => ∃ (k q2 : Nat), k ≤ ml ∧ r7 = .int .i64 (k : Int) ∧ r5 = .int .i64 (q2 : Int) ∧ q2 = q + (g.members.take k).count n ∧ q2 ≤ q + k) (fun _ r7 => ml - (intOf r7).toNat)
      case atStart => exact ⟨0, q, Nat.zero_le _, rfl, rfl, by simp, Nat.le_refl _⟩
      case round =>
        obtain ⟨k, q2, hk, rfl, rfl, hq2, hqb2⟩ := hrel
        have HQ2 := Lib.hid hq2
        clear hq2
        by_cases hkl : k < ml
        · obtain ⟨b2, off2, x, rfl, hx, hxe⟩ := HMS.out.at_ (i := k) (by rw [HL.out]; exact hkl)
          have hcx := hxe.1
          rw [Nat.mul_one] at hcx
          have HST := Lib.hid (count_step n hx)
          have hJ : (k : Int) < (ml : Int) := by omega
          have hJ0 : (0 : Int) ≤ (k : Int) := by omega
          clear hx hxe
          cases hxn : (x == n) with
          | true =>
            rw [hxn] at HST
            go_wp2_with fail
            go_round
            case rel => exact ⟨k + 1, q2 + 1, hkl, by go_num, by go_num, by rw [HST.out, HQ2.out]; simp; omega, by omega⟩
            case measure => simp [intOf]; omega
          | false =>
            rw [hxn] at HST
            go_wp2_with fail
            go_round
            case rel => exact ⟨k + 1, q2, hkl, by go_num, rfl, by rw [HST.out, HQ2.out]; simp, by omega⟩
            case measure => simp [intOf]; omega
        · have hJ : ¬ (k : Int) < (ml : Int) := by omega
          have HE : Hid (q2 = memberN (gs.take (i + 1)) n) := Lib.hid (by
            rw [member_step n HGI.out, ← HQ.out, HQ2.out, List.take_of_length_le (by rw [HL.out]; omega)])
          go_wp2_with fail
          go_round
          case rel => exact ⟨i + 1, q2, hlt, by go_num, rfl, HE.out, by omega⟩
          case measure => simp [intOf]; omega
    · have hI : ¬ (i : Int) < (m : Int) := by omega
      have HE : Hid (memberN gs n = q) := Lib.hid (by rw [HQ.out, List.take_of_length_le (by rw [HM.out]; omega)])
      subst hgb
      go_wp2_with fail
      go_ret
      exact ⟨by rw [HE.out]; rfl, hb⟩

end Go.Proofs.YtmcegjkkgbnjlaaGreat
