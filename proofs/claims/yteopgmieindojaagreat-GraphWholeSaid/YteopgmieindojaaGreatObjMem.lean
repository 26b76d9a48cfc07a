/-
  Objects in memory: what a value of api.Obj, and a slice of them, holds in a world; and how such an argument is opened. It names types of the program, none of its functions.
-/
import Derived.Test.YteopgmieindojaaGreatData
import Derived.Test.YteopgmieindojaaGreatChecked
namespace Go.Proofs.YteopgmieindojaaGreat
open Go.ChangeShapes Go.WideShapes Go.RowKit Go.Deep

/-- A relocation, a section, a symbol, a group, an object: their values. -/
structure RelD where
  (off type sym add : Int)
structure SecD where
  (name : ByteArray)
  (type flags align ent link size : Int)
  (data : List UInt8)
  (rels : List RelD)
structure SymD where
  (name : ByteArray)
  (bind type sec value size : Int)
structure GroupD where
  (sym : Int)
  (members : List Int)
structure ObjD where
  (secs : List SecD)
  (syms : List SymD)
  (groups : List GroupD)
  (hasSig : Bool)
  (sig : List Int)

def ERel (w : World) (b o : Nat) (r : RelD) : Prop := EInt w b o r.off ∧ EInt w b (o + 1) r.type ∧ EInt w b (o + 2) r.sym ∧ EInt w b (o + 3) r.add
def ESec (w : World) (b o : Nat) (s : SecD) : Prop :=
  EStr w b o s.name ∧ EInt w b (o + 1) s.type ∧ EInt w b (o + 2) s.flags ∧ EInt w b (o + 3) s.align ∧ EInt w b (o + 4) s.ent ∧ EInt w b (o + 5) s.link ∧ EInt w b (o + 6) s.size ∧
  (∃ v, w.cell? ⟨b, o + 7, none⟩ = some v ∧ IsL 1 EByte w v s.data) ∧ (∃ v, w.cell? ⟨b, o + 8, none⟩ = some v ∧ IsL 4 ERel w v s.rels)
def ESym (w : World) (b o : Nat) (s : SymD) : Prop :=
  EStr w b o s.name ∧ EInt w b (o + 1) s.bind ∧ EInt w b (o + 2) s.type ∧ EInt w b (o + 3) s.sec ∧ EInt w b (o + 4) s.value ∧ EInt w b (o + 5) s.size
def EGroup (w : World) (b o : Nat) (g : GroupD) : Prop := EInt w b o g.sym ∧ ∃ v, w.cell? ⟨b, o + 1, none⟩ = some v ∧ IsL 1 EInt w v g.members
/-- The five parts of an object: slices of sections, of symbols, of groups, a bool, a slice of numbers. -/
def ObjParts (w : World) (v0 v1 v2 v4 : Value) (o : ObjD) : Prop := IsL 9 ESec w v0 o.secs ∧ IsL 6 ESym w v1 o.syms ∧ IsL 2 EGroup w v2 o.groups ∧ IsL 1 EInt w v4 o.sig
def IsObj (w : World) (v : Value) (o : ObjD) : Prop := ∃ v0 v1 v2 v4, v = .agg #[v0, v1, v2, .bool o.hasSig, v4] ∧ ObjParts w v0 v1 v2 v4 o
def EObj (w : World) (b p : Nat) (o : ObjD) : Prop := ∃ v0 v1 v2 v4, w.cell? ⟨b, p, none⟩ = some v0 ∧ w.cell? ⟨b, p + 1, none⟩ = some v1 ∧ w.cell? ⟨b, p + 2, none⟩ = some v2 ∧ w.cell? ⟨b, p + 3, none⟩ = some (.bool o.hasSig) ∧ w.cell? ⟨b, p + 4, none⟩ = some v4 ∧ ObjParts w v0 v1 v2 v4 o

theorem ERel.keeps : Keeps ERel := fun _ _ _ _ _ hb ⟨h0, h1, h2, h3⟩ => ⟨EInt.keeps _ _ _ _ _ hb h0, EInt.keeps _ _ _ _ _ hb h1, EInt.keeps _ _ _ _ _ hb h2, EInt.keeps _ _ _ _ _ hb h3⟩
theorem ESec.keeps : Keeps ESec := fun _ _ _ _ _ hb ⟨h0, h1, h2, h3, h4, h5, h6, ⟨v7, c7, h7⟩, ⟨v8, c8, h8⟩⟩ =>
  ⟨EStr.keeps _ _ _ _ _ hb h0, EInt.keeps _ _ _ _ _ hb h1, EInt.keeps _ _ _ _ _ hb h2, EInt.keeps _ _ _ _ _ hb h3, EInt.keeps _ _ _ _ _ hb h4, EInt.keeps _ _ _ _ _ hb h5, EInt.keeps _ _ _ _ _ hb h6,
    ⟨v7, keep_cell hb c7, h7.below EByte.keeps hb⟩, ⟨v8, keep_cell hb c8, h8.below ERel.keeps hb⟩⟩
theorem ESym.keeps : Keeps ESym := fun _ _ _ _ _ hb ⟨h0, h1, h2, h3, h4, h5⟩ =>
  ⟨EStr.keeps _ _ _ _ _ hb h0, EInt.keeps _ _ _ _ _ hb h1, EInt.keeps _ _ _ _ _ hb h2, EInt.keeps _ _ _ _ _ hb h3, EInt.keeps _ _ _ _ _ hb h4, EInt.keeps _ _ _ _ _ hb h5⟩
theorem EGroup.keeps : Keeps EGroup := fun _ _ _ _ _ hb ⟨h0, v1, c1, h1⟩ => ⟨EInt.keeps _ _ _ _ _ hb h0, v1, keep_cell hb c1, h1.below EInt.keeps hb⟩
theorem ObjParts.below {w w' : World} {v0 v1 v2 v4 : Value} {o : ObjD} (hb : Below w.heap.size w w') (h : ObjParts w v0 v1 v2 v4 o) : ObjParts w' v0 v1 v2 v4 o :=
  ⟨h.1.below ESec.keeps hb, h.2.1.below ESym.keeps hb, h.2.2.1.below EGroup.keeps hb, h.2.2.2.below EInt.keeps hb⟩
theorem IsObj.below {w w' : World} {v : Value} {o : ObjD} (hb : Below w.heap.size w w') (h : IsObj w v o) : IsObj w' v o := by
  obtain ⟨v0, v1, v2, v4, e, hp⟩ := h
  exact ⟨v0, v1, v2, v4, e, hp.below hb⟩
theorem EObj.keeps : Keeps EObj := fun _ _ _ _ _ hb ⟨v0, v1, v2, v4, c0, c1, c2, c3, c4, hp⟩ =>
  ⟨v0, v1, v2, v4, keep_cell hb c0, keep_cell hb c1, keep_cell hb c2, keep_cell hb c3, keep_cell hb c4, hp.below hb⟩

section
variable {H : Type} {enc : TypeId × Value → H} {w : World} {base : Nat} {spare : Nat → Bool} {held : Bool}

theorem opens_rel : OpensE enc Tryz.prog w base spare held 4 94 ERel := fun n b o cs x hl hc h => by
  obtain ⟨_, m, hf⟩ := open_fields Tryz.underlying94 (by kernel_rfl) (by kernel_rfl) h
  obtain ⟨v0, _, c0, r0⟩ := hf 0 _ rfl
  obtain ⟨v1, _, c1, r1⟩ := hf 1 _ rfl
  obtain ⟨v2, _, c2, r2⟩ := hf 2 _ rfl
  obtain ⟨v3, _, c3, r3⟩ := hf 3 _ rfl
  obtain ⟨x0, rfl, b0⟩ := read_int Tryz.underlying3 r0
  obtain ⟨x1, rfl, b1⟩ := read_int Tryz.underlying3 r1
  obtain ⟨x2, rfl, b2⟩ := read_int Tryz.underlying3 r2
  obtain ⟨x3, rfl, b3⟩ := read_int Tryz.underlying3 r3
  exact ⟨⟨x0, x1, x2, x3⟩, ⟨(hc 0 (by omega)).trans c0, b0⟩, ⟨(hc 1 (by omega)).trans c1, b1⟩, ⟨(hc 2 (by omega)).trans c2, b2⟩, ⟨(hc 3 (by omega)).trans c3, b3⟩⟩
theorem opens_sec : OpensE enc Tryz.prog w base spare held 9 89 ESec := fun n b o cs x hl hc h => by
  obtain ⟨_, m, hf⟩ := open_fields Tryz.underlying89 (by kernel_rfl) (by kernel_rfl) h
  obtain ⟨v0, _, c0, r0⟩ := hf 0 _ rfl
  obtain ⟨v1, _, c1, r1⟩ := hf 1 _ rfl
  obtain ⟨v2, _, c2, r2⟩ := hf 2 _ rfl
  obtain ⟨v3, _, c3, r3⟩ := hf 3 _ rfl
  obtain ⟨v4, _, c4, r4⟩ := hf 4 _ rfl
  obtain ⟨v5, _, c5, r5⟩ := hf 5 _ rfl
  obtain ⟨v6, _, c6, r6⟩ := hf 6 _ rfl
  obtain ⟨v7, _, c7, r7⟩ := hf 7 _ rfl
  obtain ⟨v8, _, c8, r8⟩ := hf 8 _ rfl
  obtain ⟨x0, rfl, b0⟩ := read_str Tryz.underlying9 r0
  obtain ⟨x1, rfl, b1⟩ := read_int Tryz.underlying3 r1
  obtain ⟨x2, rfl, b2⟩ := read_int Tryz.underlying3 r2
  obtain ⟨x3, rfl, b3⟩ := read_int Tryz.underlying3 r3
  obtain ⟨x4, rfl, b4⟩ := read_int Tryz.underlying3 r4
  obtain ⟨x5, rfl, b5⟩ := read_int Tryz.underlying3 r5
  obtain ⟨x6, rfl, b6⟩ := read_int Tryz.underlying3 r6
  obtain ⟨x7, h7⟩ := open_L Tryz.underlying31 (by kernel_rfl) (by omega) (opens_byte Tryz.underlying5) r7
  obtain ⟨x8, h8⟩ := open_L Tryz.underlying87 (by kernel_rfl) (by omega) opens_rel r8
  exact ⟨⟨x0, x1, x2, x3, x4, x5, x6, x7, x8⟩, ⟨(hc 0 (by omega)).trans c0, b0⟩, ⟨(hc 1 (by omega)).trans c1, b1⟩, ⟨(hc 2 (by omega)).trans c2, b2⟩, ⟨(hc 3 (by omega)).trans c3, b3⟩, ⟨(hc 4 (by omega)).trans c4, b4⟩, ⟨(hc 5 (by omega)).trans c5, b5⟩, ⟨(hc 6 (by omega)).trans c6, b6⟩,
    ⟨_, (hc 7 (by omega)).trans c7, h7⟩, ⟨_, (hc 8 (by omega)).trans c8, h8⟩⟩
theorem opens_sym : OpensE enc Tryz.prog w base spare held 6 98 ESym := fun n b o cs x hl hc h => by
  obtain ⟨_, m, hf⟩ := open_fields Tryz.underlying98 (by kernel_rfl) (by kernel_rfl) h
  obtain ⟨v0, _, c0, r0⟩ := hf 0 _ rfl
  obtain ⟨v1, _, c1, r1⟩ := hf 1 _ rfl
  obtain ⟨v2, _, c2, r2⟩ := hf 2 _ rfl
  obtain ⟨v3, _, c3, r3⟩ := hf 3 _ rfl
  obtain ⟨v4, _, c4, r4⟩ := hf 4 _ rfl
  obtain ⟨v5, _, c5, r5⟩ := hf 5 _ rfl
  obtain ⟨x0, rfl, b0⟩ := read_str Tryz.underlying9 r0
  obtain ⟨x1, rfl, b1⟩ := read_int Tryz.underlying3 r1
  obtain ⟨x2, rfl, b2⟩ := read_int Tryz.underlying3 r2
  obtain ⟨x3, rfl, b3⟩ := read_int Tryz.underlying3 r3
  obtain ⟨x4, rfl, b4⟩ := read_int Tryz.underlying3 r4
  obtain ⟨x5, rfl, b5⟩ := read_int Tryz.underlying3 r5
  exact ⟨⟨x0, x1, x2, x3, x4, x5⟩, ⟨(hc 0 (by omega)).trans c0, b0⟩, ⟨(hc 1 (by omega)).trans c1, b1⟩, ⟨(hc 2 (by omega)).trans c2, b2⟩, ⟨(hc 3 (by omega)).trans c3, b3⟩, ⟨(hc 4 (by omega)).trans c4, b4⟩, ⟨(hc 5 (by omega)).trans c5, b5⟩⟩
theorem opens_group : OpensE enc Tryz.prog w base spare held 2 100 EGroup := fun n b o cs x hl hc h => by
  obtain ⟨_, m, hf⟩ := open_fields Tryz.underlying100 (by kernel_rfl) (by kernel_rfl) h
  obtain ⟨v0, _, c0, r0⟩ := hf 0 _ rfl
  obtain ⟨v1, _, c1, r1⟩ := hf 1 _ rfl
  obtain ⟨x0, rfl, b0⟩ := read_int Tryz.underlying3 r0
  obtain ⟨x1, h1⟩ := open_L Tryz.underlying25 (by kernel_rfl) (by omega) (opens_int Tryz.underlying3) r1
  exact ⟨⟨x0, x1⟩, ⟨(hc 0 (by omega)).trans c0, b0⟩, ⟨_, (hc 1 (by omega)).trans c1, h1⟩⟩
theorem open_parts {fuel : Nat} {cs : List Value} {x : DataW H × List MemPlace} (h : DataW.trod enc Tryz.prog w base spare held fuel 27 cs = some x) :
    ∃ (v0 v1 v2 v4 : Value) (o : ObjD), cs = [v0, v1, v2, .bool o.hasSig, v4] ∧ ObjParts w v0 v1 v2 v4 o := by
  obtain ⟨hl, m, hf⟩ := open_fields Tryz.underlying27 (by kernel_rfl) (by kernel_rfl) h
  have hl5 : cs.length = 5 := hl
  obtain ⟨v0, _, c0, r0⟩ := hf 0 _ rfl
  obtain ⟨v1, _, c1, r1⟩ := hf 1 _ rfl
  obtain ⟨v2, _, c2, r2⟩ := hf 2 _ rfl
  obtain ⟨v3, _, c3, r3⟩ := hf 3 _ rfl
  obtain ⟨v4, _, c4, r4⟩ := hf 4 _ rfl
  obtain ⟨x0, h0⟩ := open_L Tryz.underlying22 (by kernel_rfl) (by omega) opens_sec r0
  obtain ⟨x1, h1⟩ := open_L Tryz.underlying23 (by kernel_rfl) (by omega) opens_sym r1
  obtain ⟨x2, h2⟩ := open_L Tryz.underlying24 (by kernel_rfl) (by omega) opens_group r2
  obtain ⟨x3, rfl⟩ := read_bool Tryz.underlying4 r3
  obtain ⟨x4, h4⟩ := open_L Tryz.underlying25 (by kernel_rfl) (by omega) (opens_int Tryz.underlying3) r4
  match cs, hl5 with
  | [u0, u1, u2, u3, u4], _ =>
    simp only [List.getElem?_cons_zero, List.getElem?_cons_succ, Option.some.injEq] at c0 c1 c2 c3 c4
    subst c0 c1 c2 c3 c4
    exact ⟨_, _, _, _, ⟨x0, x1, x2, x3, x4⟩, rfl, h0, h1, h2, h4⟩
/-- An argument of type api.Obj, behind open_agg. -/
theorem open_obj {fuel : Nat} {cs : Array Value} {x : DataW H × List MemPlace} (h : DataW.trod enc Tryz.prog w base spare held fuel 27 cs.toList = some x) : ∃ o : ObjD, IsObj w (.agg cs) o := by
  obtain ⟨v0, v1, v2, v4, o, hcs, hp⟩ := open_parts h
  refine ⟨o, v0, v1, v2, v4, ?_, hp⟩
  congr 1
  apply Array.ext'
  exact hcs
end

end Go.Proofs.YteopgmieindojaaGreat
