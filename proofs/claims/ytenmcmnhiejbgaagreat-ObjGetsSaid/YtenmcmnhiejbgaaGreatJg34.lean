/-
  Contract of the project's own Get.
  An object laid in a block; errors compared. Nothing here walks the program.
  Contract of the project's own Put.
  Contract of the statements' Small.
-/
import Derived.Test.YtenmcmnhiejbgaaGreatJg33
import Derived.Lib.IfaceEq
import Derived.Test.YtenmcmnhiejbgaaGreatJg32
import Derived.Test.YtenmcmnhiejbgaaGreatJg27
import Derived.Test.YtenmcmnhiejbgaaGreatJg05
import Derived.Deep.QuietTactic
import Derived.BigQuiet
import Derived.Deep.DeepCutAuto
namespace Go.Proofs.YtenmcmnhiejbgaaGreat
open Go.RowKit

/-- The object that the bytes are. -/
def gotB (l : List UInt8) : Option ObjD := match readB l with
  | none => none
  | some o => bif shapeB o then some o else none
/-- What Get gives. -/
def GivesGot (r : Option ObjD) (w : World) (e : Ending) (w' : World) : Prop := Below w.heap.size w w' ∧ ∃ (v0 v1 v2 v4 : Value) (o : ObjD), ObjParts w' v0 v1 v2 v4 o ∧ FewD o ∧
  ((r = none ∧ o = ⟨[], [], [], false, []⟩ ∧ e = .returned (.tuple #[objV v0 v1 v2 o.hasSig v4, .iface 36 (.int .i64 2)])) ∨ (r = some o ∧ e = .returned (.tuple #[objV v0 v1 v2 o.hasSig v4, .nilIface])))
set_option maxRecDepth 100000 in
theorem get_end {tmps : Array Value} {W w : World} {res : Option ObjD} {v0 v1 v2 v4 e : Value} {o : ObjD} (h2 : tmps.getD 2 undef = .pointer (some ⟨w.heap.size, 0, none⟩)) (h3 : tmps.getD 3 undef = e)
    (hR : W.heap[w.heap.size]? = some (.cells #[v0, v1, v2, .bool o.hasSig, v4] 27 (0, 0))) (hb : Below w.heap.size w W) (hp : ObjParts W v0 v1 v2 v4 o) (hf : FewD o) (ho : (res = none ∧ o = ⟨[], [], [], false, []⟩ ∧ e = .iface 36 (.int .i64 2)) ∨ (res = some o ∧ e = .nilIface)) : bodyPost Tryz.prog Tryz.f11 (GivesGot res w) Exit.ret ⟨tmps, []⟩ W := by
  rcases ho with ⟨h, h', rfl⟩ | ⟨h, rfl⟩
  · exact bodyPost_ret (results_obj rfl _ _ _ _ _ _ _ _ _ h2 h3 hR) rfl ⟨hb, v0, v1, v2, v4, o, hp, hf, .inl ⟨h, h', rfl⟩⟩
  · exact bodyPost_ret (results_obj rfl _ _ _ _ _ _ _ _ _ h2 h3 hR) rfl ⟨hb, v0, v1, v2, v4, o, hp, hf, .inr ⟨h, rfl⟩⟩

set_option maxRecDepth 100000 in
set_option maxHeartbeats 4000000 in
theorem ownGet_any (bp : Option Addr) (bc : Nat) (l : List UInt8) (w : World) (ht : Has w bp l) (h1 : l.length ≤ bc) (h2 : bc ≤ maxLen) (h3 : bp = none → bc = 0) (hbig : l.length ≤ 100000) :
    Calls Tryz.prog 11 #[.slice bp l.length bc] w (GivesGot (gotB l) w) := by
  obtain ⟨w0, hw0⟩ : ∃ w0, w0 = w.alloc (.cells #[.slice none 0 0, .slice none 0 0, .slice none 0 0, .bool false, .slice none 0 0] 27) := ⟨_, rfl⟩
  have hb0 : Below w.heap.size w w0 := by rw [hw0]; exact (Below.refl _ w).alloc (Nat.le_refl _) _
  have hs0 : w0.heap.size = w.heap.size + 1 := by rw [hw0]; simp
  have hR : w0.heap[w.heap.size]? = some (.cells #[.slice none 0 0, .slice none 0 0, .slice none 0 0, .bool false, .slice none 0 0] 27 (0, 0)) := by rw [hw0]; exact heap_alloc_new w _
  have HRD := Lib.hid (gotRead_any bp bc l w0 (ht.below hb0) h1 h2 h3 hbig)
  have hres : gotB l = match readB l with
    | none => none
    | some o => bif shapeB o then some o else none := rfl
  generalize gotB l = res at *
  generalize readB l = rd at *
  have HRES := Lib.hid hres
  have HB0 := Lib.hid hb0
  have HRR := Lib.hid hR
  have HS0 := Lib.hid hs0
  have HW0 := Lib.hid hw0
  clear hb0 hR hs0 hres hw0 ht
  go_enter Tryz.func11, Tryz.ntmps11
  go_upto_region 1 with fail
  rw [← HW0.out]
  clear HW0
  go_wp2_with fail
  refine HRD.out.mono ?_
  rintro e w1 ⟨hb1, v0, v1, v2, v4, o, rfl, hpp, hf, ho⟩
  have hp := hpp w1 (FrT.refl _ _ _)
  obtain ⟨p0, z0, rfl, _⟩ := id hp.1
  obtain ⟨p1, z1, rfl, _⟩ := id hp.2.1
  obtain ⟨p2, z2, rfl, _⟩ := id hp.2.2.1
  obtain ⟨p4, z4, rfl, _⟩ := id hp.2.2.2
  go_upto_region 2 with fail
  have hb2 : Below w1.heap.size w1 (w1.alloc (.cells #[.slice p0 o.secs.length z0, .slice p1 o.syms.length z1, .slice p2 o.groups.length z2, .bool o.hasSig, .slice p4 o.sig.length z4] 27)) := (Below.refl _ w1).alloc (Nat.le_refl _) _
  have hx2 := heap_alloc_new w1 (.cells #[.slice p0 o.secs.length z0, .slice p1 o.syms.length z1, .slice p2 o.groups.length z2, .bool o.hasSig, .slice p4 o.sig.length z4] 27)
  have hp2 := hp.below hb2
  have hpp2 : ∀ W, FrT 0 [27] (w1.alloc (.cells #[.slice p0 o.secs.length z0, .slice p1 o.syms.length z1, .slice p2 o.groups.length z2, .bool o.hasSig, .slice p4 o.sig.length z4] 27)) W → ObjParts W _ _ _ _ o := fun W hW => hpp W ((FrT.of_below hb2).trans hW)
  have hbw : Below w0.heap.size w0 (w1.alloc (.cells #[.slice p0 o.secs.length z0, .slice p1 o.syms.length z1, .slice p2 o.groups.length z2, .bool o.hasSig, .slice p4 o.sig.length z4] 27)) := hb1.trans (hb2.mono hb1.size)
  have hfl : FlagBd o := flag_bd hp
  generalize w1.alloc (.cells #[.slice p0 o.secs.length z0, .slice p1 o.syms.length z1, .slice p2 o.groups.length z2, .bool o.hasSig, .slice p4 o.sig.length z4] 27) = w2 at *
  generalize w1.heap.size = g at *
  have hMB := ownMayBut_any o _ _ _ _ w2 hp2 hf
  rw [but_eq hf hfl] at hMB
  have HMB := Lib.hid hMB
  have HP2 := Lib.hid hpp2
  have HBW := Lib.hid hbw
  have HF := Lib.hid hf
  have HX2 := Lib.hid hx2
  clear hMB hp2 hb2 hp hfl hb1 hbw hf hpp hpp2
  obtain ⟨⟨s0, s1, s2, s3, s4⟩, _⟩ := cells5 _ _ _ _ _ _ _ _ hx2
  clear hx2
  obtain ⟨q, hq⟩ : ∃ q, q = shapeB o := ⟨_, rfl⟩
  rw [← hq] at HMB
  rcases ho with ⟨rfl, rfl⟩ | rfl
  · have hE : Hid (res = none) := Lib.hid HRES.out
    go_upto_region 3 with fail
    have hw2 := HBW.out
    have hR2 := (hw2.block _ (Array.getElem?_eq_some_iff.1 HRR.out).1).trans HRR.out
    have hb2 : Below w.heap.size w w2 := HB0.out.trans (hw2.mono HB0.out.size)
    obtain ⟨⟨c0, c1, c2, c3, c4⟩, f0, f1, f2, f3, f4⟩ := cells5 _ _ _ _ _ _ _ _ hR2
    have hf5 := five_set (.slice none 0 0) (.slice none 0 0) (.slice none 0 0) (.bool false) (.slice none 0 0) (Nat.le_refl w.heap.size) hR2
    have HF5 := Lib.hid hf5
    have HB2 := Lib.hid hb2
    clear hw2 hb2 hf5
    go_wp2_with fail
    exact get_end (o := ⟨[], [], [], false, []⟩) (by rfl) (by rfl) HF5.out.1 (HB2.out.trans (HF5.out.2.below HB2.out.size)) (zero_parts _) zero_few (.inl ⟨hE.out, rfl, rfl⟩)
  · have hr1 : res = bif q then some o else none := by rw [HRES.out, hq]
    have HR1 := Lib.hid hr1
    clear hr1 hq
    cases q with
    | false =>
      have hE : Hid (res = none) := Lib.hid HR1.out
      go_upto_region 3 with (first | (go_at_call 23; refine HMB.out.mono ?_; rintro e w3 ⟨rfl, hb3⟩) | fail)
      have hw3 : Below w0.heap.size w0 w3 := HBW.out.trans (hb3.mono HBW.out.size)
      have hR2 := (hw3.block _ (Array.getElem?_eq_some_iff.1 HRR.out).1).trans HRR.out
      have hb2 : Below w.heap.size w w3 := HB0.out.trans (hw3.mono HB0.out.size)
      obtain ⟨⟨c0, c1, c2, c3, c4⟩, f0, f1, f2, f3, f4⟩ := cells5 _ _ _ _ _ _ _ _ hR2
      have hf5 := five_set (.slice none 0 0) (.slice none 0 0) (.slice none 0 0) (.bool false) (.slice none 0 0) (Nat.le_refl w.heap.size) hR2
      have HF5 := Lib.hid hf5
      have HB2 := Lib.hid hb2
      clear hw3 hb2 hf5 hb3
      go_wp2_with fail
      exact get_end (o := ⟨[], [], [], false, []⟩) (by rfl) (by rfl) HF5.out.1 (HB2.out.trans (HF5.out.2.below HB2.out.size)) (zero_parts _) zero_few (.inl ⟨hE.out, rfl, rfl⟩)
    | true =>
      have hE : Hid (res = some o) := Lib.hid HR1.out
      go_upto_region 4 with (first | (go_at_call 23; refine HMB.out.mono ?_; rintro e w3 ⟨rfl, hb3⟩) | fail)
      have hw3 : Below w0.heap.size w0 w3 := HBW.out.trans (hb3.mono HBW.out.size)
      have hR2 := (hw3.block _ (Array.getElem?_eq_some_iff.1 HRR.out).1).trans HRR.out
      have hb2 : Below w.heap.size w w3 := HB0.out.trans (hw3.mono HB0.out.size)
      have hx3 := (hb3.block _ (Array.getElem?_eq_some_iff.1 HX2.out).1).trans HX2.out
      obtain ⟨⟨c0, c1, c2, c3, c4⟩, f0, f1, f2, f3, f4⟩ := cells5 _ _ _ _ _ _ _ _ hR2
      have hf5 := five_set (.slice p0 o.secs.length z0) (.slice p1 o.syms.length z1) (.slice p2 o.groups.length z2) (.bool o.hasSig) (.slice p4 o.sig.length z4) (Nat.le_refl w.heap.size) hR2
      have HF5 := Lib.hid hf5
      have HB2 := Lib.hid hb2
      have HFR : Hid (∀ W, FrT 0 [27] w3 W → ObjParts W (.slice p0 o.secs.length z0) (.slice p1 o.syms.length z1) (.slice p2 o.groups.length z2) (.slice p4 o.sig.length z4) o) := Lib.hid fun W hW => HP2.out W ((FrT.of_below hb3).trans hW)
      obtain ⟨⟨s0, s1, s2, s3, s4⟩, _⟩ := cells5 _ _ _ _ _ _ _ _ hx3
      clear hw3 hb2 hf5 hx3 hb3
      go_wp2_with fail
      exact get_end (o := o) (by rfl) (by rfl) HF5.out.1 (HB2.out.trans (HF5.out.2.below HB2.out.size)) (HFR.out _ HF5.out.2.zero) HF.out (.inr ⟨hE.out, rfl⟩)
end Go.Proofs.YtenmcmnhiejbgaaGreat

namespace Go.Proofs.YtenmcmnhiejbgaaGreat
open Go.RowKit

/-- An argument of type api.Obj, laid in a block. -/
theorem obj_laid {w : World} {v0 v1 v2 v4 : Value} {o : ObjD} (hp : ObjParts w v0 v1 v2 v4 o) :
    ObjParts (w.alloc (.cells #[v0, v1, v2, .bool o.hasSig, v4] 27)) v0 v1 v2 v4 o ∧ Below w.heap.size w (w.alloc (.cells #[v0, v1, v2, .bool o.hasSig, v4] 27)) ∧
    (w.alloc (.cells #[v0, v1, v2, .bool o.hasSig, v4] 27)).heap[w.heap.size]? = some (.cells #[v0, v1, v2, .bool o.hasSig, v4] 27 (0, 0)) := by
  have hb : Below w.heap.size w (w.alloc (.cells #[v0, v1, v2, .bool o.hasSig, v4] 27)) := (Below.refl _ w).alloc (Nat.le_refl _) _
  exact ⟨hp.below hb, hb, heap_alloc_new w _⟩
theorem obj_cells {w : World} {g : Nat} {v0 v1 v2 v3 v4 : Value} {T : TypeId} (h : w.heap[g]? = some (.cells #[v0, v1, v2, v3, v4] T (0, 0))) :
    w.cell? ⟨g, 0, none⟩ = some v0 ∧ w.cell? ⟨g, 1, none⟩ = some v1 ∧ w.cell? ⟨g, 2, none⟩ = some v2 ∧ w.cell? ⟨g, 3, none⟩ = some v3 ∧ w.cell? ⟨g, 4, none⟩ = some v4 := (cells5 w g v0 v1 v2 v3 v4 T h).1
theorem code_eq (a b : Int) (w : World) : (binOp .eql 33 (.iface 36 (.int .i64 a)) (.iface 36 (.int .i64 b))).run Tryz.prog w = .ok (.bool (a == b)) w :=
  Lib.run_eql_iface_int w a b Tryz.underlying33 (by kernel_rfl) Tryz.underlying36

end Go.Proofs.YtenmcmnhiejbgaaGreat

namespace Go.Proofs.YtenmcmnhiejbgaaGreat
open Go.RowKit

/-- What Put gives: the object's bytes, in memory of its own; or none, and the error of an argument that may not be. -/
def GivesPut (o : ObjD) (w : World) (e : Ending) (w' : World) : Prop := Below w.heap.size w w' ∧
  ((mayO o = true ∧ ∃ v, e = .returned (.tuple #[v, .nilIface]) ∧ w'.ownsRow w.heap.size 5 1 v (bytesOf o).length ((bytesOf o).map u8v)) ∨ (mayO o = false ∧ e = .returned (.tuple #[.slice none 0 0, .iface 36 (.int .i64 1)])))
set_option maxRecDepth 100000 in
set_option maxHeartbeats 4000000 in
theorem ownPut_any (o : ObjD) (v0 v1 v2 v4 : Value) (w : World) (hp : ObjParts w v0 v1 v2 v4 o) (hs : SmallD o) :
    Calls Tryz.prog 8 #[objV v0 v1 v2 o.hasSig v4] w (GivesPut o w) := by
  have hb1 : Below w.heap.size w (w.alloc (.cells #[v0, v1, v2, .bool o.hasSig, v4] 27)) := (Below.refl _ w).alloc (Nat.le_refl _) _
  have a0 : (w.alloc (.cells #[v0, v1, v2, .bool o.hasSig, v4] 27)).cell? ⟨w.heap.size, 0, none⟩ = some v0 := by simp
  have a1 : (w.alloc (.cells #[v0, v1, v2, .bool o.hasSig, v4] 27)).cell? ⟨w.heap.size, 1, none⟩ = some v1 := by simp
  have a2 : (w.alloc (.cells #[v0, v1, v2, .bool o.hasSig, v4] 27)).cell? ⟨w.heap.size, 2, none⟩ = some v2 := by simp
  have a3 : (w.alloc (.cells #[v0, v1, v2, .bool o.hasSig, v4] 27)).cell? ⟨w.heap.size, 3, none⟩ = some (.bool o.hasSig) := by simp
  have a4 : (w.alloc (.cells #[v0, v1, v2, .bool o.hasSig, v4] 27)).cell? ⟨w.heap.size, 4, none⟩ = some v4 := by simp
  have HM := Lib.hid (ownMade_any o v0 v1 v2 v4 _ (hp.below hb1) hs)
  have HB1 := Lib.hid hb1
  clear hp hs
  go_enter Tryz.func8, Tryz.ntmps8
  go_upto_region 1 with fail
  generalize w.alloc (.cells #[v0, v1, v2, .bool o.hasSig, v4] 27) = W1 at *
  go_wp2_with fail
  refine HM.out.mono ?_
  rintro e w2 ⟨hb2, ⟨hE, v, rfl, ho⟩ | ⟨hE, rfl⟩⟩
  · go_wp2_with fail
    exact bodyPost_ret (v := .tuple #[v, .nilIface]) (by simp [results, Tryz.results8, go_sem]) rfl ⟨HB1.out.trans (hb2.mono HB1.out.size), .inl ⟨hE, _, rfl, owns_lower ho HB1.out.size⟩⟩
  · go_wp2_with fail
    exact bodyPost_ret (v := .tuple #[.slice none 0 0, .iface 36 (.int .i64 1)]) (by simp [results, Tryz.results8, go_sem]) rfl ⟨HB1.out.trans (hb2.mono HB1.out.size), .inr ⟨hE, rfl⟩⟩
end Go.Proofs.YtenmcmnhiejbgaaGreat

namespace Go.Proofs.YtenmcmnhiejbgaaGreat
open Go.RowKit

end Go.Proofs.YtenmcmnhiejbgaaGreat
