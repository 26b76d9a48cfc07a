/-
  An object as it lies while the reference's Get reads it. Nothing here walks the program.
  Contract of the reference's group.
-/
import Derived.Test.YtenmcmnhiejbgaaGreatJg38
import Derived.Test.YtenmcmnhiejbgaaGreatJg39
import Derived.Test.YtenmcmnhiejbgaaGreatJg01
import Derived.Test.YtenmcmnhiejbgaaGreatJg02
namespace Go.Proofs.YtenmcmnhiejbgaaGreat
open Go.RowKit

structure RRd (B G : Nat) (v0 v1 v2 v4 : Value) (hs : Bool) (ys : List SymD) (svs : List SecV) (gvs : List GroupV) (sig : List Int) (w : World) : Prop where
  g : w.heap[G]? = some (.cells #[v0, v1, v2, .bool hs, v4] 27 (0, 0))
  secs : w.ownsRow B 48 9 v0 svs.length (svs.flatMap SecV.cells)
  secok : ∀ x ∈ svs, x.ok B w
  syms : w.ownsRow B 45 6 v1 ys.length (ys.flatMap symC)
  grps : w.ownsRow B 50 2 v2 gvs.length (gvs.flatMap GroupV.cells)
  grpok : ∀ x ∈ gvs, x.ok B w
  sg : w.ownsRow B 3 1 v4 sig.length (sig.map (Value.int .i64))
section
variable {B G : Nat} {v0 v1 v2 v4 : Value} {hs : Bool} {ys : List SymD} {svs : List SecV} {gvs : List GroupV} {sig : List Int} {w w' : World}
theorem RRd.below (h : RRd B G v0 v1 v2 v4 hs ys svs gvs sig w) (hb : Below w.heap.size w w') : RRd B G v0 v1 v2 v4 hs ys svs gvs sig w' := by
  have hf : FrT B [] w w' := FrT.of_below hb
  exact ⟨hf.heap h.g (by simp), hf.owns h.secs (by simp), fun x hx => (h.secok x hx).fr hf (by simp) (by simp), hf.owns h.syms (by simp), hf.owns h.grps (by simp), fun x hx => (h.grpok x hx).fr hf (by simp), hf.owns h.sg (by simp)⟩
theorem RRd.rels (h : RRd B G v0 v1 v2 v4 hs ys svs gvs sig w) (hf : FrT B [48] w w') {x : Nat} {sv : SecV} {rs : List RelD} {vr : Value} (hx : svs[x]? = some sv)
    (h2 : w'.ownsRow B 48 9 v0 svs.length ((svs.set x (sv.withRels rs vr)).flatMap SecV.cells)) (h3 : w'.ownsRow B 89 4 vr rs.length (rs.flatMap relC)) (h4 : ∀ r ∈ rs, r.bd) : RRd B G v0 v1 v2 v4 hs ys (svs.set x (sv.withRels rs vr)) gvs sig w' := by
  refine ⟨hf.heap h.g (by decide), by rw [List.length_set]; exact h2, fun y hy => ?_, hf.owns h.syms (by decide), hf.owns h.grps (by decide), fun y hy => (h.grpok y hy).fr hf (by decide), hf.owns h.sg (by decide)⟩
  rcases List.mem_or_eq_of_mem_set hy with hy | rfl
  · exact (h.secok y hy).fr hf (by decide) (by decide)
  · obtain ⟨o1, o2, b0, b1, b2, b3, b4, b5, b6, b7⟩ := (h.secok sv (List.mem_of_getElem? hx)).fr hf (by decide) (by decide)
    exact ⟨o1, h3, b0, b1, b2, b3, b4, b5, b6, h4⟩
theorem RRd.group (h : RRd B G v0 v1 v2 v4 hs ys svs gvs sig w) (hf : FrT B [27, 50] w w') {g : GroupD} {m v2' : Value}
    (h1 : w'.heap[G]? = some (.cells #[v0, v1, v2', .bool hs, v4] 27 (0, 0))) (h2 : w'.ownsRow B 50 2 v2' (gvs.length + 1) ((gvs ++ [(⟨g, m⟩ : GroupV)]).flatMap GroupV.cells)) (h3 : w'.ownsRow B 3 1 m g.members.length (g.members.map (Value.int .i64)))
    (h4 : i64bd g.sym) (h5 : ∀ y ∈ g.members, i64bd y) : RRd B G v0 v1 v2' v4 hs ys svs (gvs ++ [(⟨g, m⟩ : GroupV)]) sig w' := by
  refine ⟨h1, hf.owns h.secs (by decide), fun y hy => (h.secok y hy).fr hf (by decide) (by decide), hf.owns h.syms (by decide), by rw [List.length_append]; exact h2, fun y hy => ?_, hf.owns h.sg (by decide)⟩
  rcases List.mem_append.1 hy with hy | hy
  · exact (h.grpok y hy).fr hf (by decide)
  · obtain rfl := List.mem_singleton.1 hy
    exact ⟨h3, h4, h5⟩
theorem RRd.sigs (h : RRd B G v0 v1 v2 v4 hs ys svs gvs sig w) (hf : FrT B [27] w w') {xs : List Int} {v : Value}
    (h1 : w'.heap[G]? = some (.cells #[v0, v1, v2, .bool true, v] 27 (0, 0))) (h2 : w'.ownsRow B 3 1 v xs.length (xs.map (Value.int .i64))) : RRd B G v0 v1 v2 v true ys svs gvs xs w' :=
  ⟨h1, hf.owns h.secs (by decide), fun y hy => (h.secok y hy).fr hf (by decide) (by decide), hf.owns h.syms (by decide), hf.owns h.grps (by decide), fun y hy => (h.grpok y hy).fr hf (by decide), h2⟩
theorem RRd.parts (h : RRd B G v0 v1 v2 v4 hs ys svs gvs sig w) (hy : ∀ y ∈ ys, y.bd) (hx : ∀ x ∈ sig, i64bd x) : ObjParts w v0 v1 v2 v4 ⟨svs.map SecV.s, ys, gvs.map GroupV.g, hs, sig⟩ :=
  ⟨isL_secs h.secs h.secok, isL_syms h.syms hy, isL_groups h.grps h.grpok, isL_ints h.sg hx⟩
end
/-- The section of which relocations tell. -/
theorem rels_sec {l : List UInt8} {L : List Ten} {i : Nat} {sy : Int} {t : Ten} {rs : List RelD} {svs : List SecV} (h : refRels l L i sy t = some rs) (hl : svs.length = cntS L) : ∃ (x : Nat) (sv : SecV), (numGo 0 L)[t.h.toNat]?.getD 0 = ((x + 1 : Nat) : Int) ∧ svs[x]? = some sv ∧ x < svs.length := by
  obtain ⟨u, hu, hub⟩ := relsAt_head h
  have hs : isSecT u = true := by unfold isSecT; rw [hub]; rfl
  have h1 := cntS_take_lt hu hs (List.getElem?_eq_some_iff.1 hu).1
  rw [List.take_length] at h1
  have hlt : cntS (L.take t.h.toNat) < svs.length := by omega
  refine ⟨cntS (L.take t.h.toNat), svs[cntS (L.take t.h.toNat)], ?_, List.getElem?_eq_getElem hlt, hlt⟩
  rw [numGo_at hu, hs]
  rfl
end Go.Proofs.YtenmcmnhiejbgaaGreat

namespace Go.Proofs.YtenmcmnhiejbgaaGreat
open Go.RowKit

def GivesRGroup (r : Option GroupD) (w : World) (e : Ending) (w' : World) : Prop := Below w.heap.size w w' ∧ ((r = none ∧ ∃ (x : Int) (p : Option Addr) (n c : Nat), e = .returned (.tuple #[.agg #[.int .i64 x, .slice p n c], .bool false])) ∨
  ∃ (g : GroupD) (p : Option Addr) (c : Nat), r = some g ∧ e = .returned (.tuple #[.agg #[.int .i64 g.sym, .slice p g.members.length c], .bool true]) ∧ w'.ownsRow w.heap.size 3 1 (.slice p g.members.length c) g.members.length (g.members.map (Value.int .i64)))
theorem results_grp {fn : Func} {p u : Tmp} (h : fn.results = #[.cell p 50, .tmp u]) (tmps : Array Value) (w : World) (g : Nat) (v0 v1 b : Value) (hp : tmps.getD p undef = .pointer (some ⟨g, 0, none⟩)) (hu : tmps.getD u undef = b)
    (hg : w.heap[g]? = some (.cells #[v0, v1] 50 (0, 0))) : (results fn tmps).run Tryz.prog w = .ok (.tuple #[.agg #[v0, v1], b]) w := by
  obtain ⟨⟨r0, r1⟩, _⟩ := two_cells _ _ _ _ _ hg
  rw [results_cell_tmp h, hp, hu]
  go_simp
theorem two_set {w : World} {g N : Nat} {v0 v1 : Value} {T : TypeId} (u0 u1 : Value) (hN : N ≤ g) (h : w.heap[g]? = some (.cells #[v0, v1] T (0, 0))) :
    ((w.setCell ⟨g, 0, none⟩ u0).setCell ⟨g, 1, none⟩ u1).heap[g]? = some (.cells #[u0, u1] T (0, 0)) ∧ FrT N [T] w ((w.setCell ⟨g, 0, none⟩ u0).setCell ⟨g, 1, none⟩ u1) := by
  have h0 := set_row #[u0, v1] 0 u0 hN ⟨h, FrT.refl N [T] w⟩ rfl
  exact set_row #[u0, u1] 1 u1 hN h0 rfl
theorem numGo_ty4 {L : List Ten} {x : Nat} (h : isTy L x 4 = true) : (numGo 0 L)[x]?.getD 0 = 0 := by
  unfold isTy at h
  cases ht : L[x]? with
  | none => rw [ht] at h; cases h
  | some t =>
    rw [ht] at h
    have hb : t.b = 4 := by simpa using h
    rw [numGo_at ht]
    unfold isSecT
    rw [hb]
    rfl
theorem numGo_nn (L : List Ten) (x : Nat) : 0 ≤ (numGo 0 L)[x]?.getD 0 ∧ (numGo 0 L)[x]?.getD 0 ≤ (L.length : Int) := by
  cases ht : (numGo 0 L)[x]? with
  | none => exact ⟨Int.le_refl _, by show (0 : Int) ≤ _; omega⟩
  | some n => have := numGo_bd 0 n (List.mem_of_getElem? ht); exact ⟨by show 0 ≤ n; omega, by show n ≤ _; omega⟩
theorem num4 (l : List UInt8) (a : Nat) (h : a + 4 ≤ l.length) : num (win l a 4) < 4294967296 := by
  have h1 := num_lt (win l a 4)
  rw [win_length l a 4 h] at h1
  simpa using h1
/-- What is told of a group that is told at a place of windows. -/
theorem rwin_at {l : List UInt8} {e f k : Nat} (_hef : e + f ≤ l.length) (hk : k + 4 ≤ f) : win (win l e f) k 4 = win l (e + k) 4 := win_win l e f k 4 hk
theorem grp_end {tmps : Array Value} {W w : World} {res : Option GroupD} {B : Nat} {x : Int} {p : Option Addr} {n c : Nat} {b : Bool} (h6 : tmps.getD 6 undef = .pointer (some ⟨B, 0, none⟩)) (h7 : tmps.getD 7 undef = .bool b) (hB : w.heap.size = B)
    (hR : W.heap[B]? = some (.cells #[.int .i64 x, .slice p n c] 50 (0, 0))) (hb : Below B w W) (ho : (b = false ∧ res = none) ∨ (b = true ∧ ∃ g : GroupD, res = some g ∧ g.sym = x ∧ n = g.members.length ∧ W.ownsRow B 3 1 (.slice p n c) n (g.members.map (Value.int .i64)))) :
    bodyPost Tryz.prog Tryz.f29 (GivesRGroup res w) Exit.ret ⟨tmps, []⟩ W := by
  subst hB
  rcases ho with ⟨rfl, h⟩ | ⟨rfl, g, h, rfl, rfl, h2⟩
  · exact bodyPost_ret (results_grp rfl _ _ _ _ _ _ h6 h7 hR) rfl ⟨hb, .inl ⟨h, x, p, n, c, rfl⟩⟩
  · exact bodyPost_ret (results_grp rfl _ _ _ _ _ _ h6 h7 hR) rfl ⟨hb, .inr ⟨g, p, c, h, rfl, h2⟩⟩

set_option maxRecDepth 100000 in
set_option maxHeartbeats 8000000 in
theorem rGroup_any (F i sy : Nat) (h : Ten) (bp : Option Addr) (bc : Nat) (l : List UInt8) (hp : Option Addr) (hc : Nat) (L : List Ten) (w : World) (hf : RFile w F bp bc l hp hc L) (hi1 : 1 ≤ i) (hh : L[i]? = some h) (hb17 : h.b = 17) :
    Calls Tryz.prog 29 #[filP F, .int .i64 (i : Int), .int .i64 (sy : Int)] w (GivesRGroup (groupAt l L (numGo 0 L) (sy : Int) h) w) := by
  obtain ⟨i0, gi, gz0, gz1, gz2⟩ := info_parts Tryz.infoInt
  have GI := Lib.hid gi
  have G0 := Lib.hid gz0
  have G1 := Lib.hid gz1
  have G2 := Lib.hid gz2
  have hiL : i < L.length := (List.getElem?_eq_some_iff.1 hh).1
  have hm := (hf.ok i h hh).1
  have he := (fitsB_iff _).1 (hm h.e (by simp [Ten.l]))
  have hff := (fitsB_iff _).1 (hm h.f (by simp [Ten.l]))
  have hin := heads_in hf.ok hh (by omega)
  obtain ⟨eo, heo⟩ := Int.eq_ofNat_of_zero_le he.1
  obtain ⟨fo, hfo⟩ := Int.eq_ofNat_of_zero_le hff.1
  have hbig := hf.big
  have hLl := hf.hl
  have hef : eo + fo ≤ l.length := by omega
  have htd := told_has hf i
  have htB : toldB l L i = win l eo fo := by
    unfold toldB
    rw [hh]
    simp only
    rw [hb17, heo, hfo, Int.toNat_natCast, Int.toNat_natCast, show ((17 : Int) == 8 || i == 0) = false by simp; omega]
    rfl
  have hwl := win_length l eo fo hef
  rw [htB, hwl] at htd
  have hrs : groupAt l L (numGo 0 L) (sy : Int) h = bif (h.j == 4) && ((fo : Int) % 4 == 0) then
      bif h.g != (sy : Int) then none else bif (fo : Int) == 0 then none else bif ((num (win l eo 4) : Nat) : Int) != 1 then none else
        (mbrGo l L (numGo 0 L) (eo + 4) 0 (fo / 4 - 1) []).map fun ms => ⟨h.h, ms⟩
      else none := by
    unfold groupAt
    rw [heo, hfo, Int.toNat_natCast, Int.toNat_natCast, show ((fo : Int).tmod 4) = (fo : Int) % 4 from Int.tmod_eq_emod_of_nonneg (by omega)]
  have HRS := Lib.hid hrs
  generalize groupAt l L (numGo 0 L) (sy : Int) h = res at *
  obtain ⟨wa, hwa⟩ : ∃ wa, wa = w.alloc (.cells #[.int .i64 0, .slice none 0 0] 50) := ⟨_, rfl⟩
  have hba : Below w.heap.size w wa := by rw [hwa]; exact (Below.refl _ w).alloc (Nat.le_refl _) _
  have hra : wa.heap[w.heap.size]? = some (.cells #[.int .i64 0, .slice none 0 0] 50 (0, 0)) := by rw [hwa]; exact heap_alloc_new w _
  have hfa := hf.below hba
  obtain ⟨b, off, t', hpe, ht', e0, e1, e2, e3, e4, e5, e6, e7, e8, e9⟩ := hfa.h.at_ (i := i) hiL
  obtain rfl : t' = h := by rw [hh] at ht'; cases ht'; rfl
  subst hpe
  have c1 := hfa.c1
  rw [hfo] at e5
  obtain ⟨wb, hwb⟩ : ∃ wb, wb = wa.alloc (.cells #[.int .i64 t'.a, .int .i64 t'.b, .int .i64 t'.c, .int .i64 t'.d, .int .i64 t'.e, .int .i64 (fo : Int), .int .i64 t'.g, .int .i64 t'.h, .int .i64 t'.i, .int .i64 t'.j] 54) := ⟨_, rfl⟩
  have hbb : Below wa.heap.size wa wb := by rw [hwb]; exact (Below.refl _ wa).alloc (Nat.le_refl _) _
  have hrb : wb.heap[wa.heap.size]? = some (.cells #[.int .i64 t'.a, .int .i64 t'.b, .int .i64 t'.c, .int .i64 t'.d, .int .i64 t'.e, .int .i64 (fo : Int), .int .i64 t'.g, .int .i64 t'.h, .int .i64 t'.i, .int .i64 t'.j] 54 (0, 0)) := by rw [hwb]; exact heap_alloc_new wa _
  obtain ⟨w1, hw1⟩ : ∃ w1, w1 = wb.alloc (.cells #[.int .i64 t'.h, .slice none 0 0] 50) := ⟨_, rfl⟩
  have hb1 : Below wb.heap.size wb w1 := by rw [hw1]; exact (Below.refl _ wb).alloc (Nat.le_refl _) _
  have hr1 : w1.heap[wb.heap.size]? = some (.cells #[.int .i64 t'.h, .slice none 0 0] 50 (0, 0)) := by rw [hw1]; exact heap_alloc_new wb _
  have hsa : w.heap.size < wa.heap.size := by rw [hwa]; simp
  have hsb : wa.heap.size < wb.heap.size := by rw [hwb]; simp
  have hs1 : wb.heap.size < w1.heap.size := by rw [hw1]; simp
  have hbw1 : Below w.heap.size w w1 := hba.trans ((hbb.trans (hb1.mono hbb.size)).mono hba.size)
  have hR1 : w1.heap[w.heap.size]? = some (.cells #[.int .i64 0, .slice none 0 0] 50 (0, 0)) := (hb1.block _ (by omega)).trans ((hbb.block _ hsa).trans hra)
  have hH1 : w1.heap[wa.heap.size]? = some (.cells #[.int .i64 t'.a, .int .i64 t'.b, .int .i64 t'.c, .int .i64 t'.d, .int .i64 t'.e, .int .i64 (fo : Int), .int .i64 t'.g, .int .i64 t'.h, .int .i64 t'.i, .int .i64 t'.j] 54 (0, 0)) := (hb1.block _ hsb).trans hrb
  obtain ⟨y0, y1, y2, y3, y4, y5, y6, y7, y8, y9⟩ := cells_ten _ _ _ _ _ _ _ _ _ _ _ _ _ hrb
  have HTI : Hid (∀ W, Below w.heap.size w W → Calls Tryz.prog 31 #[filP F, .int .i64 (i : Int)] W fun e w' => e = .returned (.slice (toldP bp bc L i) fo (toldC bc L i)) ∧ Below W.heap.size W w') := Lib.hid fun W hW => by
    have := rTold_any F i bp bc l _ hc L W (hf.below hW) hiL
    rw [htB, hwl] at this
    exact this
  have HIS : Hid (∀ W (x : Nat), Below w.heap.size w W → Calls Tryz.prog 57 #[filP F, .int .i64 (x : Int), .int .i64 4] W fun e w' => e = .returned (.bool (isTy L x 4)) ∧ W = w') := Lib.hid fun W x hW => rIs_any F x 4 bp bc l _ hc L W (hf.below hW) (by decide)
  have HNU : Hid (∀ W (x : Nat), Below w.heap.size w W → Calls Tryz.prog 28 #[filP F, .int .i64 (x : Int)] W fun e w' => e = .returned (.int .i64 ((numGo 0 L)[x]?.getD 0)) ∧ W = w') := Lib.hid fun W x hW => rNumber_any F x bp bc l _ hc L W (hf.below hW)
  have HHAS := Lib.hid fun W (hW : Below w.heap.size w W) => htd.1.below hW
  have hdc := htd.2.1
  have hdc2 := htd.2.2.1
  unfold maxLen at hdc2
  have HEF := Lib.hid hef
  have HWA := Lib.hid hwa
  have HWB := Lib.hid hwb
  have HW1 := Lib.hid hw1
  have HR1 := Lib.hid hR1
  have HH1 := Lib.hid hH1
  have HG1 := Lib.hid hr1
  have HBA := Lib.hid hba
  have HBB := Lib.hid hbb
  have HB1 := Lib.hid hb1
  have HBW1 := Lib.hid hbw1
  have HSA := Lib.hid hsa
  have HSB := Lib.hid hsb
  have HS1 := Lib.hid hs1
  have HNN := Lib.hid fun x => numGo_nn L x
  have HN4 := Lib.hid fun x => numGo_ty4 (L := L) (x := x)
  generalize hln : L.length = ln at *
  have hJ : (i : Int) < (ln : Int) := by omega
  have hJ0 : (0 : Int) ≤ (i : Int) := by omega
  clear gi gz0 gz1 gz2 hf hfa hh hm hrs ht' htd htB hwl hln he hff hin hb17 heo hfo hwa hwb hw1 hba hbb hb1 hra hrb hr1 hR1 hH1 hbw1 hsa hsb hs1 hef
  generalize toldP bp bc L i = dp at *
  generalize toldC bc L i = dc at *
  go_enter Tryz.func29, Tryz.ntmps29
  go_upto_region 1 with fail
  rw [← HWA.out]
  clear HWA
  generalize hB : w.heap.size = B at *
  have HB := Lib.hid hB
  clear hB
  generalize hA1 : wa.heap.size = A1 at *
  go_upto_region 2 with fail
  rw [← HWB.out]
  clear HWB hA1
  generalize hA2 : wb.heap.size = A2 at *
  clear c1 e0 e1 e2 e3 e4 e5 e6 e7 e8 e9
  go_upto_region 3 with fail
  rw [← HW1.out]
  clear HW1 hA2 y0 y1 y2 y3 y4 y5 y6 y7 y8 y9
  go_upto_region 4 with (first | (go_at_call 31; refine (HTI.out _ HBW1.out).mono ?_; rintro e w2 ⟨rfl, hb2⟩) | fail)
  have hs12 : A2 < w1.heap.size := HS1.out
  have hAB : B < A1 := HSA.out
  have hAB2 : A1 < A2 := HSB.out
  have hbw2 : Below B w w2 := HBW1.out.trans (hb2.mono (by omega))
  have hR2 := (hb2.block _ (by omega)).trans HR1.out
  have hH2 := (hb2.block _ (by omega)).trans HH1.out
  have hG2 := (hb2.block _ (by omega)).trans HG1.out
  have hA22 : A2 < w2.heap.size := Nat.lt_of_lt_of_le hs12 hb2.size
  have HR2 := Lib.hid hR2
  have HH2 := Lib.hid hH2
  have HG2 := Lib.hid hG2
  have HBW2 := Lib.hid hbw2
  obtain ⟨x0, x1, x2, x3, x4, x5, x6, x7, x8, x9⟩ := cells_ten _ _ _ _ _ _ _ _ _ _ _ _ _ hH2
  obtain ⟨⟨g0, g1⟩, _⟩ := two_cells _ _ _ _ _ hG2
  obtain ⟨⟨r0, r1⟩, q0, q1⟩ := two_cells _ _ _ _ _ hR2
  obtain ⟨nw, hnw⟩ : ∃ nw, nw = num (win l eo 4) := ⟨_, rfl⟩
  have HNW := Lib.hid hnw
  obtain ⟨bad, hbad⟩ : ∃ bad, bad = ((t'.j != 4) || (((fo : Int) % 4 != 0) || (decide ((fo : Int) < 4) || ((t'.g != (sy : Int)) || ((nw : Int) != 1))))) := ⟨_, rfl⟩
  have HBAD := Lib.hid hbad
  have hHAS2 := HHAS.out w2 hbw2
  have HHAS2 := Lib.hid hHAS2
  clear hb2 hR2 hH2 hG2 hbw2 hnw hbad hHAS2 HTI HBA HBB HB1 HBW1 HR1 HH1 HG1
  go_cut [53] (fun s53 wx => s53 = .bool bad ∧ w2 = wx)
  case first =>
    cases hj : (t'.j != 4) with
    | true =>
      obtain rfl : bad = true := by rw [HBAD.out, hj]; rfl
      go_wp2_with fail
      go_meet
      exact ⟨rfl, rfl⟩
    | false =>
      cases hmd : ((fo : Int) % 4 != 0) with
      | true =>
        obtain rfl : bad = true := by rw [HBAD.out, hj, hmd]; rfl
        go_wp2_with fail
        go_meet
        exact ⟨rfl, rfl⟩
      | false =>
        by_cases hlt4 : fo < 4
        · have hl4 : (fo : Int) < 4 := by omega
          obtain rfl : bad = true := by rw [HBAD.out, hj, hmd, decide_eq_true hl4]; rfl
          clear hlt4
          go_wp2_with fail
          go_meet
          exact ⟨rfl, rfl⟩
        · have hl4 : ¬ (fo : Int) < 4 := by omega
          cases hgg : (t'.g != (sy : Int)) with
          | true =>
            obtain rfl : bad = true := by rw [HBAD.out, hj, hmd, decide_eq_false hl4, hgg]; rfl
            clear hlt4
            go_wp2_with fail
            go_meet
            exact ⟨rfl, rfl⟩
          | false =>
            obtain rfl : bad = ((nw : Int) != 1) := by rw [HBAD.out, hj, hmd, decide_eq_false hl4, hgg]; rfl
            obtain ⟨bq, oq, rfl, _⟩ := HHAS2.out.plain (by rw [win_length l eo fo HEF.out]; omega)
            have hw4 := rwin_at (k := 0) HEF.out (by omega : 0 + 4 ≤ fo)
            have HNM : Hid (∀ c, Calls Tryz.prog 62 #[.slice (some ⟨bq, oq, none⟩) 4 c] w2 fun e w' => e = .returned (.int .u64 (nw : Int)) ∧ w2 = w') := Lib.hid fun c => by
              have h := num_any (some ⟨bq, oq + 0, none⟩) c (win (win l eo fo) 0 4) w2 (has_win HHAS2.out 0 4 (by rw [win_length l eo fo HEF.out]; omega)) (by rw [hw4, win_length l _ 4 (by have := HEF.out; omega)]; omega) 4 (by rw [hw4, win_length l _ 4 (by have := HEF.out; omega)])
              rw [hw4, Nat.add_zero, Nat.add_zero, ← HNW.out] at h
              exact h
            have hI2 : (4 : Int) ≤ (dc : Int) := by omega
            have hc1 : ¬ dc = 0 := by omega
            clear hlt4 hw4
            go_wp2_with (first | (go_at_call 62; refine (HNM.out _).mono ?_; rintro e w3 ⟨rfl, rfl⟩) | fail)
            go_meet
            exact ⟨rfl, rfl⟩
  case rest =>
    obtain ⟨rfl, rfl⟩ := hcut
    cases bad with
    | true =>
      have hE : Hid (res = none) := Lib.hid (by
        have hb := HBAD.out
        rw [HRS.out]
        cases hj : (t'.j == 4) with
        | false => rfl
        | true =>
          cases hmd : ((fo : Int) % 4 == 0) with
          | false => rfl
          | true =>
            cases hgg : (t'.g != (sy : Int)) with
            | true => rfl
            | false =>
              cases h0 : ((fo : Int) == 0) with
              | true => rfl
              | false =>
                have h1 : (fo : Int) % 4 = 0 := by simpa using hmd
                have h2 : ¬ (fo : Int) = 0 := by simpa using h0
                rw [show (t'.j != 4) = false by unfold bne; rw [hj]; rfl, show ((fo : Int) % 4 != 0) = false by unfold bne; rw [hmd]; rfl, hgg, show decide ((fo : Int) < 4) = false from decide_eq_false (by omega)] at hb
                have h3 : ((nw : Int) != 1) = true := by simpa using hb.symm
                rw [← HNW.out, h3]
                rfl)
      have hr5 := two_set (.int .i64 t'.h) (.slice none 0 0) (Nat.le_refl B) HR2.out
      have HR5 := Lib.hid hr5
      clear hr5
      go_wp2_with fail
      exact grp_end (by rfl) (by rfl) HB.out HR5.out.1 (HBW2.out.trans (HR5.out.2.below (by omega))) (.inl ⟨rfl, hE.out⟩)
    | false =>
      have hall : (t'.j == 4) = true ∧ ((fo : Int) % 4 == 0) = true ∧ ¬ (fo : Int) < 4 ∧ (t'.g != (sy : Int)) = false ∧ ((nw : Int) != 1) = false := by
        have hb := HBAD.out
        simp only [Bool.false_eq, Bool.or_eq_false_iff, decide_eq_false_iff_not] at hb
        obtain ⟨hj, hmd, hl, hgg, hp⟩ := hb
        exact ⟨by simpa [bne] using hj, by simpa [bne] using hmd, hl, hgg, hp⟩
      obtain ⟨hj, hmd, hl4, hgg, hp1⟩ := hall
      have hmd2 : (fo : Int) % 4 = 0 := by simpa using hmd
      obtain ⟨m, hm⟩ : ∃ m, fo = 4 + 4 * m := ⟨fo / 4 - 1, by omega⟩
      have HR4 : Hid (res = (mbrGo l L (numGo 0 L) (eo + 4) 0 m []).map fun ms => ⟨t'.h, ms⟩) := Lib.hid (by
        rw [HRS.out, hj, hmd, hgg, ← HNW.out, hp1, show ((fo : Int) == 0) = false by simp; omega, show fo / 4 - 1 = m by omega]
        rfl)
      obtain ⟨bq, oq, rfl, _⟩ := HHAS2.out.plain (by rw [win_length l eo fo HEF.out]; omega)
      have HFM := Lib.hid hm
      clear hj hmd hl4 hgg hp1 hmd2 hm HBAD HRS HNW
      go_wp2_with fail
      go_loopw [11, 12, 13, 14] (fun r11 _ _ _ wr => ∃ (k p : Nat) (acc : List Int) (vm : Value), k ≤ m ∧ r11 = .int .i64 (p : Int) ∧ p = 4 + 4 * k ∧ res = (mbrGo l L (numGo 0 L) (eo + 4) k (m - k) acc).map (fun ms => ⟨t'.h, ms⟩) ∧
        wr.heap[A2]? = some (.cells #[.int .i64 t'.h, vm] 50 (0, 0)) ∧ wr.ownsRow (A2 + 1) 3 1 vm acc.length (acc.map (Value.int .i64)) ∧ Below A2 w2 wr ∧ acc.length ≤ k ∧ A2 + 1 ≤ wr.heap.size) (fun r11 _ _ _ _ => fo - (intOf r11).toNat)
      case atStart => exact ⟨0, 4, [], _, Nat.zero_le _, rfl, rfl, HR4.out, HG2.out, World.ownsRow_nil _ _ _ _, (Below.refl _ w2).mono (Nat.le_of_lt hA22), Nat.le_refl _, hA22⟩
      case round =>
        obtain ⟨k, p, acc, vm, hk, rfl, hp, hgo, hgr, hown, hbr, hal, hszr⟩ := hrel
        have HGO := Lib.hid hgo
        have HGR := Lib.hid hgr
        have HOWN := Lib.hid hown
        have HP := Lib.hid hp
        have HBR := Lib.hid hbr
        have hbw := HBW2.out.trans (hbr.mono (by omega))
        have HBW := Lib.hid hbw
        have hR7 := (hbr.block B (by omega)).trans HR2.out
        have hH7 := (hbr.block A1 (by omega)).trans HH2.out
        have HR7 := Lib.hid hR7
        clear x0 x1 x2 x3 x4 x5 x6 x7 x8 x9 g0 g1 r0 r1 q0 q1
        obtain ⟨x0, x1, x2, x3, x4, x5, x6, x7, x8, x9⟩ := cells_ten _ _ _ _ _ _ _ _ _ _ _ _ _ hH7
        obtain ⟨⟨g0, g1⟩, y0, y1⟩ := two_cells _ _ _ _ _ hgr
        obtain ⟨⟨r0, r1⟩, q0, q1⟩ := two_cells _ _ _ _ _ hR7
        have hfm := HFM.out
        have hpb : p ≤ 100000 := by have := HEF.out; omega
        have hpf : p < fo ↔ k < m := by omega
        have hpl : k < m → p + 4 ≤ fo := by omega
        clear hgo hgr hown hp hbr hbw hR7 hH7 hfm
        by_cases hlt : k < m
        · have hJ : (p : Int) < (fo : Int) := by have := hpf.2 hlt; omega
          have hpl' := hpl hlt
          have hw4 := rwin_at (k := p) HEF.out hpl'
          have hl4 : eo + p + 4 ≤ l.length := by have := HEF.out; omega
          have hlt4 := num4 l (eo + p) hl4
          have hst : res = (bif isTy L (num (win l (eo + p) 4)) 4 then mbrGo l L (numGo 0 L) (eo + 4) (k + 1) (m - (k + 1)) acc else
            bif (numGo 0 L)[num (win l (eo + p) 4)]?.getD 0 == 0 then none else mbrGo l L (numGo 0 L) (eo + 4) (k + 1) (m - (k + 1)) (acc ++ [(numGo 0 L)[num (win l (eo + p) 4)]?.getD 0])).map (fun ms => ⟨t'.h, ms⟩) := by
            rw [HGO.out, show m - k = (m - (k + 1)) + 1 by omega, mbrGo_step, show eo + 4 + 4 * k = eo + p by have := HP.out; omega]
          have hnm : ∀ c, Calls Tryz.prog 62 #[.slice (some ⟨bq, oq + p, none⟩) 4 c] wr fun e w' => e = .returned (.int .u64 (num (win l (eo + p) 4) : Int)) ∧ wr = w' := fun c => by
            have h := num_any (some ⟨bq, oq + p, none⟩) c (win (win l eo fo) p 4) wr (has_win (HHAS.out wr HBW.out) p 4 (by rw [win_length l eo fo HEF.out]; exact hpl')) (by rw [hw4, win_length l _ 4 hl4]; omega) 4 (by rw [hw4, win_length l _ 4 hl4])
            rw [hw4] at h
            exact h
          generalize num (win l (eo + p) 4) = n at *
          have hnu := HNU.out wr n HBW.out
          have his := HIS.out wr n HBW.out
          have hnn := HNN.out n
          have hn4 := HN4.out n
          generalize (numGo 0 L)[n]?.getD 0 = mb at *
          obtain ⟨bt, hbt⟩ : ∃ bt, bt = isTy L n 4 := ⟨_, rfl⟩
          rw [← hbt] at hst his hn4
          have HST := Lib.hid hst
          have HNM := Lib.hid hnm
          have HNUX := Lib.hid hnu
          have HISX := Lib.hid his
          have k8 : IntKind.i64.wrap ((p : Int) + 4) = ((p + 4 : Nat) : Int) := by rw [show (p : Int) + 4 = ((p + 4 : Nat) : Int) by omega]; exact IntWalk.i64_in _ (by omega)
          have k9 : IntKind.i64.wrap (n : Int) = (n : Int) := IntWalk.i64_in _ (by omega)
          have hI1 : (p : Int) ≤ ((p + 4 : Nat) : Int) := by omega
          have hI0 : (0 : Int) ≤ (p : Int) := by omega
          have hI2 : ((p + 4 : Nat) : Int) ≤ (dc : Int) := by omega
          have hI4 : p + 4 - p = 4 := by omega
          have hc1 : ¬ dc = p := by omega
          clear hst hnm hnu his hbt hw4 hl4 hlt4 hpf hpl
          cases bt with
          | true =>
            have hst2 : Hid (res = (mbrGo l L (numGo 0 L) (eo + 4) (k + 1) (m - (k + 1)) acc).map (fun ms => ⟨t'.h, ms⟩)) := Lib.hid HST.out
            obtain rfl : mb = 0 := hn4 rfl
            clear hn4 hnn
            go_wp2_with (first | (go_at_call 62; refine (HNM.out _).mono ?_; rintro e w6 ⟨rfl, rfl⟩) | (go_at_call 28; refine HNUX.out.mono ?_; rintro e w6 ⟨rfl, rfl⟩) | (go_at_call 57; refine HISX.out.mono ?_; rintro e w6 ⟨rfl, rfl⟩) | fail)
            go_roundw
            case rel => exact ⟨k + 1, p + 4, acc, vm, hlt, by go_num, (by have := HP.out; omega), hst2.out, HGR.out, HOWN.out, HBR.out, by omega, hszr⟩
            case measure => simp [intOf]; omega
          | false =>
            have hst2 : Hid (res = (bif mb == 0 then none else mbrGo l L (numGo 0 L) (eo + 4) (k + 1) (m - (k + 1)) (acc ++ [mb])).map (fun ms => ⟨t'.h, ms⟩)) := Lib.hid HST.out
            clear hn4
            by_cases hm0 : mb = 0
            · subst hm0
              have hE : Hid (res = none) := Lib.hid hst2.out
              obtain ⟨vp, vc, rfl, _, _, _⟩ := slice_form HOWN.out
              have hr5 := two_set (.int .i64 t'.h) (.slice vp acc.length vc) (Nat.le_refl B) HR7.out
              have HR5 := Lib.hid hr5
              have hBr : B ≤ wr.heap.size := by omega
              clear hr5 hnn
              go_wp2_with (first | (go_at_call 62; refine (HNM.out _).mono ?_; rintro e w6 ⟨rfl, rfl⟩) | (go_at_call 28; refine HNUX.out.mono ?_; rintro e w6 ⟨rfl, rfl⟩) | (go_at_call 57; refine HISX.out.mono ?_; rintro e w6 ⟨rfl, rfl⟩) | fail)
              exact grp_end (by rfl) (by rfl) HB.out HR5.out.1 (HBW.out.trans (HR5.out.2.below hBr)) (.inl ⟨rfl, hE.out⟩)
            · have hm1 : (mb == 0) = false := by simpa using hm0
              have hm2 : (0 : Int) < mb := by omega
              have hst3 : Hid (res = (mbrGo l L (numGo 0 L) (eo + 4) (k + 1) (m - (k + 1)) (acc ++ [mb])).map (fun ms => ⟨t'.h, ms⟩)) := Lib.hid (by rw [hst2.out, hm1]; rfl)
              clear hm0 hnn
              go_upto_region 15 with (first | (go_at_call 62; refine (HNM.out _).mono ?_; rintro e w6 ⟨rfl, rfl⟩) | (go_at_call 28; refine HNUX.out.mono ?_; rintro e w6 ⟨rfl, rfl⟩) | (go_at_call 57; refine HISX.out.mono ?_; rintro e w6 ⟨rfl, rfl⟩) | fail)
              have hab : acc.length ≤ 2147483647 := by have := HFM.out; have := HEF.out; omega
              go_wp2_with (at_builtin; refine wpList_append_own _ rfl (.tmp 84) (.tmp 86) 25 rfl (A2 + 1) 3 i0 _ 1 8 Tryz.underlying25 GI.out G0.out G1.out G2.out rfl (by decide) _ acc.length _ rfl (HOWN.out.alloc _) ⟨wr.heap.size, 0, none⟩ 1 1 [.int .i64 mb] rfl rfl (cell_one_at wr _ _) (one_int _) (by unfold maxLen; omega) (by omega) (by simp; omega) ?_)
              intro v3' w4 hown4 hg4 _
              obtain ⟨p3, c3', rfl, _, _, _⟩ := slice_form hown4
              have hba : Below wr.heap.size wr (wr.alloc (.cells #[.int .i64 mb] 3)) := (Below.refl _ wr).alloc (Nat.le_refl _) _
              have hfi : FrT 0 [3] _ w4 := FrT.grown (HOWN.out.alloc (.cells #[.int .i64 mb] 3)) hg4 (by simp) (Nat.zero_le _)
              have hgr4 := hfi.heap ((hba.block _ (Array.getElem?_eq_some_iff.1 HGR.out).1).trans HGR.out) (by decide)
              have hb4 : Below A2 w2 w4 := (HBR.out.trans (hba.mono (by omega))).grown hg4 (by have := hba.size; omega) (fun k hk => by have := (HOWN.out.lt k hk).1; omega)
              obtain ⟨⟨z0, z1⟩, z2, z3⟩ := two_cells _ _ _ _ _ hgr4
              rw [int_snoc] at hown4
              have hf5 : FrT A2 [50] w4 (w4.setCell ⟨A2, 1, none⟩ (.slice p3 (acc.length + 1) c3')) := FrT.set hgr4 (by simp) (Nat.le_refl _) _
              have HG5 := Lib.hid (heap_setCell_same w4 A2 1 _ _ (.slice p3 (acc.length + 1) c3') hgr4)
              have HO5 := Lib.hid (hf5.owns hown4 (by decide))
              have HB5 : Hid (Below A2 w2 (w4.setCell ⟨A2, 1, none⟩ (.slice p3 (acc.length + 1) c3'))) := Lib.hid (hb4.setCell (Nat.le_refl _) _)
              have hs5 : A2 + 1 ≤ w4.heap.size := (Array.getElem?_eq_some_iff.1 hgr4).1
              clear hown4 hg4 hfi hf5 hb4 hgr4 hba x0 x1 x2 x3 x4 x5 x6 x7 x8 x9 g0 g1 y0 y1 r0 r1 q0 q1
              go_wp2_with fail
              go_roundw
              case rel => exact ⟨k + 1, p + 4, acc ++ [mb], _, hlt, by go_num, (by have := HP.out; omega), hst3.out, HG5.out, by rw [List.length_append]; exact HO5.out, HB5.out, by rw [List.length_append]; simp; omega, by simpa using hs5⟩
              case measure => simp [intOf]; omega
        · have hJ : ¬ (p : Int) < (fo : Int) := by omega
          obtain rfl : k = m := by omega
          have hE : Hid (res = some ⟨t'.h, acc⟩) := Lib.hid (by rw [HGO.out, Nat.sub_self]; rfl)
          obtain ⟨vp, vc, rfl, _, _, _⟩ := slice_form HOWN.out
          have hr5 := two_set (.int .i64 t'.h) (.slice vp acc.length vc) (Nat.le_refl B) HR7.out
          have HR5 := Lib.hid hr5
          have hBr : B ≤ wr.heap.size := by omega
          have HO5 := Lib.hid (owns_lower (hr5.2.owns HOWN.out (by decide)) (by omega : B ≤ A2 + 1))
          clear hr5 hpf hpl
          go_wp2_with fail
          exact grp_end (by rfl) (by rfl) HB.out HR5.out.1 (HBW.out.trans (HR5.out.2.below hBr)) (.inr ⟨rfl, ⟨t'.h, acc⟩, hE.out, rfl, rfl, HO5.out⟩)
end Go.Proofs.YtenmcmnhiejbgaaGreat
