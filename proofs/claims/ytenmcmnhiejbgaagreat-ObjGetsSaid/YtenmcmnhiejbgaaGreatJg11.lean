/-
  Contract of the project's sec.
  Rows of elements that each lie in some cells, as a reader sees them; sections, symbols, groups, relocations as they lie while an object is read. It names types of the program, none of its functions.
  What the project's readSecs tells: which headers are sections, and the sections. Nothing here walks the program.
  Contract: the reference's Digits: the number that begins at a place, and how many bytes it has.
-/
import Derived.Test.YtenmcmnhiejbgaaGreatJg10
import Derived.Test.YtenmcmnhiejbgaaGreatJg04
import Derived.Laws.ResultCell
import Derived.Test.YtenmcmnhiejbgaaGreatJg05
import Derived.Test.YtenmcmnhiejbgaaGreatJg03
import Derived.Test.YtenmcmnhiejbgaaGreatChecked
import Derived.LoopTactic
import Derived.Lib.Hide
import Derived.Outline
namespace Go.Proofs.YtenmcmnhiejbgaaGreat
open Go.RowKit

/-- The bytes of a section that has some. -/
def dataB (l : List UInt8) (t : Ten) : List UInt8 := bif t.b == 1 then win l t.e.toNat t.f.toNat else []
/-- The section of a header, but for its name and its relocations: its nine numbers but for the name, of headers that are numbered ns. -/
def secB (l : List UInt8) (ns : List Int) (t : Ten) : Option SecD :=
  bif t.h != 0 then none else
  bif hasF t.c 128 then (bif ns[t.g.toNat]?.getD 0 != 0 then some ⟨ByteArray.empty, t.b, t.c, if t.i < 1 then 1 else t.i, t.j, ns[t.g.toNat]?.getD 0, t.f, dataB l t, []⟩ else none)
  else (bif t.g == 0 then some ⟨ByteArray.empty, t.b, t.c, if t.i < 1 then 1 else t.i, t.j, 0, t.f, dataB l t, []⟩ else none)
/-- What sec gives: a section, its data in memory of its own. -/
def GivesSec (r : Option SecD) (w : World) (e : Ending) (w' : World) : Prop := Below w.heap.size w w' ∧
  match r with
  | none => ∃ (s : SecD) (q : Option Addr) (m c : Nat), e = .returned (.tuple #[.agg #[.string s.name, .int .i64 s.type, .int .i64 s.flags, .int .i64 s.align, .int .i64 s.ent, .int .i64 s.link, .int .i64 s.size, .slice q m c, .slice none 0 0], .bool false])
  | some s => ∃ (q : Option Addr) (c : Nat), e = .returned (.tuple #[.agg #[.string s.name, .int .i64 s.type, .int .i64 s.flags, .int .i64 s.align, .int .i64 s.ent, .int .i64 s.link, .int .i64 s.size, .slice q s.data.length c, .slice none 0 0], .bool true]) ∧ w'.ownsRow w.heap.size 5 1 (.slice q s.data.length c) s.data.length (s.data.map u8v)

theorem three (w : World) (o1 o2 o3 : Obj) : (((w.alloc o1).alloc o2).alloc o3).heap[w.heap.size]? = some o1 ∧ (((w.alloc o1).alloc o2).alloc o3).heap[w.heap.size + 1]? = some o2 ∧ (((w.alloc o1).alloc o2).alloc o3).heap[w.heap.size + 1 + 1]? = some o3 ∧ Below w.heap.size w (((w.alloc o1).alloc o2).alloc o3) ∧ (((w.alloc o1).alloc o2).alloc o3).heap.size = w.heap.size + 3 := by
  have e1 : (w.alloc o1).heap.size = w.heap.size + 1 := by simp
  have e2 : ((w.alloc o1).alloc o2).heap.size = w.heap.size + 1 + 1 := by simp
  refine ⟨?_, ?_, ?_, (((Below.refl _ w).alloc (Nat.le_refl _) _).alloc (by omega) _).alloc (by omega) _, by simp⟩
  · rw [heap_alloc_old _ _ (by omega), heap_alloc_old _ _ (by omega)]
    exact heap_alloc_new _ _
  · rw [heap_alloc_old _ _ (by omega), ← e1]
    exact heap_alloc_new _ _
  · rw [← e2]
    exact heap_alloc_new _ _
theorem nine_cells (w : World) (g : Nat) (v0 v1 v2 v3 v4 v5 v6 v7 v8 : Value) (T : TypeId) (h : w.heap[g]? = some (.cells #[v0, v1, v2, v3, v4, v5, v6, v7, v8] T (0, 0))) :
    (w.cell? ⟨g, 0, none⟩ = some v0 ∧ w.cell? ⟨g, 1, none⟩ = some v1 ∧ w.cell? ⟨g, 2, none⟩ = some v2 ∧ w.cell? ⟨g, 3, none⟩ = some v3 ∧ w.cell? ⟨g, 4, none⟩ = some v4 ∧ w.cell? ⟨g, 5, none⟩ = some v5 ∧ w.cell? ⟨g, 6, none⟩ = some v6 ∧ w.cell? ⟨g, 7, none⟩ = some v7 ∧ w.cell? ⟨g, 8, none⟩ = some v8) ∧
    (w.frozen? ⟨g, 0, none⟩ = false ∧ w.frozen? ⟨g, 1, none⟩ = false ∧ w.frozen? ⟨g, 2, none⟩ = false ∧ w.frozen? ⟨g, 3, none⟩ = false ∧ w.frozen? ⟨g, 4, none⟩ = false ∧ w.frozen? ⟨g, 5, none⟩ = false ∧ w.frozen? ⟨g, 6, none⟩ = false ∧ w.frozen? ⟨g, 7, none⟩ = false ∧ w.frozen? ⟨g, 8, none⟩ = false) := by
  refine ⟨⟨?_, ?_, ?_, ?_, ?_, ?_, ?_, ?_, ?_⟩, ?_, ?_, ?_, ?_, ?_, ?_, ?_, ?_, ?_⟩
  all_goals first | exact (cell_of_row w g _ _ _ (0, 0) h).trans rfl | exact frozen_of_row w g _ _ _ h | fail
theorem set_row {w0 w : World} {g N : Nat} {cs : Array Value} {T : TypeId} (cs' : Array Value) (i : Nat) (v : Value) (hN : N ≤ g) (h : w.heap[g]? = some (.cells cs T (0, 0)) ∧ FrT N [T] w0 w) (e : cs.setIfInBounds i v = cs') :
    (w.setCell ⟨g, i, none⟩ v).heap[g]? = some (.cells cs' T (0, 0)) ∧ FrT N [T] w0 (w.setCell ⟨g, i, none⟩ v) := by
  subst e
  exact ⟨heap_setCell_same w g i _ _ v h.1, h.2.trans (FrT.set h.1 (by simp) hN v)⟩
theorem nine_set {w : World} {g N : Nat} {v0 v1 v2 v3 v4 v5 v6 v7 v8 : Value} {T : TypeId} (u0 u1 u2 u3 u4 u5 u6 u7 u8 : Value) (hN : N ≤ g) (h : w.heap[g]? = some (.cells #[v0, v1, v2, v3, v4, v5, v6, v7, v8] T (0, 0))) :
    (((((((((w.setCell ⟨g, 0, none⟩ u0).setCell ⟨g, 1, none⟩ u1).setCell ⟨g, 2, none⟩ u2).setCell ⟨g, 3, none⟩ u3).setCell ⟨g, 4, none⟩ u4).setCell ⟨g, 5, none⟩ u5).setCell ⟨g, 6, none⟩ u6).setCell ⟨g, 7, none⟩ u7).setCell ⟨g, 8, none⟩ u8).heap[g]? = some (.cells #[u0, u1, u2, u3, u4, u5, u6, u7, u8] T (0, 0)) ∧
    FrT N [T] w (((((((((w.setCell ⟨g, 0, none⟩ u0).setCell ⟨g, 1, none⟩ u1).setCell ⟨g, 2, none⟩ u2).setCell ⟨g, 3, none⟩ u3).setCell ⟨g, 4, none⟩ u4).setCell ⟨g, 5, none⟩ u5).setCell ⟨g, 6, none⟩ u6).setCell ⟨g, 7, none⟩ u7).setCell ⟨g, 8, none⟩ u8) := by
  have h0 := set_row #[u0, v1, v2, v3, v4, v5, v6, v7, v8] 0 u0 hN ⟨h, FrT.refl N [T] w⟩ rfl
  have h1 := set_row #[u0, u1, v2, v3, v4, v5, v6, v7, v8] 1 u1 hN h0 rfl
  have h2 := set_row #[u0, u1, u2, v3, v4, v5, v6, v7, v8] 2 u2 hN h1 rfl
  have h3 := set_row #[u0, u1, u2, u3, v4, v5, v6, v7, v8] 3 u3 hN h2 rfl
  have h4 := set_row #[u0, u1, u2, u3, u4, v5, v6, v7, v8] 4 u4 hN h3 rfl
  have h5 := set_row #[u0, u1, u2, u3, u4, u5, v6, v7, v8] 5 u5 hN h4 rfl
  have h6 := set_row #[u0, u1, u2, u3, u4, u5, u6, v7, v8] 6 u6 hN h5 rfl
  have h7 := set_row #[u0, u1, u2, u3, u4, u5, u6, u7, v8] 7 u7 hN h6 rfl
  exact set_row #[u0, u1, u2, u3, u4, u5, u6, u7, u8] 8 u8 hN h7 rfl
/-- What a call gives whose results are a section in a cell of its own and a Boolean. -/
theorem results_sec {fn : Func} {p u : Tmp} (h : fn.results = #[.cell p 48, .tmp u]) (tmps : Array Value) (w : World) (g : Nat) (v0 v1 v2 v3 v4 v5 v6 v7 v8 : Value) (b : Bool) (hp : tmps.getD p undef = .pointer (some ⟨g, 0, none⟩)) (hu : tmps.getD u undef = .bool b)
    (hg : w.heap[g]? = some (.cells #[v0, v1, v2, v3, v4, v5, v6, v7, v8] 48 (0, 0))) : (results fn tmps).run Tryz.prog w = .ok (.tuple #[.agg #[v0, v1, v2, v3, v4, v5, v6, v7, v8], .bool b]) w := by
  obtain ⟨⟨r0, r1, r2, r3, r4, r5, r6, r7, r8⟩, _⟩ := nine_cells _ _ _ _ _ _ _ _ _ _ _ _ hg
  rw [results_cell_tmp h, hp, hu]
  go_simp

theorem results_sec_drew {fn : Func} {p u : Tmp} (h : fn.results = #[.cell p 48, .tmp u]) (tmps : Array Value) (w : World) (g : Nat) (v0 v1 v2 v3 v4 v5 v6 v7 v8 : Value) (b : Bool) (hp : tmps.getD p undef = .pointer (some ⟨g, 0, none⟩)) (hu : tmps.getD u undef = .bool b)
    (hg : w.heap[g]? = some (.cells #[v0, v1, v2, v3, v4, v5, v6, v7, v8] 48 (0, 0))) : (results fn tmps).run Tryz.prog w.drew = .ok (.tuple #[.agg #[v0, v1, v2, v3, v4, v5, v6, v7, v8], .bool b]) w.drew :=
  results_sec h tmps w.drew g v0 v1 v2 v3 v4 v5 v6 v7 v8 b hp hu hg

set_option maxRecDepth 100000 in
set_option maxHeartbeats 4000000 in
theorem gotSec_any (N F : Nat) (w0 : World) (t : Ten) (bp : Option Addr) (bc : Nat) (l : List UInt8) (sp : Option Addr) (sc : Nat) (ns : List Int) (w : World) (hN : w0.heap.size = N) (hw : Below N w0 w) (ht : Has w0 bp l) (h1 : l.length ≤ bc) (h2 : bc ≤ maxLen) (h3 : bp = none → bc = 0) (hbig : l.length ≤ 100000)
    (hF0 : w.cell? ⟨F, 0, none⟩ = some (.slice bp l.length bc)) (hF3 : w.cell? ⟨F, 3, none⟩ = some (.slice sp ns.length sc)) (hs : HasL 1 EInt w sp ns) (hm : t.may) (hef : t.b = 1 → t.e + t.f ≤ (l.length : Int)) :
    Calls Tryz.prog 88 #[filP F, t.v] w (GivesSec (secB l ns t) w) := by
  obtain ⟨i8, hi8, hz8, hs8, hb8⟩ := info_parts Tryz.infoU8
  have HI8 := Lib.hid hi8
  have HZ8 := Lib.hid hz8
  have HS8 := Lib.hid hs8
  have HB8 := Lib.hid hb8
  have HW := Lib.hid hw
  have HHAS := Lib.hid ht
  have hrs : secB l ns t = bif t.h != 0 then none else
    bif hasF t.c 128 then (bif ns[t.g.toNat]?.getD 0 != 0 then some ⟨ByteArray.empty, t.b, t.c, if t.i < 1 then 1 else t.i, t.j, ns[t.g.toNat]?.getD 0, t.f, dataB l t, []⟩ else none)
    else (bif t.g == 0 then some ⟨ByteArray.empty, t.b, t.c, if t.i < 1 then 1 else t.i, t.j, 0, t.f, dataB l t, []⟩ else none) := rfl
  have HRS := Lib.hid hrs
  have HSO := Lib.hid fun (W : World) (hW : Below w.heap.size w W) (n : Nat) => sectionOf_any F n sp sc ns W (cell_later hW hF3) (hs.below EInt.keeps hW)
  generalize secB l ns t = res at *
  have HF0 := Lib.hid hF0
  have HM := Lib.hid hm
  have HEF := Lib.hid hef
  clear hi8 hz8 hs8 hb8 hw ht hrs hF0 hF3 hs hm hef
  go_enter Tryz.func88, Tryz.ntmps88
  go_upto_region 2 with fail
  obtain ⟨x1, x2, x3, x4, x5⟩ := three w (.cells #[.int .i64 t.a, .int .i64 t.b, .int .i64 t.c, .int .i64 t.d, .int .i64 t.e, .int .i64 t.f, .int .i64 t.g, .int .i64 t.h, .int .i64 t.i, .int .i64 t.j] 104) (.cells #[.string ⟨#[]⟩, .int .i64 0, .int .i64 0, .int .i64 0, .int .i64 0, .int .i64 0, .int .i64 0, .slice none 0 0, .slice none 0 0] 48) (.cells #[.string ⟨#[]⟩, .int .i64 t.b, .int .i64 t.c, .int .i64 (if t.i < 1 then 1 else t.i), .int .i64 t.j, .int .i64 0, .int .i64 t.f, .slice none 0 0, .slice none 0 0] 48)
  generalize ((w.alloc (.cells #[.int .i64 t.a, .int .i64 t.b, .int .i64 t.c, .int .i64 t.d, .int .i64 t.e, .int .i64 t.f, .int .i64 t.g, .int .i64 t.h, .int .i64 t.i, .int .i64 t.j] 104)).alloc (.cells #[.string ⟨#[]⟩, .int .i64 0, .int .i64 0, .int .i64 0, .int .i64 0, .int .i64 0, .int .i64 0, .slice none 0 0, .slice none 0 0] 48)).alloc (.cells #[.string ⟨#[]⟩, .int .i64 t.b, .int .i64 t.c, .int .i64 (if t.i < 1 then 1 else t.i), .int .i64 t.j, .int .i64 0, .int .i64 t.f, .slice none 0 0, .slice none 0 0] 48) = W1 at *
  generalize hal : (if t.i < 1 then 1 else t.i) = al at *
  have X1 := Lib.hid x1
  have X2 := Lib.hid x2
  have X3 := Lib.hid x3
  have X4 := Lib.hid x4
  have X5 := Lib.hid x5
  obtain ⟨d0, d1, d2, d3, d4, d5, d6, d7, d8, d9⟩ := cells_ten _ _ _ _ _ _ _ _ _ _ _ _ _ x1
  clear x1 x2 x3 x4 x5
  go_upto_if 21 with fail
  go_cut [] (fun wx => ∃ (q : Option Addr) (c : Nat), wx.heap[w.heap.size]? = some (.cells #[.int .i64 t.a, .int .i64 t.b, .int .i64 t.c, .int .i64 t.d, .int .i64 t.e, .int .i64 t.f, .int .i64 t.g, .int .i64 t.h, .int .i64 t.i, .int .i64 t.j] 104 (0, 0)) ∧ wx.heap[w.heap.size + 1]? = some (.cells #[.string ⟨#[]⟩, .int .i64 0, .int .i64 0, .int .i64 0, .int .i64 0, .int .i64 0, .int .i64 0, .slice none 0 0, .slice none 0 0] 48 (0, 0)) ∧
    wx.heap[w.heap.size + 1 + 1]? = some (.cells #[.string ⟨#[]⟩, .int .i64 t.b, .int .i64 t.c, .int .i64 al, .int .i64 t.j, .int .i64 0, .int .i64 t.f, .slice q (dataB l t).length c, .slice none 0 0] 48 (0, 0)) ∧ Below w.heap.size w wx ∧ w.heap.size + 3 ≤ wx.heap.size ∧ wx.ownsRow (w.heap.size + 3) 5 1 (.slice q (dataB l t).length c) (dataB l t).length ((dataB l t).map u8v))
  case first =>
    cases hb : (t.b == 1) with
    | false =>
      have hd : dataB l t = [] := by unfold dataB; rw [hb]; rfl
      have hb1 : ¬ t.b = 1 := by simpa using hb
      go_wp2_with fail
      go_meet
      rw [hd]
      exact ⟨none, 0, X1.out, X2.out, X3.out, X4.out, Nat.le_of_eq X5.out.symm, World.ownsRow_nil _ _ _ _⟩
    | true =>
      have hb1 : t.b = 1 := by simpa using hb
      have hte := (fitsB_iff _).1 (HM.out t.e (by simp [Ten.l]))
      have htf := (fitsB_iff _).1 (HM.out t.f (by simp [Ten.l]))
      have hef := HEF.out hb1
      obtain ⟨te, hte2⟩ := Int.eq_ofNat_of_zero_le hte.1
      obtain ⟨tf, htf2⟩ := Int.eq_ofNat_of_zero_le htf.1
      have hl : te + tf ≤ l.length := by omega
      have hwl := win_length l te tf hl
      have hd : dataB l t = win l te tf := by unfold dataB; rw [hb, hte2, htf2]; rfl
      have HD := Lib.hid hd
      have HWL := Lib.hid hwl
      have HTO := Lib.hid fun (W : World) (hW : Below w.heap.size w W) => told_any F t bp bc l.length te tf W (cell_later hW HF0.out) h1 h2 hte2 htf2 hl (by omega)
      have HTH := Lib.hid (tol_has HHAS.out h1 hl)
      have HTN := Lib.hid fun h => tol_none (e := te) h3 h
      have X4' : Hid (Below N w0 W1) := Lib.hid (HW.out.trans (X4.out.mono (by have := HW.out.size; omega)))
      obtain ⟨⟨s0, s1, s2, s3, s4, s5, s6, s7, s8⟩, f0, f1, f2, f3, f4, f5, f6, f7, f8⟩ := nine_cells _ _ _ _ _ _ _ _ _ _ _ _ X3.out
      go_upto_region 3 with fail
      clear hb1 hb hte htf hef hte2 htf2 hd hwl
      go_region_law (first
        | (go_simp
           go_at_call 87
           refine (HTO.out _ (by first | exact X4.out | exact X4.out.drew | fail)).mono ?_
           rintro e w2 ⟨rfl, hb2⟩
           have hb3 : Below W1.heap.size W1 w2 := by first | exact hb2 | exact below_drew (w := W1) hb2 rfl
           have HB3 := Lib.hid hb3
           obtain ⟨⟨s0, s1, s2, s3, s4, s5, s6, s7, s8⟩, f0, f1, f2, f3, f4, f5, f6, f7, f8⟩ := nine_cells _ _ _ _ _ _ _ _ _ _ _ _ ((hb3.block _ (Array.getElem?_eq_some_iff.1 X3.out).1).trans X3.out)
           have d0 := cell_later hb3 d0
           have d1 := cell_later hb3 d1
           have d2 := cell_later hb3 d2
           have d3 := cell_later hb3 d3
           have d4 := cell_later hb3 d4
           have d5 := cell_later hb3 d5
           have d6 := cell_later hb3 d6
           have d7 := cell_later hb3 d7
           have d8 := cell_later hb3 d8
           have d9 := cell_later hb3 d9
           have HH2 : Hid (Has w2 (tolP bp bc te) (win l te tf)) := Lib.hid (HTH.out.below (by rw [hN]; exact X4'.out.trans (hb3.mono (by have := X4'.out.size; omega))))
           clear hb2 hb3)
        | (refine step_append_bytes (by rfl) _ _ _ (by rfl) (w.heap.size + 3) 5 i8 (by rfl) HI8.out HZ8.out HS8.out HB8.out _ 0 [] rfl (World.ownsRow_nil _ _ _ _) _ tf (bc - te) (win l te tf) (by rfl) HH2.out HWL.out HTN.out (by omega) (by have := HB3.out.size; have := X5.out; omega) ?_
           intro v5 w5 hown5 hgrow5
           have hb5 : Below W1.heap.size W1 w5 := HB3.out.grown hgrow5 HB3.out.size (fun k hk => by cases hk)
           have hx1 := (hb5.block _ (Array.getElem?_eq_some_iff.1 X1.out).1).trans X1.out
           have hx2 := (hb5.block _ (Array.getElem?_eq_some_iff.1 X2.out).1).trans X2.out
           have hx3 := (hb5.block _ (Array.getElem?_eq_some_iff.1 X3.out).1).trans X3.out
           have HB5 := Lib.hid hb5
           have HX1 := Lib.hid hx1
           have HX2 := Lib.hid hx2
           have HX3 := Lib.hid hx3
           have etf : tf = (dataB l t).length := by rw [HD.out, HWL.out]
           rw [List.nil_append, ← HD.out, Nat.zero_add, etf] at hown5
           clear etf
           obtain ⟨q, c, rfl, _, _, _⟩ := slice_form hown5
           have HO5 := Lib.hid hown5
           obtain ⟨⟨s0, s1, s2, s3, s4, s5, s6, s7, s8⟩, f0, f1, f2, f3, f4, f5, f6, f7, f8⟩ := nine_cells _ _ _ _ _ _ _ _ _ _ _ _ hx3
           clear hb5 hgrow5 hown5 hx1 hx2 hx3)
        | fail)
      all_goals
        go_wp2_with fail
        go_meet
        have hsz : w.heap.size + 3 ≤ w5.heap.size := by have := HB5.out.size; have := X5.out; omega
        refine ⟨q, c, ?_, ?_, heap_setCell_same _ _ _ _ _ _ HX3.out, ((X4.out.trans (HB5.out.mono (by have := X5.out; omega))).setCell (by simp; omega) _), by simpa using hsz, (FrT.set (N := 0) (Ts := [48]) HX3.out (by simp) (Nat.zero_le _) _).owns HO5.out (by decide)⟩
        · rw [heap_setCell_other _ _ _ _ (by simp; omega)]
          exact HX1.out
        · rw [heap_setCell_other _ _ _ _ (by simp)]
          exact HX2.out
  case rest =>
    obtain ⟨q, c, x1, x2, x3, hbx, hsx, hox⟩ := hcut
    obtain ⟨d0, d1, d2, d3, d4, d5, d6, d7, d8, d9⟩ := cells_ten _ _ _ _ _ _ _ _ _ _ _ _ _ x1
    obtain ⟨⟨r0, r1, r2, r3, r4, r5, r6, r7, r8⟩, p0, p1, p2, p3, p4, p5, p6, p7, p8⟩ := nine_cells _ _ _ _ _ _ _ _ _ _ _ _ x2
    obtain ⟨⟨s0, s1, s2, s3, s4, s5, s6, s7, s8⟩, f0, f1, f2, f3, f4, f5, f6, f7, f8⟩ := nine_cells _ _ _ _ _ _ _ _ _ _ _ _ x3
    have X1' := Lib.hid x1
    have X2' := Lib.hid x2
    have X3' := Lib.hid x3
    have HBX := Lib.hid hbx
    have HOX := Lib.hid hox
    clear x1 x2 x3 hbx hox
    cases hh : (t.h != 0) with
    | true =>
      have hE : Hid (res = none) := Lib.hid (by rw [HRS.out, hh]; rfl)
      go_wp2_with fail
      obtain ⟨y1, y2⟩ := nine_set (.string ⟨#[]⟩) (.int .i64 0) (.int .i64 0) (.int .i64 0) (.int .i64 0) (.int .i64 0) (.int .i64 0) (.slice none 0 0) (.slice none 0 0) (Nat.le_succ w.heap.size) X2'.out
      refine bodyPost_ret (results_sec rfl _ _ _ _ _ _ _ _ _ _ _ _ _ (by rfl) (by rfl) y1) rfl ⟨?_, ?_⟩
      · exact HBX.out.trans (y2.below (by omega))
      · rw [hE.out]
        exact ⟨⟨ByteArray.empty, 0, 0, 0, 0, 0, 0, [], []⟩, _, _, _, rfl⟩
    | false =>
      have htc := (fitsB_iff _).1 (HM.out t.c (by simp [Ten.l]))
      have htg := (fitsB_iff _).1 (HM.out t.g (by simp [Ten.l]))
      obtain ⟨tg, htg2⟩ := Int.eq_ofNat_of_zero_le htg.1
      have hfo : hasO t.c 128 = hasF t.c 128 := hasO_eq (fl := t.c) 7 (by decide) htc.1 (by omega)
      have hE1 := HRS.out
      have hh0 : t.h = 0 := by simpa using hh
      rw [hh, ← hfo, htg2] at hE1
      have HSX := Lib.hid (HSO.out wc HBX.out tg)
      rw [htg2] at d6
      unfold hasO at hE1
      have HE1 := Lib.hid hE1
      clear htc htg htg2 hfo hE1 hh
      go_upto_if 36 with fail
      clear hh0
      by_cases hf : bits .and .i64 t.c 128 = 0
      · have hE2 : Hid (res = bif (tg : Int) == 0 then some ⟨ByteArray.empty, t.b, t.c, al, t.j, 0, t.f, dataB l t, []⟩ else none) := Lib.hid (by rw [HE1.out, show (bits .and .i64 t.c 128 != 0) = false by simp [bne, hf]]; rfl)
        go_upto_region 7 with fail
        clear hf
        go_region
        go_wp2_with fail
        obtain ⟨y1, y2⟩ := nine_set (.string ⟨#[]⟩) (.int .i64 t.b) (.int .i64 t.c) (.int .i64 al) (.int .i64 t.j) (.int .i64 0) (.int .i64 t.f) (.slice q (dataB l t).length c) (.slice none 0 0) (Nat.le_succ w.heap.size) X2'.out
        refine bodyPost_ret (results_sec_drew rfl _ _ _ _ _ _ _ _ _ _ _ _ _ (by rfl) (by rfl) y1) rfl ⟨?_, ?_⟩
        · exact HBX.out.trans (y2.below (by omega)).drew
        · rw [hE2.out]
          cases hg0 : ((tg : Int) == 0) with
          | false => exact ⟨⟨ByteArray.empty, t.b, t.c, al, t.j, 0, t.f, [], []⟩, q, _, c, rfl⟩
          | true => exact ⟨q, c, rfl, (owns_lower (y2.owns HOX.out (by decide)) (by omega)).drew⟩
      · have hE2 : Hid (res = bif ns[tg]?.getD 0 != 0 then some ⟨ByteArray.empty, t.b, t.c, al, t.j, ns[tg]?.getD 0, t.f, dataB l t, []⟩ else none) := Lib.hid (by rw [HE1.out, show (bits .and .i64 t.c 128 != 0) = true by simpa using hf]; rfl)
        generalize ns[tg]?.getD 0 = lk at *
        go_upto_region 9 with (first | (go_at_call 93; refine HSX.out.mono ?_; rintro e w' ⟨rfl, rfl⟩) | fail)
        clear hf
        have z3 := heap_setCell_same wc (w.heap.size + 1 + 1) 5 _ _ (.int .i64 lk) X3'.out
        have z2 : (wc.setCell ⟨w.heap.size + 1 + 1, 5, none⟩ (.int .i64 lk)).heap[w.heap.size + 1]? = _ := (heap_setCell_other _ _ _ _ (by simp)).trans X2'.out
        have zo := (FrT.set (N := 0) (Ts := [48]) (i := 5) X3'.out (by simp) (Nat.zero_le _) (.int .i64 lk)).owns HOX.out (by decide)
        have zb : Below w.heap.size w (wc.setCell ⟨w.heap.size + 1 + 1, 5, none⟩ (.int .i64 lk)) := HBX.out.setCell (by simp; omega) _
        generalize wc.setCell ⟨w.heap.size + 1 + 1, 5, none⟩ (.int .i64 lk) = W2 at *
        have Z2 := Lib.hid z2
        have Z3 := Lib.hid z3
        have ZO := Lib.hid zo
        have ZB := Lib.hid zb
        clear r0 r1 r2 r3 r4 r5 r6 r7 r8 p0 p1 p2 p3 p4 p5 p6 p7 p8 s0 s1 s2 s3 s4 s5 s6 s7 s8 f0 f1 f2 f3 f4 f5 f6 f7 f8 d0 d1 d2 d3 d4 d5 d6 d7 d8 d9
        obtain ⟨⟨r0, r1, r2, r3, r4, r5, r6, r7, r8⟩, p0, p1, p2, p3, p4, p5, p6, p7, p8⟩ := nine_cells _ _ _ _ _ _ _ _ _ _ _ _ z2
        obtain ⟨⟨s0, s1, s2, s3, s4, s5, s6, s7, s8⟩, f0, f1, f2, f3, f4, f5, f6, f7, f8⟩ := nine_cells _ _ _ _ _ _ _ _ _ _ _ _ z3
        clear z2 z3 zo zb
        go_region
        go_wp2_with fail
        obtain ⟨y1, y2⟩ := nine_set (.string ⟨#[]⟩) (.int .i64 t.b) (.int .i64 t.c) (.int .i64 al) (.int .i64 t.j) (.int .i64 lk) (.int .i64 t.f) (.slice q (dataB l t).length c) (.slice none 0 0) (Nat.le_succ w.heap.size) Z2.out
        refine bodyPost_ret (results_sec_drew rfl _ _ _ _ _ _ _ _ _ _ _ _ _ (by rfl) (by rfl) y1) rfl ⟨?_, ?_⟩
        · exact ZB.out.trans (y2.below (by have := ZB.out.size; omega)).drew
        · rw [hE2.out]
          cases hg0 : (lk != 0) with
          | false => exact ⟨⟨ByteArray.empty, t.b, t.c, al, t.j, lk, t.f, [], []⟩, q, _, c, rfl⟩
          | true => exact ⟨q, c, rfl, (owns_lower (y2.owns ZO.out (by decide)) (by omega)).drew⟩
end Go.Proofs.YtenmcmnhiejbgaaGreat

namespace Go.Proofs.YtenmcmnhiejbgaaGreat
open Go.RowKit

theorem flat_get {α : Type} {k : Nat} {f : α → List Value} (hk : ∀ x, (f x).length = k) : ∀ (xs : List α) (i : Nat) (x : α) (j : Nat) (u : Value), xs[i]? = some x → (f x)[j]? = some u → (xs.flatMap f)[i * k + j]? = some u
  | [], i, x, j, u, h, _ => by simp at h
  | y :: xs, 0, x, j, u, h, hj => by
    simp at h
    subst h
    rw [List.flatMap_cons, Nat.zero_mul, Nat.zero_add, List.getElem?_append_left (List.getElem?_eq_some_iff.1 hj).1]
    exact hj
  | y :: xs, i + 1, x, j, u, h, hj => by
    have := flat_get hk xs i x j u (by simpa using h) hj
    rw [List.flatMap_cons, List.getElem?_append_right (by rw [hk y, Nat.succ_mul]; omega), hk y, show (i + 1) * k + j - k = i * k + j by rw [Nat.succ_mul]; omega]
    exact this
theorem flat_snoc {α : Type} (f : α → List Value) (xs : List α) (x : α) : (xs ++ [x]).flatMap f = xs.flatMap f ++ f x := by simp
/-- A row of elements is a slice of them. -/
theorem isL_rows {α β : Type} {k : Nat} {E : World → Nat → Nat → β → Prop} {f : α → List Value} {g : α → β} (hk : ∀ x, (f x).length = k) {w : World} {B : Nat} {T : TypeId} {v : Value} {xs : List α} (h : w.ownsRow B T k v xs.length (xs.flatMap f))
    (hE : ∀ x ∈ xs, ∀ b o, (∀ j u, (f x)[j]? = some u → w.cell? ⟨b, o + j, none⟩ = some u) → E w b o (g x)) : IsL k E w v (xs.map g) := by
  rcases h.2 with ⟨rfl, h0⟩ | ⟨b, cap, cur, rfl, hb, hg, h1, h2, h3, h4⟩
  · have : xs = [] := List.length_eq_zero_iff.1 h0
    subst this
    exact ⟨none, 0, rfl, Nat.le_refl _, Nat.zero_le _, fun _ => rfl, fun i x hx => by simp at hx⟩
  · refine ⟨some ⟨b, 0, none⟩, cap, by rw [List.length_map], by rw [List.length_map]; exact h1, h2, (fun h => by cases h), fun i y hy => ⟨b, 0, rfl, ?_⟩⟩
    rw [List.getElem?_map] at hy
    cases hx : xs[i]? with
    | none => rw [hx] at hy; cases hy
    | some x =>
      rw [hx] at hy
      cases hy
      have hi := (List.getElem?_eq_some_iff.1 hx).1
      refine hE x (List.mem_of_getElem? hx) b (0 + i * k) fun j u hj => ?_
      have hjk : j < k := by rw [← hk x]; exact (List.getElem?_eq_some_iff.1 hj).1
      have hlt : i * k + j < xs.length * k := by
        have : (i + 1) * k ≤ xs.length * k := Nat.mul_le_mul_right k hi
        rw [Nat.succ_mul] at this
        omega
      have hf := flat_get hk xs i x j u hx hj
      rw [Nat.zero_add]
      refine (cell_of_row w b (i * k + j) cur T (0, 0) hg).trans ?_
      rw [← h4, List.getElem?_take, if_pos hlt] at hf
      simpa using hf
/-- A row's cell, at its own address. -/
theorem row_cell {α : Type} {k : Nat} {f : α → List Value} (hk : ∀ x, (f x).length = k) {w : World} {B b cap n : Nat} {T : TypeId} {xs : List α} (h : w.ownsRow B T k (.slice (some ⟨b, 0, none⟩) n cap) n (xs.flatMap f)) {i j : Nat} {x : α} {u : Value} (hx : xs[i]? = some x) (hj : (f x)[j]? = some u) (hn : xs.length = n) : w.cell? ⟨b, i * k + j, none⟩ = some u := by
  have hi := (List.getElem?_eq_some_iff.1 hx).1
  have hjk : j < k := by rw [← hk x]; exact (List.getElem?_eq_some_iff.1 hj).1
  have hlt : i * k + j < n * k := by
    subst hn
    have : (i + 1) * k ≤ xs.length * k := Nat.mul_le_mul_right k hi
    rw [Nat.succ_mul] at this
    omega
  rw [h.cellAt (i * k + j) hlt]
  exact flat_get hk xs i x j u hx hj

/-! ## What is read -/
def i64bd (x : Int) : Prop := -9223372036854775808 ≤ x ∧ x ≤ 9223372036854775807
def relC (r : RelD) : List Value := [.int .i64 r.off, .int .i64 r.type, .int .i64 r.sym, .int .i64 r.add]
def RelD.bd (r : RelD) : Prop := i64bd r.off ∧ i64bd r.type ∧ i64bd r.sym ∧ i64bd r.add
theorem isL_rels {w : World} {B : Nat} {T : TypeId} {v : Value} {l : List RelD} (h : w.ownsRow B T 4 v l.length (l.flatMap relC)) (hb : ∀ r ∈ l, r.bd) : IsL 4 ERel w v l := by
  have := isL_rows (k := 4) (f := relC) (g := id) (E := ERel) (fun _ => rfl) h (fun x hx b o hc => by
    obtain ⟨b0, b1, b2, b3⟩ := hb x hx
    exact ⟨⟨hc 0 _ rfl, b0⟩, ⟨hc 1 _ rfl, b1⟩, ⟨hc 2 _ rfl, b2⟩, ⟨hc 3 _ rfl, b3⟩⟩)
  simpa using this
/-- A section as it lies: its numbers, its data's slice, its relocations' slice. -/
structure SecV where
  (s : SecD)
  (d r : Value)
def SecV.cells (x : SecV) : List Value := [.string x.s.name, .int .i64 x.s.type, .int .i64 x.s.flags, .int .i64 x.s.align, .int .i64 x.s.ent, .int .i64 x.s.link, .int .i64 x.s.size, x.d, x.r]
def SecD.bd (s : SecD) : Prop := s.name.size ≤ maxLen ∧ i64bd s.type ∧ i64bd s.flags ∧ i64bd s.align ∧ i64bd s.ent ∧ i64bd s.link ∧ i64bd s.size ∧ ∀ r ∈ s.rels, r.bd
/-- Its data, and its relocations, lie in memory from block N on. -/
def SecV.ok (x : SecV) (N : Nat) (w : World) : Prop := w.ownsRow N 5 1 x.d x.s.data.length (x.s.data.map u8v) ∧ w.ownsRow N 89 4 x.r x.s.rels.length (x.s.rels.flatMap relC) ∧ x.s.bd
theorem SecV.ok.fr {x : SecV} {N M : Nat} {Ts : List TypeId} {w w' : World} (h : x.ok N w) (hf : FrT M Ts w w') (h1 : 5 ∉ Ts) (h2 : 89 ∉ Ts) : x.ok N w' := ⟨hf.owns h.1 h1, hf.owns h.2.1 h2, h.2.2⟩
theorem SecV.ok.lower {x : SecV} {N M : Nat} {w : World} (h : x.ok N w) (hM : M ≤ N) : x.ok M w := ⟨owns_lower h.1 hM, owns_lower h.2.1 hM, h.2.2⟩
theorem flat_u8 : ∀ l : List UInt8, l.flatMap (fun x => [u8v x]) = l.map u8v
  | [] => rfl
  | a :: l => by rw [List.flatMap_cons, flat_u8 l]; rfl
theorem isL_bytes {w : World} {B : Nat} {T : TypeId} {v : Value} {l : List UInt8} (h : w.ownsRow B T 1 v l.length (l.map u8v)) : IsL 1 EByte w v l := by
  have := isL_rows (k := 1) (f := fun x : UInt8 => [u8v x]) (g := id) (E := EByte) (fun _ => rfl) (xs := l) (by rw [show l.flatMap (fun x => [u8v x]) = l.map u8v from flat_u8 l]; exact h) (fun x hx b o hc => hc 0 _ rfl)
  simpa using this
theorem isL_secs {w : World} {B N : Nat} {T : TypeId} {v : Value} {l : List SecV} (h : w.ownsRow B T 9 v l.length (l.flatMap SecV.cells)) (ho : ∀ x ∈ l, x.ok N w) : IsL 9 ESec w v (l.map SecV.s) :=
  isL_rows (k := 9) (f := SecV.cells) (fun _ => rfl) h (fun x hx b o hc => by
    obtain ⟨h1, h2, b0, b1, b2, b3, b4, b5, b6, b8⟩ := ho x hx
    exact ⟨⟨hc 0 _ rfl, b0⟩, ⟨hc 1 _ rfl, b1⟩, ⟨hc 2 _ rfl, b2⟩, ⟨hc 3 _ rfl, b3⟩, ⟨hc 4 _ rfl, b4⟩, ⟨hc 5 _ rfl, b5⟩, ⟨hc 6 _ rfl, b6⟩, ⟨x.d, hc 7 _ rfl, isL_bytes h1⟩, ⟨x.r, hc 8 _ rfl, isL_rels h2 b8⟩⟩)
def symC (s : SymD) : List Value := [.string s.name, .int .i64 s.bind, .int .i64 s.type, .int .i64 s.sec, .int .i64 s.value, .int .i64 s.size]
def SymD.bd (s : SymD) : Prop := s.name.size ≤ maxLen ∧ i64bd s.bind ∧ i64bd s.type ∧ i64bd s.sec ∧ i64bd s.value ∧ i64bd s.size
theorem isL_syms {w : World} {B : Nat} {T : TypeId} {v : Value} {l : List SymD} (h : w.ownsRow B T 6 v l.length (l.flatMap symC)) (hb : ∀ s ∈ l, s.bd) : IsL 6 ESym w v l := by
  have := isL_rows (k := 6) (f := symC) (g := id) (E := ESym) (fun _ => rfl) h (fun x hx b o hc => by
    obtain ⟨b0, b1, b2, b3, b4, b5⟩ := hb x hx
    exact ⟨⟨hc 0 _ rfl, b0⟩, ⟨hc 1 _ rfl, b1⟩, ⟨hc 2 _ rfl, b2⟩, ⟨hc 3 _ rfl, b3⟩, ⟨hc 4 _ rfl, b4⟩, ⟨hc 5 _ rfl, b5⟩⟩)
  simpa using this
def intC (x : Int) : List Value := [.int .i64 x]
theorem flat_int : ∀ l : List Int, l.flatMap intC = l.map (Value.int .i64)
  | [] => rfl
  | a :: l => by rw [List.flatMap_cons, flat_int l]; rfl
theorem isL_ints {w : World} {B : Nat} {T : TypeId} {v : Value} {l : List Int} (h : w.ownsRow B T 1 v l.length (l.map (Value.int .i64))) (hb : ∀ x ∈ l, i64bd x) : IsL 1 EInt w v l := by
  have := isL_rows (k := 1) (g := id) (E := EInt) (f := intC) (fun _ => rfl) (by rw [flat_int]; exact h) (fun x hx b o hc => ⟨hc 0 _ rfl, hb x hx⟩)
  simpa using this
/-- A group as it lies: its symbol, its members' slice. -/
structure GroupV where
  (g : GroupD)
  (m : Value)
def GroupV.cells (x : GroupV) : List Value := [.int .i64 x.g.sym, x.m]
def GroupV.ok (x : GroupV) (N : Nat) (w : World) : Prop := w.ownsRow N 3 1 x.m x.g.members.length (x.g.members.map (Value.int .i64)) ∧ i64bd x.g.sym ∧ ∀ y ∈ x.g.members, i64bd y
theorem GroupV.ok.fr {x : GroupV} {N M : Nat} {Ts : List TypeId} {w w' : World} (h : x.ok N w) (hf : FrT M Ts w w') (h1 : 3 ∉ Ts) : x.ok N w' := ⟨hf.owns h.1 h1, h.2⟩
theorem GroupV.ok.lower {x : GroupV} {N M : Nat} {w : World} (h : x.ok N w) (hM : M ≤ N) : x.ok M w := ⟨owns_lower h.1 hM, h.2⟩
theorem isL_groups {w : World} {B N : Nat} {T : TypeId} {v : Value} {l : List GroupV} (h : w.ownsRow B T 2 v l.length (l.flatMap GroupV.cells)) (ho : ∀ x ∈ l, x.ok N w) : IsL 2 EGroup w v (l.map GroupV.g) :=
  isL_rows (k := 2) (f := GroupV.cells) (fun _ => rfl) h (fun x hx b o hc => by
    obtain ⟨h1, b0, b1⟩ := ho x hx
    exact ⟨⟨hc 0 _ rfl, b0⟩, x.m, hc 1 _ rfl, isL_ints h1 b1⟩)
end Go.Proofs.YtenmcmnhiejbgaaGreat

namespace Go.Proofs.YtenmcmnhiejbgaaGreat
open Go.RowKit

def isSecT (t : Ten) : Bool := (t.b == 1) || (t.b == 8)
def cntS (L : List Ten) : Nat := (L.filter isSecT).length
/-- Of each header the number of the section that it is; 0: it is none. -/
def numGo : Nat → List Ten → List Int
  | _, [] => []
  | m, t :: r => bif isSecT t then ((m + 1 : Nat) : Int) :: numGo (m + 1) r else 0 :: numGo m r
theorem numGo_length : ∀ (m : Nat) (L : List Ten), (numGo m L).length = L.length
  | _, [] => rfl
  | m, t :: r => by
    unfold numGo
    cases isSecT t with
    | true => show (_ :: numGo (m + 1) r).length = _; rw [List.length_cons, numGo_length (m + 1) r]; rfl
    | false => show (_ :: numGo m r).length = _; rw [List.length_cons, numGo_length m r]; rfl
theorem cntS_cons (t : Ten) (r : List Ten) : cntS (t :: r) = (bif isSecT t then 1 else 0) + cntS r := by
  unfold cntS
  rw [List.filter_cons]
  cases isSecT t with
  | true => simp; omega
  | false => simp
theorem cntS_snoc (r : List Ten) (t : Ten) : cntS (r ++ [t]) = cntS r + (bif isSecT t then 1 else 0) := by
  unfold cntS
  rw [List.filter_append, List.length_append, List.filter_cons]
  cases isSecT t <;> simp
theorem cntS_le (L : List Ten) : cntS L ≤ L.length := List.length_filter_le _ _
theorem numGo_snoc : ∀ (m : Nat) (L : List Ten) (t : Ten), numGo m (L ++ [t]) = numGo m L ++ [bif isSecT t then ((m + cntS L + 1 : Nat) : Int) else 0]
  | m, [], t => by
    show numGo m [t] = [] ++ [bif isSecT t then ((m + 0 + 1 : Nat) : Int) else 0]
    unfold numGo
    cases isSecT t <;> rfl
  | m, x :: r, t => by
    rw [List.cons_append, cntS_cons]
    unfold numGo
    cases hx : isSecT x with
    | true =>
      show _ :: numGo (m + 1) (r ++ [t]) = (_ :: numGo (m + 1) r) ++ _
      rw [numGo_snoc (m + 1) r t, List.cons_append]
      simp only [cond_true, show m + 1 + cntS r + 1 = m + (1 + cntS r) + 1 by omega]
    | false =>
      show _ :: numGo m (r ++ [t]) = (_ :: numGo m r) ++ _
      rw [numGo_snoc m r t, List.cons_append]
      simp only [cond_false, Nat.zero_add]
/-- The numbers of the first k headers, and zeros. -/
def numRow (L : List Ten) (k : Nat) : List Int := numGo 0 (L.take k) ++ List.replicate (L.length - k) 0
theorem numRow_zero (L : List Ten) : numRow L 0 = List.replicate L.length 0 := rfl
theorem numRow_all (L : List Ten) : numRow L L.length = numGo 0 L := by simp [numRow]
theorem numRow_len (L : List Ten) {k : Nat} (hk : k ≤ L.length) : (numRow L k).length = L.length := by
  unfold numRow
  rw [List.length_append, numGo_length, List.length_take, List.length_replicate]
  omega
theorem take_snoc {α : Type} {L : List α} {k : Nat} {t : α} (h : L[k]? = some t) : L.take (k + 1) = L.take k ++ [t] := by
  rw [List.take_add_one, h]
  rfl
theorem numRow_yes {L : List Ten} {k : Nat} {t : Ten} (h : L[k]? = some t) (hs : isSecT t = true) : (numRow L k).set k ((cntS (L.take k) + 1 : Nat) : Int) = numRow L (k + 1) := by
  have hl := (List.getElem?_eq_some_iff.1 h).1
  have hA : (numGo 0 (L.take k)).length = k := by rw [numGo_length, List.length_take]; omega
  unfold numRow
  rw [take_snoc h, numGo_snoc, hs, show L.length - k = (L.length - (k + 1)) + 1 by omega, List.replicate_succ, List.set_append_right _ _ (by omega), hA, Nat.sub_self, List.append_assoc]
  simp
theorem numRow_no {L : List Ten} {k : Nat} {t : Ten} (h : L[k]? = some t) (hs : isSecT t = false) : numRow L (k + 1) = numRow L k := by
  have hl := (List.getElem?_eq_some_iff.1 h).1
  unfold numRow
  rw [take_snoc h, numGo_snoc, hs, show L.length - k = (L.length - (k + 1)) + 1 by omega, List.replicate_succ, List.append_assoc]
  rfl
theorem numGo_bd {L : List Ten} : ∀ (m : Nat), ∀ n ∈ numGo m L, 0 ≤ n ∧ n ≤ ((m + L.length : Nat) : Int) := by
  induction L with
  | nil => intro m n h; simp [numGo] at h
  | cons t r ih =>
    intro m n h
    unfold numGo at h
    rw [List.length_cons]
    cases hs : isSecT t with
    | true =>
      rw [hs] at h
      rcases List.mem_cons.1 (show n ∈ ((m + 1 : Nat) : Int) :: numGo (m + 1) r from h) with rfl | h
      · omega
      · have := ih (m + 1) n h; omega
    | false =>
      rw [hs] at h
      rcases List.mem_cons.1 (show n ∈ (0 : Int) :: numGo m r from h) with rfl | h
      · omega
      · have := ih m n h; omega

/-- The sections of the headers from number i on, behind those that there are. -/
def secGo (l : List UInt8) (ns : List Int) (names : List ByteArray) : Nat → List Ten → List SecD → Option (List SecD)
  | _, [], acc => some acc
  | i, t :: r, acc => bif ns[i]?.getD 0 == 0 then secGo l ns names (i + 1) r acc else match secB l ns t with
    | none => none
    | some s => secGo l ns names (i + 1) r (acc ++ [{ s with name := names[i]?.getD ByteArray.empty }])
def secsB (l : List UInt8) (L : List Ten) (names : List ByteArray) : Option (List SecD) := secGo l (numGo 0 L) names 0 L []
theorem secGo_step {l : List UInt8} {ns : List Int} {names : List ByteArray} {acc : List SecD} {L : List Ten} {k : Nat} {t : Ten} (h : L[k]? = some t) : secGo l ns names k (L.drop k) acc = bif ns[k]?.getD 0 == 0 then secGo l ns names (k + 1) (L.drop (k + 1)) acc else match secB l ns t with
    | none => none
    | some s => secGo l ns names (k + 1) (L.drop (k + 1)) (acc ++ [{ s with name := names[k]?.getD ByteArray.empty }]) := by
  have hl := (List.getElem?_eq_some_iff.1 h).1
  rw [List.drop_eq_getElem_cons hl, (List.getElem?_eq_some_iff.1 h).2]
  rfl
theorem fits_bd {x : Int} (h : 0 ≤ x ∧ x ≤ 2147483647) : i64bd x := ⟨by omega, by omega⟩
theorem secB_bd {l : List UInt8} {ns : List Int} {t : Ten} {s : SecD} {nm : ByteArray} (hm : t.may) (hn : ∀ n ∈ ns, 0 ≤ n ∧ n ≤ 100000) (hz : nm.size ≤ maxLen) (h : secB l ns t = some s) : SecD.bd { s with name := nm } ∧ s.rels = [] := by
  have hb := (fitsB_iff _).1 (hm t.b (by simp [Ten.l]))
  have hc := (fitsB_iff _).1 (hm t.c (by simp [Ten.l]))
  have hf := (fitsB_iff _).1 (hm t.f (by simp [Ten.l]))
  have hi := (fitsB_iff _).1 (hm t.i (by simp [Ten.l]))
  have hj := (fitsB_iff _).1 (hm t.j (by simp [Ten.l]))
  have hal : i64bd (if t.i < 1 then 1 else t.i) := by split <;> constructor <;> omega
  have hnb : i64bd (ns[t.g.toNat]?.getD 0) := by
    cases hg : ns[t.g.toNat]? with
    | none => exact ⟨by decide, by decide⟩
    | some n => have := hn n (List.mem_of_getElem? hg); exact ⟨by show _ ≤ n; omega, by show n ≤ _; omega⟩
  unfold secB at h
  cases h1 : (t.h != 0) with
  | true => rw [h1] at h; cases h
  | false =>
    rw [h1] at h
    cases h2 : hasF t.c 128 with
    | true =>
      rw [h2] at h
      cases h3 : (ns[t.g.toNat]?.getD 0 != 0) with
      | false => rw [h3] at h; cases h
      | true =>
        rw [h3] at h
        cases h
        exact ⟨⟨hz, fits_bd hb, fits_bd hc, hal, fits_bd hj, hnb, fits_bd hf, fun r hr => by cases hr⟩, rfl⟩
    | false =>
      rw [h2] at h
      cases h3 : (t.g == 0) with
      | false => rw [h3] at h; cases h
      | true =>
        rw [h3] at h
        cases h
        exact ⟨⟨hz, fits_bd hb, fits_bd hc, hal, fits_bd hj, (show i64bd (0 : Int) from ⟨by decide, by decide⟩), fits_bd hf, fun r hr => by cases hr⟩, rfl⟩
/-- What a header tells lies within the bytes, if it isn't of NoBits. -/
theorem heads_in {n : Nat} {L : List Ten} (h : HeadsOK n L) {i : Nat} {t : Ten} (ht : L[i]? = some t) (h8 : t.b ≠ 8) : t.e + t.f ≤ (n : Int) := by
  obtain ⟨hm, hh⟩ := h i t ht
  unfold headMay at hh
  cases hi : (i == 0) with
  | true =>
    rw [hi] at hh
    have hz : zeroT t = true := hh
    unfold zeroT at hz
    simp only [Bool.and_eq_true, beq_iff_eq] at hz
    omega
  | false =>
    rw [hi, show (t.b == 8) = false by simpa using h8] at hh
    cases ht2 : tyOK t.b with
    | false => rw [ht2] at hh; cases hh
    | true =>
      rw [ht2] at hh
      have hz : ((t.d == 0) && decide (t.e + t.f ≤ (n : Int))) = true := hh
      simp only [Bool.and_eq_true, decide_eq_true_eq] at hz
      exact hz.2
theorem sec_cells_one (x : SecV) (hd : x.d.oneCell' = true) (hr : x.r.oneCell' = true) : ∀ u ∈ x.cells, u.oneCell' = true := fun u hu => by
  simp only [SecV.cells, List.mem_cons, List.not_mem_nil, or_false] at hu
  rcases hu with rfl | rfl | rfl | rfl | rfl | rfl | rfl | rfl | rfl
  all_goals first | rfl | exact hd | exact hr
theorem FrT.setNew {N : Nat} {Ts : List TypeId} {w w1 : World} {g i : Nat} (h : FrT N Ts w w1) (hg : w.heap.size ≤ g) (v : Value) : FrT N Ts w (w1.setCell ⟨g, i, none⟩ v) :=
  ⟨h.os, h.tape, h.output, by simpa using h.size, fun k o hk ht => by
    have hlt := (Array.getElem?_eq_some_iff.1 hk).1
    rw [heap_setCell_other w1 ⟨g, i, none⟩ k v (by simp; omega)]
    exact h.block k o hk ht⟩
theorem Tryz.infoSec : (Tryz.prog.info? 48).map (fun i => (i.zero, i.size, i.bytes)) = some (some (.agg #[.string ⟨#[]⟩, .int .i64 0, .int .i64 0, .int .i64 0, .int .i64 0, .int .i64 0, .int .i64 0, .slice none 0 0, .slice none 0 0]), 9, 112) := by kernel_rfl
/-- What readSecs gives. -/
def GivesSecs (F G N : Nat) (vb vh vn v1 v2 v3 v4 : Value) (sy : Int) (l : List UInt8) (L : List Ten) (names : List ByteArray) (w : World) (e : Ending) (w' : World) : Prop :=
  e = .returned (.bool (secsB l L names).isSome) ∧ FrT N [100, 27] w w' ∧ ∀ ss, secsB l L names = some ss → ∃ (vs v0 : Value) (svs : List SecV),
    w'.heap[F]? = some (.cells #[vb, vh, vn, vs, .int .i64 sy] 100 (0, 0)) ∧ w'.ownsRow w.heap.size 3 1 vs L.length ((numGo 0 L).map (Value.int .i64)) ∧
    w'.heap[G]? = some (.cells #[v0, v1, v2, v3, v4] 27 (0, 0)) ∧ w'.ownsRow w.heap.size 48 9 v0 svs.length (svs.flatMap SecV.cells) ∧ svs.map SecV.s = ss ∧ ∀ x ∈ svs, x.ok w.heap.size w' ∧ x.r = .slice none 0 0 ∧ x.s.rels = []
end Go.Proofs.YtenmcmnhiejbgaaGreat

namespace Go.Proofs.YtenmcmnhiejbgaaGreat
open Go.RowKit

/-- How far the digits above 127 go. -/
theorem scan : ∀ (f : Nat) (l : List UInt8), ∃ k, k ≤ f ∧ k ≤ l.length ∧ (∀ i y, i < k → l[i]? = some y → 128 ≤ y.toNat) ∧ (k = f ∨ l.length = k ∨ ∃ x, l[k]? = some x ∧ x.toNat < 128)
  | 0, l => ⟨0, Nat.le_refl _, Nat.zero_le _, fun i y h => absurd h (by omega), .inl rfl⟩
  | f + 1, [] => ⟨0, Nat.zero_le _, Nat.le_refl _, fun i y h => absurd h (by omega), .inr (.inl rfl)⟩
  | f + 1, x :: r => by
    by_cases hx : x.toNat < 128
    · exact ⟨0, Nat.zero_le _, Nat.zero_le _, fun i y h => absurd h (by omega), .inr (.inr ⟨x, rfl, hx⟩)⟩
    · obtain ⟨k, h1, h2, h3, h4⟩ := scan f r
      refine ⟨k + 1, by omega, by simpa using h2, fun i y hi hy => ?_, ?_⟩
      · match i, hy with
        | 0, hy => simp at hy; subst hy; omega
        | i + 1, hy => exact h3 i y (by omega) (by simpa using hy)
      · rcases h4 with h4 | h4 | ⟨z, hz, hz'⟩
        · exact .inl (by omega)
        · exact .inr (.inl (by simpa using h4))
        · exact .inr (.inr ⟨z, by simpa using hz, hz'⟩)

/-- What Digits tells. -/
def digV (l : List UInt8) : Nat × Nat := (digs5 l).getD (0, 0)

theorem digV_miss {l : List UInt8} {k : Nat} (h : k = 5 ∨ l.length = k) (hk : k ≤ 5) (hb : ∀ i y, i < k → l[i]? = some y → 128 ≤ y.toNat) : digV l = (0, 0) := by
  simp [digV, digs5, digs_miss 5 k l h hk hb]
theorem digV_hit {l : List UInt8} {k : Nat} {x : UInt8} (hk : k < 5) (hb : ∀ i y, i < k → l[i]? = some y → 128 ≤ y.toNat) (hx : l[k]? = some x) (hx' : x.toNat < 128) :
    digV l = if dval (l.take (k + 1)) ≤ 2147483647 then (dval (l.take (k + 1)), k + 1) else (0, 0) := by
  have h := digs_hit 5 k l x hk hb hx hx'
  simp only [digV, digs5, h]
  split <;> rfl

theorem ret_ii {a b c d : Int} (h : a = c) (k : b = d) : Ending.returned (.tuple #[.int .i64 a, .int .i64 b]) = .returned (.tuple #[.int .i64 c, .int .i64 d]) := by rw [h, k]

theorem take_drop_comm' (l : List UInt8) (a k : Nat) : (l.take (a + k + 1)).drop a = (l.drop a).take (k + 1) := by
  rw [List.drop_take]
  congr 1
  omega

set_option maxHeartbeats 1000000 in
theorem digits_in (p : Option Addr) (len cap : Nat) (l : List UInt8) (a : Nat) (w : World) (h : Has w p l) (hlen : l.length = len) (ha : a < len) (hbig : len ≤ 1000000000) :
    Calls Tryz.prog 63 #[.slice p len cap, .int .i64 a] w fun e w' => e = .returned (.tuple #[.int .i64 ((digV (l.drop a)).1 : Int), .int .i64 ((digV (l.drop a)).2 : Int)]) ∧ w = w' := by
  obtain ⟨k, hk5, hkl, hb, hend⟩ := scan 5 (l.drop a)
  have hld : (l.drop a).length = len - a := by rw [List.length_drop, hlen]
  obtain ⟨e, he⟩ : ∃ e, e = a + k := ⟨_, rfl⟩
  have hel : e ≤ len := by omega
  have hae : a ≤ e := by omega
  have hea : e ≤ a + k := by omega
  have heg : a + k ≤ e := by omega
  obtain ⟨b, off, rfl, hcell⟩ := h.plain (by omega)
  have HC := Lib.hid hcell
  have HB := Lib.hid hb
  have HE := Lib.hid hend
  have HL := Lib.hid hlen
  have HD := Lib.hid hld
  have HK := Lib.hid he
  clear h hcell hb hend hkl hlen hld he
  go_enter Tryz.func63, Tryz.ntmps63
  go_wp2
  go_loop [6] (fun n => ∃ s : Nat, a ≤ s ∧ s ≤ e ∧ n = .int .i64 (s : Int)) (fun n => e - (intOf n).toNat)
  case atStart => exact ⟨a, Nat.le_refl _, hae, rfl⟩
  case round =>
    obtain ⟨s, hs1, hs2, rfl⟩ := hrel
    by_cases hse : s < e
    · obtain ⟨y, hy⟩ : ∃ y, l[s]? = some y := ⟨_, List.getElem?_eq_getElem (by have := HL.out; omega)⟩
      have hc := HC.out _ _ hy
      have hy1 : 128 ≤ y.toNat := HB.out (s - a) y (by omega) (by rw [List.getElem?_drop, show a + (s - a) = s by omega]; exact hy)
      have hy2 := y.toNat_lt
      have hI1 : (s : Int) < (len : Int) := by omega
      have hI2 : (s : Int) < (a : Int) + 5 := by omega
      have hI3 : (127 : Int) < (y.toNat : Int) := by omega
      clear hy
      go_wp2
      go_round
      case rel => exact ⟨s + 1, by omega, by omega, by go_num⟩
      case measure => simp [intOf]; omega
    · obtain rfl : s = e := by omega
      by_cases hq : s = len
      · have HV : Hid (digV (l.drop a) = (0, 0)) := Lib.hid (digV_miss (k := k) (.inr (by have := HD.out; have := HK.out; omega)) hk5 HB.out)
        have t1 : ((s : Int) == (len : Int)) = true := by simp; omega
        have t2 : ¬ (s : Int) < (len : Int) := by omega
        clear hq
        go_wp2
        go_ret2
        rw [HV.out]
        exact ⟨rfl, rfl⟩
      have t1 : ((s : Int) == (len : Int)) = false := by simp; omega
      have t2 : (s : Int) < (len : Int) := by omega
      by_cases hk : k = 5
      · have HV : Hid (digV (l.drop a) = (0, 0)) := Lib.hid (digV_miss (k := k) (.inl hk) hk5 HB.out)
        have t3 : ¬ (s : Int) < (a : Int) + 5 := by omega
        have t4 : ((s : Int) == (a : Int) + 5) = true := by simp; omega
        clear hq hk
        go_wp2
        go_ret2
        rw [HV.out]
        exact ⟨rfl, rfl⟩
      obtain ⟨x, hx, hx8⟩ : ∃ x, (l.drop a)[k]? = some x ∧ x.toNat < 128 := by
        rcases HE.out with h1 | h1 | h1
        · exact absurd h1 hk
        · exact absurd (show s = len by have := HD.out; have := HK.out; omega) hq
        · exact h1
      have hc := HC.out s x (by rw [List.getElem?_drop, ← HK.out] at hx; exact hx)
      have HV := Lib.hid (digV_hit (by omega) HB.out hx hx8)
      have HT : Hid ((l.take (s + 1)).drop a = (l.drop a).take (k + 1)) := Lib.hid (by rw [HK.out]; exact take_drop_comm' l a k)
      have t3 : (s : Int) < (a : Int) + 5 := by omega
      have t4 : ((s : Int) == (a : Int) + 5) = false := by simp; omega
      have t5 : ¬ (127 : Int) < (x.toNat : Int) := by omega
      clear hq hk hx
      go_wp2
      go_loop [7, 8] (fun v i => ∃ t : Int, (a : Int) - 1 ≤ t ∧ t ≤ s ∧ i = .int .i64 t ∧ v = .int .i64 (dval ((l.take (s + 1)).drop (t + 1).toNat) : Int)) (fun _ i => (intOf i + 1 - a).toNat)
      case atStart => exact ⟨s, by omega, by omega, rfl, by rw [show ((s : Int) + 1).toNat = s + 1 by omega, List.drop_of_length_le (by simp; omega)]; rfl⟩
      case round =>
        obtain ⟨t, ht1, ht2, rfl, rfl⟩ := hrel
        clear hc
        by_cases hta : (a : Int) ≤ t
        · obtain ⟨m, rfl⟩ := Int.eq_ofNat_of_zero_le (show 0 ≤ t by omega)
          obtain ⟨z, hz⟩ : ∃ z, l[m]? = some z := ⟨_, List.getElem?_eq_getElem (by have := HL.out; omega)⟩
          have hz2 : (l.take (s + 1))[m]? = some z := by rw [List.getElem?_take, if_pos (by omega)]; exact hz
          have hd := dval_drop _ m z hz2
          have hlt := dval_lt ((l.take (s + 1)).drop (m + 1))
          have hl4 : ((l.take (s + 1)).drop (m + 1)).length ≤ 4 := by simp; omega
          have h128 : 128 ^ ((l.take (s + 1)).drop (m + 1)).length ≤ 128 ^ 4 := Nat.pow_le_pow_right (by omega) hl4
          have e4 : (128 : Nat) ^ 4 = 268435456 := by decide
          have hq28 : dval ((l.take (s + 1)).drop (m + 1)) < 268435456 := by omega
          have hcz := HC.out m z hz
          have hz8 := z.toNat_lt
          have e1 : ((m : Int) + 1).toNat = m + 1 := by omega
          rw [e1]
          have HDD := Lib.hid hd
          clear hd hz hz2 hlt hl4 h128 e4 e1
          generalize dval ((l.take (s + 1)).drop (m + 1)) = q at *
          go_wp2
          go_round
          case rel =>
            refine ⟨(m : Int) - 1, by omega, by omega, rfl, ?_⟩
            have e2 : ((m : Int) - 1 + 1).toNat = m := by omega
            rw [e2, HDD.out]
            congr 1
            omega
          case measure => simp [intOf]; omega
        · have e2 : (t + 1).toNat = a := by omega
          rw [e2, HT.out]
          have HVV := HV
          clear HV HT HB HE HC HD
          generalize dval ((l.drop a).take (k + 1)) = q at *
          by_cases hq : q ≤ 2147483647
          · rw [if_pos hq] at HVV
            have hqI : ¬ (2147483647 : Int) < (q : Int) := by omega
            go_wp2
            go_ret2
            rw [HVV.out]
            exact ⟨ret_ii rfl (by omega), rfl⟩
          · rw [if_neg hq] at HVV
            have hqI : (2147483647 : Int) < (q : Int) := by omega
            go_wp2
            go_ret2
            rw [HVV.out]
            exact ⟨rfl, rfl⟩

end Go.Proofs.YtenmcmnhiejbgaaGreat
