/-
  What the walks of names and of the graph import.
  Contract of the reference's defines: does a symbol define its name?
  Contract of the reference's First: the first symbol of a Bind that defines a name, and how many there are.
-/
import Derived.Test.YthnkehdcolnegaaGreatNR02
import Derived.Test.YthnkehdcolnegaaGreatMem
import Derived.Test.YthnkehdcolnegaaGreatNR03
import Derived.OwnWalk
import Derived.LoopTactic
import Derived.Lib.Hide
import Derived.Outline
import Derived.WalkSpells
import Derived.BigQuiet
import Derived.Deep.CutBlock
import Derived.Deep.DeepCutAuto
import Derived.Deep.QuietTactic
import Derived.Deep.RegionHeld
import Derived.Deep.RegionHeld3
import Derived.Deep.RegionWith
import Derived.Deep.RegionLaw
import Derived.StillTailTactics
import Derived.Laws.ResultCell
namespace Go.Proofs.YthnkehdcolnegaaGreat
open Go.RowKit
end Go.Proofs.YthnkehdcolnegaaGreat

namespace Go.Proofs.YthnkehdcolnegaaGreat
open Go.RowKit

theorem ncells6 (w : World) (g : Nat) (v0 v1 v2 v3 v4 v5 : Value) (T : TypeId) (h : w.heap[g]? = some (.cells #[v0, v1, v2, v3, v4, v5] T (0, 0))) : w.cell? ⟨g, 0, none⟩ = some v0 ∧ w.cell? ⟨g, 1, none⟩ = some v1 ∧ w.cell? ⟨g, 2, none⟩ = some v2 ∧ w.cell? ⟨g, 3, none⟩ = some v3 ∧ w.cell? ⟨g, 4, none⟩ = some v4 ∧ w.cell? ⟨g, 5, none⟩ = some v5 := by
  refine ⟨?_, ?_, ?_, ?_, ?_, ?_⟩ <;> exact (cell_of_row _ _ _ _ _ (0, 0) h).trans rfl
abbrev symV1 (s : SymD) : Value := .agg #[.string s.name, .int .i64 s.bind, .int .i64 s.type, .int .i64 s.sec, .int .i64 s.value, .int .i64 s.size]
set_option maxRecDepth 100000 in
set_option maxHeartbeats 4000000 in
theorem rDefines_any (s : SymD) (q : Option Addr) (n c : Nat) (dr : List Bool) (w : World) (h : HasL 1 EBool w q dr) (hn : dr.length = n) (hs : -1 ≤ s.sec ∧ s.sec ≤ (n : Int)) (hnb : n ≤ 100000) :
    Calls Tryz.prog 110 #[symV1 s, .slice q n c] w fun e w' => e = .returned (.bool (definesB s dr)) ∧ Below w.heap.size w w' := by
  have hb1 : Below w.heap.size w (w.alloc (.cells #[.string s.name, .int .i64 s.bind, .int .i64 s.type, .int .i64 s.sec, .int .i64 s.value, .int .i64 s.size] 98)) := (Below.refl _ w).alloc (Nat.le_refl _) _
  obtain ⟨x0, x1, x2, x3, x4, x5⟩ := ncells6 _ _ _ _ _ _ _ _ _ (heap_alloc_new w (.cells #[.string s.name, .int .i64 s.bind, .int .i64 s.type, .int .i64 s.sec, .int .i64 s.value, .int .i64 s.size] 98))
  have hh := h.below EBool.keeps hb1
  obtain ⟨res, hres⟩ : ∃ res, res = definesB s dr := ⟨_, rfl⟩
  rw [← hres]
  have HRES := Lib.hid hres
  have HH := Lib.hid hh
  have HN := Lib.hid hn
  clear h hres hh hn
  go_enter Tryz.func110, Tryz.ntmps110
  go_upto_region 1 with fail
  generalize w.alloc (.cells #[.string s.name, .int .i64 s.bind, .int .i64 s.type, .int .i64 s.sec, .int .i64 s.value, .int .i64 s.size] 98) = w1 at *
  generalize hgb : w.heap.size = gb at *
  have HGB := Lib.hid hgb
  clear hgb
  have hr : res = bif s.bind == 0 || s.sec == 0 then false else s.sec == -1 || !(dr[(s.sec - 1).toNat]?.getD false) := HRES.out
  have HR := Lib.hid hr
  clear hr HRES
  cases h0 : (s.bind == 0) with
  | true =>
    have hE : Hid (res = false) := Lib.hid (by rw [HR.out, h0]; rfl)
    go_wp2_with fail
    go_ret
    rw [hE.out]
    exact ⟨rfl, by rw [HGB.out]; exact hb1⟩
  | false =>
    cases h1 : (s.sec == 0) with
    | true =>
      have hE : Hid (res = false) := Lib.hid (by rw [HR.out, h0, h1]; rfl)
      go_wp2_with fail
      go_ret
      rw [hE.out]
      exact ⟨rfl, by rw [HGB.out]; exact hb1⟩
    | false =>
      cases h2 : (s.sec == -1) with
      | true =>
        have hE : Hid (res = true) := Lib.hid (by rw [HR.out, h0, h1, h2]; rfl)
        go_wp2_with fail
        go_ret
        rw [hE.out]
        exact ⟨rfl, by rw [HGB.out]; exact hb1⟩
      | false =>
        have h1' : ¬ s.sec = 0 := by simpa using h1
        have h2' : ¬ s.sec = -1 := by simpa using h2
        obtain ⟨m, hm⟩ : ∃ m : Nat, s.sec = ((m + 1 : Nat) : Int) := ⟨(s.sec - 1).toNat, by omega⟩
        have hmn : m < dr.length := by rw [HN.out]; omega
        obtain ⟨b, off, d, rfl, hd, hc⟩ := HH.out.at_ hmn
        have hc : w1.cell? ⟨b, off + m * 1, none⟩ = some (.bool d) := hc
        rw [Nat.mul_one] at hc
        have hE : Hid (res = !d) := Lib.hid (by rw [HR.out, h0, h1, h2, hm, show (((m + 1 : Nat) : Int) - 1).toNat = m by omega, hd]; rfl)
        have k1 : IntKind.i64.wrap (s.sec - 1) = (m : Int) := by rw [show s.sec - 1 = (m : Int) by omega]; exact IntWalk.i64_in _ (by omega)
        have hJ : (m : Int) < (n : Int) := by omega
        have hJ0 : (0 : Int) ≤ (m : Int) := by omega
        clear hm hd h1' h2' hmn
        go_wp2_with fail
        go_ret
        rw [hE.out]
        exact ⟨rfl, by rw [HGB.out]; exact hb1⟩
end Go.Proofs.YthnkehdcolnegaaGreat

namespace Go.Proofs.YthnkehdcolnegaaGreat
open Go.RowKit

abbrev defCs (d : DefD) : Array Value := #[.string d.name, .int .i64 (d.obj : Int), .int .i64 (d.sym : Int)]
def noDef : DefD := ⟨⟨#[]⟩, 0, 0⟩
/-- What First tells of hits. -/
def hitD (name : ByteArray) (hs : List Sy) : DefD := (headD name hs).getD noDef
theorem hitD_snoc {name : ByteArray} {hs : List Sy} {x : Sy} : hitD name (hs ++ [x]) = bif hs.length == 0 then ⟨name, x.1, x.2.1⟩ else hitD name hs := by
  cases hs <;> rfl
theorem three_cells (w : World) (g : Nat) (v0 v1 v2 : Value) (T : TypeId) (h : w.heap[g]? = some (.cells #[v0, v1, v2] T (0, 0))) : (w.cell? ⟨g, 0, none⟩ = some v0 ∧ w.cell? ⟨g, 1, none⟩ = some v1 ∧ w.cell? ⟨g, 2, none⟩ = some v2) ∧ (w.frozen? ⟨g, 0, none⟩ = false ∧ w.frozen? ⟨g, 1, none⟩ = false ∧ w.frozen? ⟨g, 2, none⟩ = false) := by
  refine ⟨⟨?_, ?_, ?_⟩, ?_, ?_, ?_⟩
  all_goals first | exact (cell_of_row w g _ _ _ (0, 0) h).trans rfl | exact frozen_of_row w g _ _ _ h | fail
theorem pair_cells (w : World) (g : Nat) (v0 v1 : Value) (T : TypeId) (h : w.heap[g]? = some (.cells #[v0, v1] T (0, 0))) : (w.cell? ⟨g, 0, none⟩ = some v0 ∧ w.cell? ⟨g, 1, none⟩ = some v1) ∧ (w.frozen? ⟨g, 0, none⟩ = false ∧ w.frozen? ⟨g, 1, none⟩ = false) := by
  refine ⟨⟨?_, ?_⟩, ?_, ?_⟩
  all_goals first | exact (cell_of_row w g _ _ _ (0, 0) h).trans rfl | exact frozen_of_row w g _ _ _ h | fail
theorem set_three {w : World} {g N : Nat} {v0 v1 v2 : Value} {T : TypeId} (u0 u1 u2 : Value) (hN : N ≤ g) (h : w.heap[g]? = some (.cells #[v0, v1, v2] T (0, 0))) :
    (((w.setCell ⟨g, 0, none⟩ u0).setCell ⟨g, 1, none⟩ u1).setCell ⟨g, 2, none⟩ u2).heap[g]? = some (.cells #[u0, u1, u2] T (0, 0)) ∧ FrT N [T] w (((w.setCell ⟨g, 0, none⟩ u0).setCell ⟨g, 1, none⟩ u1).setCell ⟨g, 2, none⟩ u2) := by
  have h0 := heap_setCell_same w g 0 _ _ u0 h
  have h1 := heap_setCell_same _ g 1 _ _ u1 h0
  have h2 := heap_setCell_same _ g 2 _ _ u2 h1
  exact ⟨h2, ((FrT.set h (by simp) hN _).trans (FrT.set h0 (by simp) hN _)).trans (FrT.set h1 (by simp) hN _)⟩
theorem results_rdef {fn : Func} {p u : Tmp} (h : fn.results = #[.cell p 63, .tmp u]) (tmps : Array Value) (w : World) (g : Nat) (v0 v1 v2 b : Value) (hp : tmps.getD p undef = .pointer (some ⟨g, 0, none⟩)) (hu : tmps.getD u undef = b)
    (hg : w.heap[g]? = some (.cells #[v0, v1, v2] 63 (0, 0))) : (results fn tmps).run Tryz.prog w = .ok (.tuple #[.agg #[v0, v1, v2], b]) w := by
  obtain ⟨⟨r0, r1, r2⟩, _⟩ := three_cells _ _ _ _ _ _ hg
  rw [results_cell_tmp h, hp, hu]
  go_simp
def GivesFirst (d : DefD) (n : Nat) (w : World) (e : Ending) (w' : World) : Prop := e = .returned (.tuple #[.agg (defCs d), .int .i64 (n : Int)]) ∧ Below w.heap.size w w'
/-- What is asked of a table's first half. -/
structure DropOK (w : World) (pd : Option Addr) (l : List ObjD) (D : List (List Bool)) : Prop where
  has : HasL 1 EBools w pd D
  len : D.length = l.length
  row : ∀ i o, l[i]? = some o → (drAt D i).length = o.secs.length
theorem DropOK.below {w w' : World} {pd : Option Addr} {l : List ObjD} {D : List (List Bool)} (h : DropOK w pd l D) (hb : Below w.heap.size w w') : DropOK w' pd l D := ⟨h.has.below EBools.keeps hb, h.len, h.row⟩
set_option maxRecDepth 100000 in
set_option maxHeartbeats 8000000 in
theorem rFirst_any (p pd : Option Addr) (c cd : Nat) (vf : Value) (l : List ObjD) (D : List (List Bool)) (name : ByteArray) (bind : Int) (w : World) (h : HasL 5 EObj w p l) (hok : ∀ o ∈ l, OkD o) (hlc : l.length ≤ 1000) (hD : DropOK w pd l D) :
    Calls Tryz.prog 57 #[.slice p l.length c, .agg #[.slice pd D.length cd, vf], .string name, .int .i64 bind] w (GivesFirst (hitD name (hitsIn (allTo ObjD.syms l l.length) D name bind)) (hitsIn (allTo ObjD.syms l l.length) D name bind).length w) := by
  obtain ⟨wa, hwa⟩ : ∃ wa, wa = w.alloc (.cells #[.slice pd D.length cd, vf] 54) := ⟨_, rfl⟩
  obtain ⟨wb, hwb⟩ : ∃ wb, wb = wa.alloc (.cells #[.string ⟨#[]⟩, .int .i64 0, .int .i64 0] 63) := ⟨_, rfl⟩
  obtain ⟨w3, hw3⟩ : ∃ w3, w3 = wb.alloc (.cells #[.string ⟨#[]⟩, .int .i64 0, .int .i64 0] 63) := ⟨_, rfl⟩
  have ha : Below w.heap.size w wa := by rw [hwa]; exact (Below.refl _ w).alloc (Nat.le_refl _) _
  have hb : Below wa.heap.size wa wb := by rw [hwb]; exact (Below.refl _ wa).alloc (Nat.le_refl _) _
  have h3 : Below wb.heap.size wb w3 := by rw [hw3]; exact (Below.refl _ wb).alloc (Nat.le_refl _) _
  have sa : w.heap.size < wa.heap.size := by rw [hwa]; simp
  have sb : wa.heap.size < wb.heap.size := by rw [hwb]; simp
  have s3 : wb.heap.size < w3.heap.size := by rw [hw3]; simp
  have hA0 : wa.heap[w.heap.size]? = some (.cells #[.slice pd D.length cd, vf] 54 (0, 0)) := by rw [hwa]; exact heap_alloc_new w _
  have hB0 : wb.heap[wa.heap.size]? = some (.cells #[.string ⟨#[]⟩, .int .i64 0, .int .i64 0] 63 (0, 0)) := by rw [hwb]; exact heap_alloc_new wa _
  have hG3 : w3.heap[wb.heap.size]? = some (.cells #[.string ⟨#[]⟩, .int .i64 0, .int .i64 0] 63 (0, 0)) := by rw [hw3]; exact heap_alloc_new wb _
  have hA3 := (h3.block _ (by omega)).trans ((hb.block _ sa).trans hA0)
  have hB3 := (h3.block _ sb).trans hB0
  have hw03 : Below w.heap.size w w3 := ha.trans ((hb.trans (h3.mono hb.size)).mono ha.size)
  obtain ⟨xs, hxs⟩ : ∃ xs, xs = hitsIn (allTo ObjD.syms l l.length) D name bind := ⟨_, rfl⟩
  rw [← hxs]
  have HXS := Lib.hid hxs
  have hsa1 : wa.heap.size = w.heap.size + 1 := by rw [hwa]; simp
  rw [hsa1] at hB3 sb
  have HH := Lib.hid fun W (hW : Below w.heap.size w W) => h.below EObj.keeps hW
  have HDD := Lib.hid fun W (hW : Below w.heap.size w W) => hD.below hW
  have HOK := Lib.hid hok
  have HWA := Lib.hid hwa
  have HWB := Lib.hid hwb
  have HW3 := Lib.hid hw3
  have HA3 := Lib.hid hA3
  have HB3 := Lib.hid hB3
  have HG3 := Lib.hid hG3
  have HW03 := Lib.hid hw03
  have HSB := Lib.hid sb
  have HS3 := Lib.hid s3
  have HDL := Lib.hid hD.len
  generalize hdn : D.length = dn at *
  have HDN := Lib.hid hdn
  generalize hln : l.length = ln at *
  have HLN := Lib.hid hln
  clear h hok hD hwa hwb hw3 ha hb h3 sa sb s3 hA0 hB0 hG3 hA3 hB3 hw03 hxs hdn hln hsa1
  go_enter Tryz.func57, Tryz.ntmps57
  go_upto_region 1 with fail
  rw [← HWA.out, ← HWB.out]
  generalize hgb : w.heap.size = gb at *
  have HGB := Lib.hid hgb
  clear hgb HWA HWB
  go_upto_region 2 with fail
  rw [← HW3.out]
  clear HW3
  generalize wb.heap.size = G at *
  have hBG : gb + 1 < G := HSB.out
  have hG3s : G < w3.heap.size := HS3.out
  go_wp2_with fail
  go_loopw [11, 12, 13, 14, 15] (fun r11 r12 _ _ _ wr => ∃ (i : Nat) (hs : List Sy), i ≤ ln ∧ r12 = .int .i64 (i : Int) ∧ hs = hitsIn (allTo ObjD.syms l i) D name bind ∧ r11 = .int .i64 (hs.length : Int) ∧ hs.length ≤ 1000 * i ∧ wr.heap[G]? = some (.cells (defCs (hitD name hs)) 63 (0, 0)) ∧ Below G w3 wr) (fun _ r12 _ _ _ _ => ln - (intOf r12).toNat)
  case atStart => exact ⟨0, [], Nat.zero_le _, rfl, rfl, rfl, Nat.zero_le _, HG3.out, (Below.refl _ w3).mono (Nat.le_of_lt hG3s)⟩
  case round =>
    obtain ⟨i, hs, hi, rfl, hhs, rfl, hsl, hg, hbr⟩ := hrel
    have HHS := Lib.hid hhs
    have HG := Lib.hid hg
    clear hhs hg
    have hbw : Below gb w wr := HW03.out.trans (hbr.mono (by omega))
    by_cases hlt : i < ln
    · obtain ⟨o, ho⟩ : ∃ o, l[i]? = some o := ⟨_, List.getElem?_eq_getElem (by rw [HLN.out]; exact hlt)⟩
      have hI : (i : Int) < (ln : Int) := by omega
      have hI0 : (0 : Int) ≤ (i : Int) := by omega
      have hIL : ¬ (ln : Int) ≤ (i : Int) := by omega
      have hoo := HOK.out o (List.mem_of_getElem? ho)
      have hyl := hoo.few.2.1
      have HO := Lib.hid ho
      have HOO := Lib.hid hoo
      obtain ⟨yn, hyn⟩ : ∃ yn, yn = o.syms.length := ⟨_, rfl⟩
      rw [← hyn] at hyl
      have HYN := Lib.hid hyn
      have hh0 : hs = hitsIn (atTo ObjD.syms l i 0) D name bind := by rw [atTo_zero]; exact HHS.out
      have HH0 := Lib.hid hh0
      clear ho hoo hyn hh0
      go_wp2_with fail
      go_loopw [11, 13, 14, 15] (fun r11 r13 _ _ wr => ∃ (k : Nat) (hs : List Sy), k ≤ yn ∧ r13 = .int .i64 (k : Int) ∧ hs = hitsIn (atTo ObjD.syms l i k) D name bind ∧ r11 = .int .i64 (hs.length : Int) ∧ hs.length ≤ 1000 * i + k ∧ wr.heap[G]? = some (.cells (defCs (hitD name hs)) 63 (0, 0)) ∧ Below G w3 wr) (fun _ r13 _ _ _ => yn - (intOf r13).toNat)
      case atStart => exact ⟨0, hs, Nat.zero_le _, rfl, HH0.out, rfl, by omega, HG.out, hbr⟩
      case round =>
        obtain ⟨k, hs, hk, rfl, hhs, rfl, hsl, hg, hbr⟩ := hrel
        have HHS2 := Lib.hid hhs
        have HG2 := Lib.hid hg
        clear hhs hg hbw
        have hbw : Below gb w wr := HW03.out.trans (hbr.mono (by omega))
        obtain ⟨b, off, p0, p1, p2, p4, c0, c1, c2, c4, hpe, e0, e1, e2, _, _, _, hsy, _, _, _⟩ := objs_at (HH.out wr (by first | exact hbw | (rw [HGB.out]; exact hbw))) HO.out
        cases hpe
        rw [← HYN.out] at e1
        by_cases hlt2 : k < yn
        · obtain ⟨b1, off1, s, hpe1, hs1, ⟨f0, _⟩, ⟨f1, _⟩, ⟨f2, _⟩, ⟨f3, _⟩, ⟨f4, _⟩, ⟨f5, _⟩⟩ := hsy.at_ (i := k) (by rw [← HYN.out]; exact hlt2)
          subst hpe1
          have hK : (k : Int) < (yn : Int) := by omega
          have hK0 : (0 : Int) ≤ (k : Int) := by omega
          have hba : Below wr.heap.size wr (wr.alloc (.cells #[.string s.name, .int .i64 s.bind, .int .i64 s.type, .int .i64 s.sec, .int .i64 s.value, .int .i64 s.size] 98)) := (Below.refl _ wr).alloc (Nat.le_refl _) _
          have hsn := heap_alloc_new wr (.cells #[.string s.name, .int .i64 s.bind, .int .i64 s.type, .int .i64 s.sec, .int .i64 s.value, .int .i64 s.size] 98)
          have HS1 := Lib.hid hs1
          clear hsy hs1 e0 e2
          go_upto_region 10 with fail
          have hbws : Below gb w (wr.alloc (.cells #[.string s.name, .int .i64 s.bind, .int .i64 s.type, .int .i64 s.sec, .int .i64 s.value, .int .i64 s.size] 98)) := hbw.trans (hba.mono (by rw [← HGB.out]; exact hbw.size))
          have hbrs := hbr.trans (hba.mono (by have := (Array.getElem?_eq_some_iff.1 HG2.out).1; omega))
          have hgs := (hba.block G (Array.getElem?_eq_some_iff.1 HG2.out).1).trans HG2.out
          generalize wr.alloc (.cells #[.string s.name, .int .i64 s.bind, .int .i64 s.type, .int .i64 s.sec, .int .i64 s.value, .int .i64 s.size] 98) = ws at *
          generalize wr.heap.size = gs at *
          obtain ⟨x0, x1, x2, x3, x4, x5⟩ := ncells6 _ _ _ _ _ _ _ _ _ hsn
          have hA := (hbrs.block gb (by omega)).trans HA3.out
          obtain ⟨⟨a0, a1⟩, _⟩ := pair_cells _ _ _ _ _ hA
          have hdd := HDD.out ws (by first | exact hbws | (rw [HGB.out]; exact hbws))
          have hid : i < D.length := by rw [HDN.out, HDL.out]; exact hlt
          obtain ⟨bd, od, qd, cq, hpd, hdc, hdh⟩ := drops_at hdd.has hid
          subst hpd
          have hsm := HOO.out.sec s (List.mem_of_getElem? HS1.out)
          have hrow := hdd.row i o HO.out
          rw [← hrow] at hsm
          have hsl0 := HOO.out.few.1
          rw [← hrow] at hsl0
          have hid2 : (i : Int) < (dn : Int) := by have := HDL.out; omega
          have HDF := Lib.hid fun W (hW : Below ws.heap.size ws W) => rDefines_any s qd (drAt D i).length cq (drAt D i) W (hdh.below EBool.keeps hW) rfl hsm (by omega)
          have hst : hitsIn (atTo ObjD.syms l i (k + 1)) D name bind = hs ++ bif isHit D name bind (i, k, s) then [(i, k, s)] else [] := by
            rw [atTo_step HO.out HS1.out, hits_snoc, HHS2.out]
          have hhit : isHit D name bind (i, k, s) = (definesB s (drAt D i) && (sEq s.name name && s.bind == bind)) := rfl
          obtain ⟨df, hdf⟩ : ∃ df, df = definesB s (drAt D i) := ⟨_, rfl⟩
          rw [← hdf] at HDF hhit
          obtain ⟨hit, hhe⟩ : ∃ hit, hit = isHit D name bind (i, k, s) := ⟨_, rfl⟩
          rw [← hhe] at hst hhit
          have HST := Lib.hid hst
          have HHIT := Lib.hid hhit
          have HGS := Lib.hid hgs
          have HBRS := Lib.hid hbrs
          have HBWS := Lib.hid hbws
          generalize (drAt D i).length = rn at *
          clear hsn hA hdd hid hdh hsm hrow hsl0 hst hhit hdf hhe hba e1 f0 f1 f2 f3 f4 f5 hgs hbrs hbws
          refine wp_region_below (by kernel_rfl) (by kernel_rfl) ?_
          repeat (go_big_quiet_step (first
            | (intro hWq; go_at_call 110; refine (HDF.out _ hWq).mono ?_; rintro e w' ⟨rfl, hb⟩; exact ⟨rfl, hWq.trans (hb.mono hWq.size)⟩)
            | (intro hWq; have y0 := cell_later hWq x0; have y1 := cell_later hWq x1; have y2 := cell_later hWq x2; have y3 := cell_later hWq x3; have y4 := cell_later hWq x4; have y5 := cell_later hWq x5; have y6 := cell_later hWq a0; have y7 := cell_later hWq hdc; go_simp; first | done | rfl | exact ⟨rfl, rfl⟩ | fail)
            | fail))
          refine wpQuiet_nil ?_
          intro w9 hw9
          have hg9 := (hw9.block G (by have := (Array.getElem?_eq_some_iff.1 HGS.out).1; exact this)).trans HGS.out
          have hb9 := HBRS.out.trans (hw9.mono (by have := (Array.getElem?_eq_some_iff.1 HGS.out).1; omega))
          have HG9 := Lib.hid hg9
          have HB9 := Lib.hid hb9
          have z0 := cell_later hw9 x0
          have z1 := cell_later hw9 x1
          obtain ⟨q1, hq1⟩ : ∃ q1, q1 = sEq s.name name := ⟨_, rfl⟩
          obtain ⟨q2, hq2⟩ : ∃ q2, q2 = (s.bind == bind) := ⟨_, rfl⟩
          have hh2 := HHIT.out
          rw [← hq1, ← hq2] at hh2
          have HH2 := Lib.hid hh2
          have hq3 : (s.name.toList == name.toList) = q1 := hq1.symm
          have hq4 : (s.bind == bind) = q2 := hq2.symm
          have hq5 : (s.bind != bind) = !q2 := by unfold bne; rw [hq4]
          clear hw9 hg9 hb9 hh2 hq1 hq2 x0 x1 x2 x3 x4 x5 a0 a1 hdc hbr hbw HHIT
          go_upto_region 11 with fail
          go_cut [61] (fun s61 wx => s61 = .bool (!hit) ∧ w9 = wx)
          case first =>
            cases df with
            | false =>
              obtain rfl : hit = false := by rw [HH2.out]; rfl
              go_wp2_with fail
              go_meet
              exact ⟨rfl, rfl⟩
            | true =>
              cases q1 with
              | false =>
                obtain rfl : hit = false := by rw [HH2.out]; rfl
                go_wp2_with fail
                go_meet
                exact ⟨rfl, rfl⟩
              | true =>
                obtain rfl : hit = q2 := by rw [HH2.out]; rfl
                go_wp2_with fail
                go_meet
                exact ⟨rfl, rfl⟩
          case rest =>
            obtain ⟨rfl, rfl⟩ := hcut
            clear hq3 hq4 hq5 z0 z1
            cases hit with
            | false =>
              have hst2 : Hid (hs = hitsIn (atTo ObjD.syms l i (k + 1)) D name bind) := Lib.hid (by rw [HST.out]; simp)
              go_wp2_with fail
              go_roundw
              case rel => exact ⟨k + 1, hs, hlt2, by go_num, hst2.out, rfl, by omega, HG9.out, HB9.out⟩
              case measure => simp [intOf]; omega
            | true =>
              have hst2 : Hid (hs ++ [(i, k, s)] = hitsIn (atTo ObjD.syms l i (k + 1)) D name bind) := Lib.hid (by rw [HST.out]; rfl)
              have hll : Hid ((hs ++ [(i, k, s)]).length = hs.length + 1) := Lib.hid (by simp)
              have hyl2 : yn ≤ 1000 := hyl
              have k1 : IntKind.i64.wrap ((hs.length : Int) + 1) = ((hs.length + 1 : Nat) : Int) := by rw [show (hs.length : Int) + 1 = ((hs.length + 1 : Nat) : Int) by omega]; exact IntWalk.i64_in _ (by omega)
              cases hz : hs.length == 0 with
              | true =>
                have hz0 : hs.length = 0 := by simpa using hz
                have hz1 : ((hs.length : Int) == 0) = true := beq_iff_eq.2 (by omega)
                have hd2 : Hid (hitD name (hs ++ [(i, k, s)]) = ⟨name, i, k⟩) := Lib.hid (by rw [hitD_snoc, hz]; rfl)
                obtain ⟨⟨g0, g1, g2⟩, y0, y1, y2⟩ := three_cells _ _ _ _ _ _ HG9.out
                have hst3 := set_three (.string name) (.int .i64 (i : Int)) (.int .i64 (k : Int)) (Nat.le_refl G) HG9.out
                have HST3 := Lib.hid hst3
                have hsz : G ≤ w9.heap.size := Nat.le_of_lt (Array.getElem?_eq_some_iff.1 HG9.out).1
                clear hst3 hz hz0
                go_wp2_with fail
                go_roundw
                case rel => exact ⟨k + 1, hs ++ [(i, k, s)], hlt2, by go_num, hst2.out, by rw [hll.out]; first | rfl | go_num, by rw [hll.out]; omega, by rw [hd2.out]; exact HST3.out.1, HB9.out.trans (HST3.out.2.below hsz)⟩
                case measure => simp [intOf]; omega
              | false =>
                have hz0 : ¬ hs.length = 0 := by simpa using hz
                have hz1 : ((hs.length : Int) == 0) = false := beq_eq_false_iff_ne.2 (by omega)
                have hd2 : Hid (hitD name (hs ++ [(i, k, s)]) = hitD name hs) := Lib.hid (by rw [hitD_snoc, hz]; rfl)
                clear hz hz0
                go_wp2_with fail
                go_roundw
                case rel => exact ⟨k + 1, hs ++ [(i, k, s)], hlt2, by go_num, hst2.out, by rw [hll.out]; first | rfl | go_num, by rw [hll.out]; omega, by rw [hd2.out]; exact HG9.out, HB9.out⟩
                case measure => simp [intOf]; omega
        · have hK : ¬ (k : Int) < (yn : Int) := by omega
          have hh2 : Hid (hs = hitsIn (allTo ObjD.syms l (i + 1)) D name bind) := Lib.hid (by rw [HHS2.out, atTo_end HO.out (by rw [← HYN.out]; omega)])
          clear hsy e0 e2
          go_wp2_with fail
          go_roundw
          case rel => exact ⟨i + 1, hs, hlt, by go_num, hh2.out, rfl, by omega, HG2.out, hbr⟩
          case measure => simp [intOf]; omega
    · obtain rfl : i = ln := by omega
      have hI : ¬ (i : Int) < (i : Int) := by omega
      have hE : Hid (xs = hs) := Lib.hid (by rw [HXS.out, HHS.out])
      have hB3 := (hbr.block (gb + 1) (by omega)).trans HB3.out
      obtain ⟨⟨g0, g1, g2⟩, _⟩ := three_cells _ _ _ _ _ _ HG.out
      obtain ⟨⟨x0, x1, x2⟩, y0, y1, y2⟩ := three_cells _ _ _ _ _ _ hB3
      have hst := set_three (.string (hitD name hs).name) (.int .i64 ((hitD name hs).obj : Int)) (.int .i64 ((hitD name hs).sym : Int)) (by omega : gb ≤ gb + 1) hB3
      have HST := Lib.hid hst
      have hsz : gb ≤ wr.heap.size := by rw [← HGB.out]; exact hbw.size
      clear hst
      go_wp2_with fail
      exact bodyPost_ret (results_rdef rfl _ _ _ _ _ _ _ (by rfl) (by rfl) HST.out.1) rfl ⟨by rw [hE.out]; rfl, by first | exact hbw.trans (HST.out.2.below hsz) | (rw [HGB.out]; exact hbw.trans (HST.out.2.below hsz))⟩
end Go.Proofs.YthnkehdcolnegaaGreat
