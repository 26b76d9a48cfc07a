/-
  Parts of a proof.
-/
import Derived.Test.YteopgmieindojaaGreatGW08
import Derived.Test.YteopgmieindojaaGreatGW11
import Derived.Test.YteopgmieindojaaGreatGW12
import Derived.Test.YteopgmieindojaaGreatGW02
import Derived.Test.YteopgmieindojaaGreatGW14
namespace Go.Proofs.YteopgmieindojaaGreat
open Go.RowKit
def GivesE (es : List EdgeD) (n : Int) (w : World) (e : Ending) (w' : World) : Prop := ∃ v, e = .returned (.tuple #[v, errV n]) ∧ (n = 0 ∧ w'.ownsRow w.heap.size 92 5 v es.length (es.flatMap edgeC) ∨ n ≠ 0 ∧ v = .slice none 0 0) ∧ Below w.heap.size w w'
theorem Tryz.infoEdge : (Tryz.prog.info? 92).map (fun i => (i.zero, i.size, i.bytes)) = some (some (.agg (edgeCs eZ)), 5, 40) := by kernel_rfl
set_option maxRecDepth 100000 in
set_option maxHeartbeats 8000000 in
theorem gEdges_any (v0 v1 v2 v3 : Value) (q0 q1 q2 q3 : Option Addr) (m0 d0 m1 d1 m2 d2 m3 d3 : Nat) (hv0 : v0 = .slice q0 m0 d0) (hv1 : v1 = .slice q1 m1 d1) (hv2 : v2 = .slice q2 m2 d2) (hv3 : v3 = .slice q3 m3 d3) (i : Nat) (pr : Option Addr) (cr : Nat) (rels : List RelD) (f : RelD → EdgeD × Int) (w : World) (hr : HasL 4 ERel w pr rels) (hlen : rels.length ≤ 1000)
    (hedge : ∀ r ∈ rels, ∀ W, Below w.heap.size w W → Calls Tryz.prog 198 #[.agg #[v0, v1, v2, v3], .int .i64 (i : Int), .agg #[.int .i64 r.off, .int .i64 r.type, .int .i64 r.sym, .int .i64 r.add]] W fun e w' => e = .returned (.tuple #[.agg (edgeCs (f r).1), errV (f r).2]) ∧ Below W.heap.size W w') :
    Calls Tryz.prog 164 #[.agg #[v0, v1, v2, v3], .int .i64 (i : Int), .slice pr rels.length cr] w (GivesE (rels.map fun r => (f r).1) (firstErr (rels.map fun r => (f r).2)) w) := by
  subst hv0 hv1 hv2 hv3
  obtain ⟨i0, hi, hz0, hz1, hz2⟩ := info_parts Tryz.infoEdge
  have HI := Lib.hid hi
  have H0 := Lib.hid hz0
  have H1 := Lib.hid hz1
  have H2 := Lib.hid hz2
  have ha : Below w.heap.size w (w.alloc (.cells #[.slice q0 m0 d0, .slice q1 m1 d1, .slice q2 m2 d2, .slice q3 m3 d3] 154)) := (Below.refl _ w).alloc (Nat.le_refl _) _
  have hB := heap_alloc_new w (.cells #[.slice q0 m0 d0, .slice q1 m1 d1, .slice q2 m2 d2, .slice q3 m3 d3] 154)
  have HR := Lib.hid fun W (hW : Below w.heap.size w W) => hr.below ERel.keeps hW
  have HED := Lib.hid hedge
  obtain ⟨rn, hrn⟩ : ∃ rn, rn = rels.length := ⟨_, rfl⟩
  have HRN := Lib.hid hrn
  rw [← hrn] at hlen ⊢
  generalize hgb : w.heap.size = gb at *
  have HGB := Lib.hid hgb
  have HA := Lib.hid ha
  clear hi hz0 hz1 hz2 hr hedge hrn hgb ha
  go_enter Tryz.func164, Tryz.ntmps164
  go_upto_region 1 with fail
  generalize w.alloc (.cells #[.slice q0 m0 d0, .slice q1 m1 d1, .slice q2 m2 d2, .slice q3 m3 d3] 154) = w1 at *
  rw [HGB.out]
  go_wp2_with fail
  go_loopw [8, 15, 10, 11, 12] (fun r8 r15 _ _ _ wr => ∃ k : Nat, r15 = .int .i64 (k : Int) ∧ k ≤ rn ∧ wr.ownsRow gb 92 5 r8 k (((rels.take k).map fun r => (f r).1).flatMap edgeC) ∧ firstErr ((rels.take k).map fun r => (f r).2) = 0 ∧ wr.heap[gb]? = some (.cells #[.slice q0 m0 d0, .slice q1 m1 d1, .slice q2 m2 d2, .slice q3 m3 d3] 154 (0, 0)) ∧ Below gb w wr) (fun _ r15 _ _ _ _ => rn - (intOf r15).toNat)
  case atStart => exact ⟨0, rfl, Nat.zero_le _, World.ownsRow_nil _ _ _ _, rfl, hB, HA.out⟩
  case round =>
    obtain ⟨k, rfl, hk, hown, hz, hBr, hb⟩ := hrel
    have HOWN := Lib.hid hown
    have HZ := Lib.hid hz
    clear hB hz hown
    by_cases hlt : k < rn
    · obtain ⟨b5, o5, r, hpe, hrk, hr0, hr1, hr2, hr3⟩ := (HR.out wr (by first | exact hb | (rw [HGB.out]; exact hb))).at_ (i := k) (by rw [← HRN.out]; exact hlt)
      have x0 := hr0.1
      have x1 := hr1.1
      have x2 := hr2.1
      have x3 := hr3.1
      subst hpe
      have HRK := Lib.hid hrk
      have hed := HED.out r (List.mem_of_getElem? hrk)
      obtain ⟨⟨E0, E1, E2, E3, E4⟩, en, hfr⟩ : ∃ (E : EdgeD) (n : Int), f r = (E, n) := ⟨_, _, rfl⟩
      rw [hfr] at hed
      have HFR := Lib.hid hfr
      have HED1 := Lib.hid hed
      have j1 : (k : Int) < (rn : Int) := by omega
      have j0 : (0 : Int) ≤ (k : Int) := by omega
      clear hr0 hr1 hr2 hr3 hrk hed hfr
      go_upto_region 5 with fail
      have hL := heap_alloc_new wr (.cells #[.int .i64 r.off, .int .i64 r.type, .int .i64 r.sym, .int .i64 r.add] 94)
      have hbL : Below wr.heap.size wr (wr.alloc (.cells #[.int .i64 r.off, .int .i64 r.type, .int .i64 r.sym, .int .i64 r.add] 94)) := (Below.refl _ wr).alloc (Nat.le_refl _) _
      have hgr : gb < wr.heap.size := (Array.getElem?_eq_some_iff.1 hBr).1
      generalize wr.alloc (.cells #[.int .i64 r.off, .int .i64 r.type, .int .i64 r.sym, .int .i64 r.add] 94) = w2 at *
      have hB2 := (hbL.block gb hgr).trans hBr
      have hb2 : Below gb w w2 := hb.trans (hbL.mono (Nat.le_of_lt hgr))
      have hown2 := owns_belowN HOWN.out hbL
      generalize wr.heap.size = g2 at *
      obtain ⟨y0, y1, y2, y3⟩ := cells4q _ _ _ _ _ _ _ hB2
      obtain ⟨z0, z1, z2, z3⟩ := cells4q _ _ _ _ _ _ _ hL
      have HC := Lib.hid (HED1.out w2 (by first | exact hb2 | (rw [HGB.out]; exact hb2)))
      have HB2 := Lib.hid hB2
      have HBW2 := Lib.hid hb2
      have HOWN2 := Lib.hid hown2
      clear x0 x1 x2 x3 hL hbL hB2 hb2 hown2 hb hBr
      have HSP : Hid (firstErr (rels.map fun r => (f r).2) = if en = 0 then firstErr ((rels.drop (k + 1)).map fun r => (f r).2) else en) := Lib.hid (by
        have hk2 := (List.getElem?_eq_some_iff.1 HRK.out)
        have e1 : rels = rels.take k ++ r :: rels.drop (k + 1) := by
          rw [← hk2.2, ← List.drop_eq_getElem_cons hk2.1, List.take_append_drop]
        conv => lhs; rw [e1]
        rw [List.map_append, firstErr_append, if_pos HZ.out, List.map_cons]
        show (if (f r).2 = 0 then firstErr ((rels.drop (k + 1)).map fun r => (f r).2) else (f r).2) = _
        rw [HFR.out])
      by_cases hc : en = 0
      · subst hc
        have HWX : Hid (Calls Tryz.prog 198 #[.agg #[.slice q0 m0 d0, .slice q1 m1 d1, .slice q2 m2 d2, .slice q3 m3 d3], .int .i64 (i : Int), .agg #[.int .i64 r.off, .int .i64 r.type, .int .i64 r.sym, .int .i64 r.add]] w2 fun e w' => e = .returned (.tuple #[.agg #[.int .i64 E0, .int .i64 E1, .int .i64 E2, .int .i64 E3, .int .i64 E4], .nilIface]) ∧ Below w2.heap.size w2 w') := Lib.hid HC.out
        go_upto_region 6 with (first | (go_at_call 198
                                        refine HWX.out.mono ?_
                                        rintro e w3 ⟨rfl, hb3⟩) | fail)
        have hE4 := heap_alloc_new w3 (.cells #[.int .i64 E0, .int .i64 E1, .int .i64 E2, .int .i64 E3, .int .i64 E4] 92)
        have hb4 : Below w2.heap.size w2 (w3.alloc (.cells #[.int .i64 E0, .int .i64 E1, .int .i64 E2, .int .i64 E3, .int .i64 E4] 92)) := hb3.alloc hb3.size _
        generalize w3.alloc (.cells #[.int .i64 E0, .int .i64 E1, .int .i64 E2, .int .i64 E3, .int .i64 E4] 92) = w4 at *
        generalize w3.heap.size = g4 at *
        have hgr2 : gb < w2.heap.size := (Array.getElem?_eq_some_iff.1 HB2.out).1
        have hB4 := (hb4.block gb hgr2).trans HB2.out
        have hbw4 : Below gb w w4 := HBW2.out.trans (hb4.mono (Nat.le_of_lt hgr2))
        obtain ⟨⟨k0, k1, k2, k3, k4⟩, _⟩ := cells5 _ _ _ _ _ _ _ _ hE4
        have hown4 := owns_belowN HOWN2.out hb4
        obtain ⟨po, co, rfl, _⟩ := slice_form hown4
        have hgb4 : gb ≤ w4.heap.size := Nat.le_of_lt (Array.getElem?_eq_some_iff.1 hB4).1
        have HBW4 := Lib.hid hbw4
        have HB4 := Lib.hid hB4
        clear y0 y1 y2 y3 z0 z1 z2 z3 hb3 hb4 hbw4 hB4 hE4
        go_wp2_with (at_builtin; refine wpList_append_own _ rfl (.tmp 29) (.tmp 31) 84 rfl gb 92 i0 (.agg (edgeCs eZ)) 5 40 Tryz.underlying84 HI.out H0.out H1.out H2.out rfl (by decide) _ _ _ rfl (hown4.alloc _) ⟨w4.heap.size, 0, none⟩ 1 1 [.int .i64 E0, .int .i64 E1, .int .i64 E2, .int .i64 E3, .int .i64 E4] rfl rfl (cells_new w4 [.int .i64 E0, .int .i64 E1, .int .i64 E2, .int .i64 E3, .int .i64 E4] _) (by intro u hu; simp only [List.mem_cons, List.not_mem_nil, or_false] at hu; rcases hu with rfl | rfl | rfl | rfl | rfl <;> rfl) (by unfold maxLen; omega) (by omega) (by simp; omega) ?_)
        intro v1 wb hown1 hgrow1 _
        have hba : Below w4.heap.size w4 (w4.alloc (.cells #[.int .i64 E0, .int .i64 E1, .int .i64 E2, .int .i64 E3, .int .i64 E4] 92)) := (Below.refl _ w4).alloc (Nat.le_refl _) _
        have hfrb : FrT gb [92] w4 wb := (FrT.of_below hba).trans (FrT.grown (hown4.alloc _) hgrow1 (by simp) (Nat.le_refl _))
        have HOWNB : Hid (wb.ownsRow gb 92 5 v1 (k + 1) (((rels.take (k + 1)).map fun r => (f r).1).flatMap edgeC)) := Lib.hid (by
          rw [take_snocQ HRK.out, List.map_append, List.flatMap_append]
          have : ([r].map fun r => (f r).1).flatMap edgeC = [.int .i64 E0, .int .i64 E1, .int .i64 E2, .int .i64 E3, .int .i64 E4] := by
            simp only [List.map_cons, List.map_nil, HFR.out]
            rfl
          rw [this, List.map_take]
          exact hown1)
        have HZB : Hid (firstErr ((rels.take (k + 1)).map fun r => (f r).2) = 0) := Lib.hid (by
          rw [take_snocQ HRK.out, List.map_append, firstErr_append, if_pos HZ.out]
          simp only [List.map_cons, List.map_nil, HFR.out]
          rfl)
        have HBB := Lib.hid (hfrb.heap HB4.out (by decide))
        have HBWB := Lib.hid (HBW4.out.trans (hfrb.below hgb4))
        clear hba hfrb hown1 hgrow1 hown4 k0 k1 k2 k3 k4
        go_wp2_with fail
        go_roundw
        case rel => exact ⟨k + 1, by go_num, hlt, HOWNB.out, HZB.out, HBB.out, HBWB.out⟩
        case measure => simp [intOf]; omega
      · have HWX : Hid (Calls Tryz.prog 198 #[.agg #[.slice q0 m0 d0, .slice q1 m1 d1, .slice q2 m2 d2, .slice q3 m3 d3], .int .i64 (i : Int), .agg #[.int .i64 r.off, .int .i64 r.type, .int .i64 r.sym, .int .i64 r.add]] w2 fun e w' => e = .returned (.tuple #[.agg #[.int .i64 E0, .int .i64 E1, .int .i64 E2, .int .i64 E3, .int .i64 E4], .iface 36 (.int .i64 en)]) ∧ Below w2.heap.size w2 w') := Lib.hid (HC.out.mono fun e w' ⟨h1, h2⟩ => ⟨by rw [h1]; unfold errV; rw [if_neg hc], h2⟩)
        go_upto_region 6 with (first | (go_at_call 198
                                        refine HWX.out.mono ?_
                                        rintro e w3 ⟨rfl, hb3⟩) | fail)
        have hE4 := heap_alloc_new w3 (.cells #[.int .i64 E0, .int .i64 E1, .int .i64 E2, .int .i64 E3, .int .i64 E4] 92)
        have hb4 : Below w2.heap.size w2 (w3.alloc (.cells #[.int .i64 E0, .int .i64 E1, .int .i64 E2, .int .i64 E3, .int .i64 E4] 92)) := hb3.alloc hb3.size _
        generalize w3.alloc (.cells #[.int .i64 E0, .int .i64 E1, .int .i64 E2, .int .i64 E3, .int .i64 E4] 92) = w4 at *
        generalize w3.heap.size = g4 at *
        have hgr2 : gb < w2.heap.size := (Array.getElem?_eq_some_iff.1 HB2.out).1
        have hB4 := (hb4.block gb hgr2).trans HB2.out
        have hbw4 : Below gb w w4 := HBW2.out.trans (hb4.mono (Nat.le_of_lt hgr2))
        clear y0 y1 y2 y3 z0 z1 z2 z3 hb3 hb4 hB4 hE4
        go_wp2_with fail
        go_ret2
        have hfe : firstErr (rels.map fun r => (f r).2) = en := by rw [HSP.out, if_neg hc]
        exact ⟨_, by rw [hfe]; unfold errV; rw [if_neg hc]; rfl, .inr ⟨by rw [hfe]; exact hc, rfl⟩, by first | exact hbw4 | (rw [HGB.out]; exact hbw4)⟩
    · have hE : Hid (rels.take k = rels) := Lib.hid (List.take_of_length_le (by rw [← HRN.out]; omega))
      have j1 : ¬ (k : Int) < (rn : Int) := by omega
      obtain rfl : k = rn := by omega
      have HB := Lib.hid hb
      clear hb
      go_wp2_with fail
      go_ret2
      have hz0 := HZ.out
      rw [hE.out] at hz0
      have ho := HOWN.out
      rw [hE.out] at ho
      refine ⟨_, by rw [hz0]; rfl, .inl ⟨hz0, ?_⟩, by first | exact HB.out | (rw [HGB.out]; exact HB.out)⟩
      rw [List.length_map, ← HRN.out, HGB.out]
      exact ho
end Go.Proofs.YteopgmieindojaaGreat

namespace Go.Proofs.YteopgmieindojaaGreat
open Go.RowKit
theorem rels_bd {w : World} {p : Option Addr} {l : List RelD} (h : HasL 4 ERel w p l) : ∀ r ∈ l, r.bd := fun r hr => by
 obtain ⟨k, hk⟩ := List.getElem?_of_mem hr
 obtain ⟨b, off, e0, e1, e2, e3, e4⟩ := h k r hk
 exact ⟨e1.2, e2.2, e3.2, e4.2⟩
theorem nodes_few {l : List ObjD} {D : List (List Bool)} (hs : SecsG l) (hok : ∀ o ∈ l, OkD o) (hlc : l.length ≤ 1000) : (nodesOf l D (secsTo l)).length ≤ 1001 * 16384000 := by
 have h := pieces_few (D := D) hs hok l.length 0
 rw [atTo_zero] at h
 have h2 : (l.length + 1) * 16384000 ≤ 1001 * 16384000 := Nat.mul_le_mul_right _ (by omega)
 exact Nat.le_trans h h2
theorem node_bd {l : List ObjD} {D : List (List Bool)} (hs : SecsG l) (hok : ∀ o ∈ l, OkD o) (hlc : l.length ≤ 1000) (hbd : ∀ o ∈ l, ∀ s ∈ o.secs, s.name.size ≤ maxLen ∧ i64bd s.type ∧ i64bd s.flags ∧ i64bd s.align ∧ i64bd s.ent ∧ i64bd s.link) {i k : Nat} {o : ObjD} {s : SecD} {p : PcD} (hi : l[i]? = some o) (hk : o.secs[k]? = some s) (hp : p ∈ piecesOf s) : (mkN l D (i, k, s) p).bd := by
 have hil := (List.getElem?_eq_some_iff.1 hi).1
 have hkl := (List.getElem?_eq_some_iff.1 hk).1
 have hql := (hok o (List.mem_of_getElem? hi)).few.1
 have hsG := hs o (List.mem_of_getElem? hi) s (List.mem_of_getElem? hk)
 have hpf := (pieces_facts hsG.facts).2.2.1 p hp
 have hpz := hsG.facts.1
 obtain ⟨z0, z1, z2, z3, z4, z5⟩ := hbd o (List.mem_of_getElem? hi) s (List.mem_of_getElem? hk)
 refine ⟨?_, ?_, ?_, z0, z1, z2, z3, z4, ?_, group_bd hok i (by omega) ((k : Int) + 1), z5⟩
 ·show i64bd (i : Int); unfold i64bd; omega
 ·show i64bd ((k : Int) + 1); unfold i64bd; omega
 ·show i64bd p.at_; unfold i64bd; omega
 ·show i64bd p.size; unfold i64bd; omega
theorem found_bd {l : List ObjD} {D : List (List Bool)} (hs : SecsG l) (hok : ∀ o ∈ l, OkD o) (hlc : l.length ≤ 1000) {x : PlaceD} {t : Int × Int} (h : findB l D x = some t) : i64bd t.1 ∧ i64bd t.2 := by
 obtain ⟨n, y, e1, e2, e3, e4⟩ := findB_node h
 have hn := (List.getElem?_eq_some_iff.1 e2).1
 have hf := nodes_few (D := D) hs hok hlc
 obtain ⟨a, k, j, o, s, p, hN⟩ := node_at e2
 have hsG := hs o (List.mem_of_getElem? hN.ho) s (List.mem_of_getElem? hN.hs)
 have hpf := (pieces_facts hsG.facts).2.2.1 p (List.mem_of_getElem? hN.hp)
 have hpz := hsG.facts.1
 have hy : y.size = p.size := by rw [hN.hy]; rfl
 unfold i64bd
 omega
theorem edge_bd {l : List ObjD} {D : List (List Bool)} (hs : SecsG l) (hok : ∀ o ∈ l, OkD o) (hlc : l.length ≤ 1000) (hv : ∀ o ∈ l, ∀ y ∈ o.syms, i64bd y.value) {i : Nat} {r : RelD} (hr : r.bd) : (edgeB l D i r).1.bd := by
 have hpl := (where_place (D := D) (o := i) (s := r.sym) hok hv).1
 have h0 : i64bd 0 := by unfold i64bd; omega
 have h1 : i64bd (-1) := by unfold i64bd; omega
 unfold edgeB
 split
 ·exact ⟨h0, h0, h0, h0, h0⟩
 ·split
  ·exact ⟨hr.1, hr.2.1, hr.2.2.2, h1, hpl⟩
  ·cases hf : findB l D (whereB l D i r.sym).1 with
   | none => exact ⟨h0, h0, h0, h0, h0⟩
   | some t =>
    obtain ⟨t1, t2⟩ := found_bd hs hok hlc hf
    exact ⟨hr.1, hr.2.1, hr.2.2.2, t1, t2⟩
theorem secs_bd {w : World} {p : Option Addr} {l : List ObjD} (h : HasL 5 EObj w p l) : ∀ o ∈ l, ∀ s ∈ o.secs, s.name.size ≤ maxLen ∧ i64bd s.type ∧ i64bd s.flags ∧ i64bd s.align ∧ i64bd s.ent ∧ i64bd s.link := fun o ho s hs => by
 obtain ⟨i, hi⟩ := List.getElem?_of_mem ho
 obtain ⟨k, hk⟩ := List.getElem?_of_mem hs
 obtain ⟨b, off, p0, p1, p2, p4, c0, c1, c2, c4, hpe, _, _, _, _, _, hsec, _⟩ := objs_at h hi
 obtain ⟨b2, off2, p7, p8, c7, c8, hpe2, _, _, _, _, _, _, _, _, _, _, _, z0, z1, z2, z3, z4, z5, _⟩ := sec_at hsec hk
 exact ⟨z0, z1, z2, z3, z4, z5⟩
theorem edges_bd {w : World} {p : Option Addr} {l : List ObjD} (h : HasL 5 EObj w p l) {D : List (List Bool)} (hs : SecsG l) (hok : ∀ o ∈ l, OkD o) (hlc : l.length ≤ 1000) {i k : Nat} {o : ObjD} {s : SecD} (hi : l[i]? = some o) (hk : o.secs[k]? = some s) : ∀ e ∈ edgesN l D (i, k, s), e.bd := fun e he => by
 obtain ⟨b, off, p0, p1, p2, p4, c0, c1, c2, c4, hpe, _, _, _, _, _, hsec, _⟩ := objs_at h hi
 obtain ⟨b2, off2, p7, p8, c7, c8, hpe2, _, _, _, _, _, _, _, _, _, _, hd8, _⟩ := sec_at hsec hk
 unfold edgesN at he
 rw [show relsN ((i, k, s) : Sx).2.2 = s.rels from relsN_eq (hs o (List.mem_of_getElem? hi) s (List.mem_of_getElem? hk))] at he
 obtain ⟨r, hr, rfl⟩ := List.mem_map.1 he
 exact edge_bd hs hok hlc (vals_bd h) (rels_bd hd8.1 r hr)
end Go.Proofs.YteopgmieindojaaGreat

namespace Go.Proofs.YteopgmieindojaaGreat
open Go.RowKit
theorem Tryz.infoName : (Tryz.prog.info? 96).map (fun i => (i.zero, i.size, i.bytes)) = some (some (.agg #[.string ⟨#[]⟩, .int .i64 0, .int .i64 0]), 3, 32) := by kernel_rfl
theorem three_one (a : ByteArray) (b c : Int) : ∀ u ∈ [Value.string a, .int .i64 b, .int .i64 c], u.oneCell' = true := fun u hu => by
 simp only [List.mem_cons, List.not_mem_nil, or_false] at hu
 rcases hu with rfl | rfl | rfl <;> rfl
def GivesNm (xs : List NmD) (w : World) (e : Ending) (w' : World) : Prop := ∃ v, e = .returned v ∧ w'.ownsRow w.heap.size 96 3 v xs.length (xs.flatMap nmC) ∧ Below w.heap.size w w'
set_option maxRecDepth 100000 in
set_option maxHeartbeats 8000000 in
theorem gNames_any (HPF : PFindOK) (p pd pf ps : Option Addr) (c nd cd cf cs : Nat) (l : List ObjD) (D : List (List Bool)) (S : List (List SctD)) (defs : List DefD) (w : World) (hdf : HasL 3 EDef w pf defs) (hdl : defs.length ≤ 1000000) (hdb : ∀ d ∈ defs, d.obj ≤ 1000000 ∧ d.sym ≤ 1000000) (hS : HasL 1 EScts w ps S) (hok : SctsOK l D S) (hpl : ∀ o s : Int, PlaceOK l (whereB l D o s).1)
    (hW : ∀ W, Below w.heap.size w W → ∀ (o : Nat) (s : Int), i64bd s → o ≤ 1000000 → Calls Tryz.prog 25 #[.slice p l.length c, .agg #[.slice pd nd cd, .slice pf defs.length cf], .int .i64 (o : Int), .int .i64 s] W (GivesNPl (whereB l D o s) W)) :
    Calls Tryz.prog 70 #[.agg #[.slice p l.length c, .slice pd nd cd, .slice pf defs.length cf, .slice ps S.length cs]] w (GivesNm (namesB l D defs) w) := by
  have ha : Below w.heap.size w (w.alloc (.cells #[.slice p l.length c, .slice pd nd cd, .slice pf defs.length cf, .slice ps S.length cs] 154)) := (Below.refl _ w).alloc (Nat.le_refl _) _
  have hB := heap_alloc_new w (.cells #[.slice p l.length c, .slice pd nd cd, .slice pf defs.length cf, .slice ps S.length cs] 154)
  obtain ⟨i0, hi, hz0, hz1, hz2⟩ := info_parts Tryz.infoName
  have HI := Lib.hid hi
  have H0 := Lib.hid hz0
  have H1 := Lib.hid hz1
  have H2 := Lib.hid hz2
  have HFD := Lib.hid fun W (hW : Below w.heap.size w W) (pi pk : Nat) (at_ n : Int) (row : List SctD) (x : SctD) h1 h2 h3 h4 h5 h6 => gFind_any HPF p pd pf ps l.length c nd cd defs.length cf cs pi pk at_ n S row x W (hS.below EScts.keeps hW) h1 h2 h3 h4 h5 h6
  have HDF := Lib.hid fun W (hW : Below w.heap.size w W) => hdf.below EDef.keeps hW
  have HDB := Lib.hid hdb
  have HWH := Lib.hid hW
  have HOK := Lib.hid hok
  have HPL := Lib.hid hpl
  have HA := Lib.hid ha
  generalize hln : l.length = ln at *
  generalize hsn : S.length = sn at *
  obtain ⟨fn, hfn⟩ : ∃ fn, fn = defs.length := ⟨_, rfl⟩
  have HFN := Lib.hid hfn
  rw [← hfn] at hB HA HFD HWH hdl ⊢
  obtain ⟨gb, hgb⟩ : ∃ gb, gb = w.heap.size := ⟨_, rfl⟩
  have HGB := Lib.hid hgb
  rw [← hgb] at hB HA HFD HDF HWH
  clear hi hz0 hz1 hz2 hdf hdb hS hok hpl hW ha hln hsn hfn hgb
  go_enter Tryz.func70, Tryz.ntmps70
  go_upto_region 1 with fail
  generalize w.alloc (.cells #[.slice p ln c, .slice pd nd cd, .slice pf fn cf, .slice ps sn cs] 154) = w1 at *
  rw [← HGB.out]
  obtain ⟨y0, y1, y2, y3⟩ := cells4q _ _ _ _ _ _ _ hB
  go_wp2_with fail
  go_loopw [3, 15, 5, 6, 7, 8, 9, 10] (fun r3 r15 _ _ _ _ _ _ wr => ∃ k : Nat, r15 = .int .i64 (k : Int) ∧ k ≤ fn ∧ wr.ownsRow gb 96 3 r3 (namesB l D (defs.take k)).length ((namesB l D (defs.take k)).flatMap nmC) ∧ wr.heap[gb]? = some (.cells #[.slice p ln c, .slice pd nd cd, .slice pf fn cf, .slice ps sn cs] 154 (0, 0)) ∧ Below gb w wr) (fun _ r15 _ _ _ _ _ _ _ => fn - (intOf r15).toNat)
  case atStart => exact ⟨0, rfl, Nat.zero_le _, World.ownsRow_nil _ _ _ _, hB, HA.out⟩
  case round =>
    obtain ⟨k, rfl, hk, hown, hBr, hb⟩ := hrel
    have HOWN := Lib.hid hown
    clear hB hown y0 y1 y2 y3
    by_cases hlt : k < fn
    · obtain ⟨b5, o5, d, hpe, hdk, x0, x1, x2⟩ := (HDF.out wr hb).at_ (i := k) (by rw [← HFN.out]; exact hlt)
      subst hpe
      have HDK := Lib.hid hdk
      have hdd := HDB.out d (List.mem_of_getElem? hdk)
      have HSTEP : Hid (namesB l D (defs.take (k + 1)) = namesB l D (defs.take k) ++ (gnameB l D d).toList) := Lib.hid (by
        unfold namesB
        rw [take_snocQ hdk, List.filterMap_append]
        cases hg : gnameB l D d with
        | none => simp [hg]
        | some y => simp [hg])
      have j1 : (k : Int) < (fn : Int) := by omega
      have j0 : (0 : Int) ≤ (k : Int) := by omega
      have hgr : gb < wr.heap.size := (Array.getElem?_eq_some_iff.1 hBr).1
      have hL := heap_alloc_new wr (.cells #[.string d.name, .int .i64 (d.obj : Int), .int .i64 (d.sym : Int)] 60)
      have hbL : Below wr.heap.size wr (wr.alloc (.cells #[.string d.name, .int .i64 (d.obj : Int), .int .i64 (d.sym : Int)] 60)) := (Below.refl _ wr).alloc (Nat.le_refl _) _
      clear hdk
      go_upto_region 5 with fail
      generalize wr.alloc (.cells #[.string d.name, .int .i64 (d.obj : Int), .int .i64 (d.sym : Int)] 60) = w2 at *
      have hB2 := (hbL.block gb hgr).trans hBr
      have hb2 : Below gb w w2 := hb.trans (hbL.mono (Nat.le_of_lt hgr))
      have HOWN2 := Lib.hid (owns_belowN HOWN.out hbL)
      have hg2s : wr.heap.size < w2.heap.size := (Array.getElem?_eq_some_iff.1 hL).1
      generalize wr.heap.size = g2 at *
      obtain ⟨y0, y1, y2, y3⟩ := cells4q _ _ _ _ _ _ _ hB2
      obtain ⟨⟨z0, z1, z2⟩, _⟩ := three_cells _ _ _ _ _ _ hL
      have hwh := HWH.out w2 hb2 d.obj (d.sym : Int) (by unfold i64bd; omega) hdd.1
      have hpl := HPL.out (d.obj : Int) (d.sym : Int)
      have hgn : gnameB l D d = if (whereB l D d.obj d.sym).2 ≠ 0 then none else (findB l D (whereB l D d.obj d.sym).1).map fun t => ⟨d.name, t.1, t.2⟩ := rfl
      obtain ⟨⟨⟨P0, P1, P2⟩, cd1⟩, hwb⟩ : ∃ P : PlaceD × Int, whereB l D d.obj d.sym = P := ⟨_, rfl⟩
      rw [hwb] at hwh hpl hgn
      have HPLC := Lib.hid hpl
      have HGN := Lib.hid hgn
      have HB2 := Lib.hid hB2
      have HBB2 := Lib.hid hb2
      have HL2 := Lib.hid hL
      have hgr2 : gb < w2.heap.size := by omega
      generalize hgx : gnameB l D d = gx at *
      clear x0 x1 x2 hbL hBr hb hpl hgn hwb hB2 hb2 hL hgx
      by_cases hc : cd1 = 0
      · subst hc
        have HWX : Hid (Calls Tryz.prog 25 #[.slice p ln c, .agg #[.slice pd nd cd, .slice (some ⟨b5, o5, none⟩) fn cf], .int .i64 (d.obj : Int), .int .i64 (d.sym : Int)] w2 fun e w' => e = .returned (.tuple #[.agg #[.int .i64 P0, .int .i64 P1, .int .i64 P2], .nilIface]) ∧ Below w2.heap.size w2 w') := Lib.hid hwh
        clear hwh
        go_upto_region 6 with (first | (go_at_call 25
                                        refine HWX.out.mono ?_
                                        rintro e w5 ⟨rfl, hb5⟩) | fail)
        have hP := heap_alloc_new w5 (.cells #[.int .i64 P0, .int .i64 P1, .int .i64 P2] 67)
        have hb46 : Below w2.heap.size w2 (w5.alloc (.cells #[.int .i64 P0, .int .i64 P1, .int .i64 P2] 67)) := hb5.alloc hb5.size _
        generalize w5.alloc (.cells #[.int .i64 P0, .int .i64 P1, .int .i64 P2] 67) = w6 at *
        generalize w5.heap.size = g5 at *
        obtain ⟨d0, d1, d2⟩ : w6.cell? ⟨g5, 0, none⟩ = some (.int .i64 P0) ∧ w6.cell? ⟨g5, 1, none⟩ = some (.int .i64 P1) ∧ w6.cell? ⟨g5, 2, none⟩ = some (.int .i64 P2) := by
          obtain ⟨⟨d0, d1, d2⟩, _⟩ := three_cells _ _ _ _ _ _ hP
          exact ⟨d0, d1, d2⟩
        have HB6 := Lib.hid ((hb46.block gb hgr2).trans HB2.out)
        have HL6 := Lib.hid ((hb46.block g2 hg2s).trans HL2.out)
        have HBB6 := Lib.hid (HBB2.out.trans (hb46.mono (Nat.le_of_lt hgr2)))
        have HOWN6 := Lib.hid (owns_belowN HOWN2.out hb46)
        clear y0 y1 y2 y3 z0 z1 z2 hb46 hb5 hP
        rcases HPLC.out.2 with hp0 | ⟨pi, pk, po_, ps_, hpe, hpi, hpk⟩
        · have hp0' : P1 = 0 := hp0
          subst hp0'
          have hgx0 : gx = none := by
            have h := HGN.out
            rw [if_neg (by trivial)] at h
            rw [h]
            rfl
          have HSN : Hid (namesB l D (defs.take (k + 1)) = namesB l D (defs.take k)) := Lib.hid (by rw [HSTEP.out, hgx0]; simp)
          clear hgx0
          go_wp2_with fail
          go_roundw
          case rel => exact ⟨k + 1, by go_num, hlt, by rw [HSN.out]; exact HOWN6.out, HB6.out, HBB6.out⟩
          case measure => simp [intOf]; omega
        · obtain ⟨rfl, rfl⟩ : P0 = (pi : Int) ∧ P1 = (pk : Int) + 1 := by
            simp only [PlaceD.mk.injEq] at hpe
            exact ⟨hpe.1, hpe.2.1⟩
          obtain ⟨row, x, n, hrow, hx, hxp, hxk, hxf, hxe, hkb⟩ := HOK.out pi pk po_ ps_ hpi hpk
          have hfb : findB l D ⟨(pi : Int), (pk : Int) + 1, P2⟩ = findPc x.pcs x.first.toNat P2 := findB_eq hpi hpk hxp hxe
          have hfind := HFD.out w6 HBB6.out pi pk P2 n row x hrow hx hxk hxf HPLC.out.1 hkb
          rw [← hfb] at hfind
          have HGX : Hid (gx = (findB l D ⟨(pi : Int), (pk : Int) + 1, P2⟩).map fun t => (⟨d.name, t.1, t.2⟩ : NmD)) := Lib.hid (by
            have h := HGN.out
            rw [if_neg (by trivial)] at h
            exact h)
          generalize findB l D ⟨(pi : Int), (pk : Int) + 1, P2⟩ = fb at *
          obtain ⟨y0, y1, y2, y3⟩ := cells4q _ _ _ _ _ _ _ HB6.out
          have j2 : ¬ (pk : Int) + 1 = 0 := by omega
          have j3 : ((pk : Int) + 1 == 0) = false := by simp; omega
          have hgr6 : gb < w6.heap.size := (Array.getElem?_eq_some_iff.1 HB6.out).1
          cases fb with
          | none =>
            have HFX : Hid (Calls Tryz.prog 116 #[.agg #[.slice p ln c, .slice pd nd cd, .slice (some ⟨b5, o5, none⟩) fn cf, .slice ps sn cs], .agg #[.int .i64 (pi : Int), .int .i64 ((pk : Int) + 1), .int .i64 P2]] w6 fun e w' => e = .returned (.tuple #[.int .i64 0, .int .i64 0, .bool false]) ∧ Below w6.heap.size w6 w') := Lib.hid hfind
            have HSN : Hid (namesB l D (defs.take (k + 1)) = namesB l D (defs.take k)) := Lib.hid (by rw [HSTEP.out, HGX.out]; simp)
            clear hfind hpe hpi hpk hrow hx hxp hxk hxf hxe hfb
            go_upto_region 8 with (first | (go_at_call 116
                                            refine HFX.out.mono ?_
                                            rintro e w7 ⟨rfl, hb7⟩) | fail)
            have HB7 := Lib.hid ((hb7.block gb hgr6).trans HB6.out)
            have HBB7 := Lib.hid (HBB6.out.trans (hb7.mono (Nat.le_of_lt hgr6)))
            have HOWN7 := Lib.hid (owns_belowN HOWN6.out hb7)
            clear hb7 d0 d1 d2 y0 y1 y2 y3
            go_wp2_with fail
            go_roundw
            case rel => exact ⟨k + 1, by go_num, hlt, by rw [HSN.out]; exact HOWN7.out, HB7.out, HBB7.out⟩
            case measure => simp [intOf]; omega
          | some t =>
            have HFX : Hid (Calls Tryz.prog 116 #[.agg #[.slice p ln c, .slice pd nd cd, .slice (some ⟨b5, o5, none⟩) fn cf, .slice ps sn cs], .agg #[.int .i64 (pi : Int), .int .i64 ((pk : Int) + 1), .int .i64 P2]] w6 fun e w' => e = .returned (.tuple #[.int .i64 t.1, .int .i64 t.2, .bool true]) ∧ Below w6.heap.size w6 w') := Lib.hid hfind
            have HSN : Hid (namesB l D (defs.take (k + 1)) = namesB l D (defs.take k) ++ [⟨d.name, t.1, t.2⟩]) := Lib.hid (by rw [HSTEP.out, HGX.out]; simp)
            clear hfind hpe hpi hpk hrow hx hxp hxk hxf hxe hfb
            go_upto_region 8 with (first | (go_at_call 116
                                            refine HFX.out.mono ?_
                                            rintro e w7 ⟨rfl, hb7⟩) | fail)
            have HB7 := Lib.hid ((hb7.block gb hgr6).trans HB6.out)
            have HBB7 := Lib.hid (HBB6.out.trans (hb7.mono (Nat.le_of_lt hgr6)))
            have hown7 := owns_belowN HOWN6.out hb7
            obtain ⟨z0, z1, z2⟩ : w7.cell? ⟨g2, 0, none⟩ = some (.string d.name) ∧ w7.cell? ⟨g2, 1, none⟩ = some (.int .i64 (d.obj : Int)) ∧ w7.cell? ⟨g2, 2, none⟩ = some (.int .i64 (d.sym : Int)) := by
              obtain ⟨⟨z0, z1, z2⟩, _⟩ := three_cells _ _ _ _ _ _ ((hb7.block g2 (Array.getElem?_eq_some_iff.1 HL6.out).1).trans HL6.out)
              exact ⟨z0, z1, z2⟩
            obtain ⟨po, co, rfl, _⟩ := slice_form hown7
            have hcount : (namesB l D (defs.take k)).length ≤ 1000000 := by
              unfold namesB
              have h1 := List.length_filterMap_le (gnameB l D) (defs.take k)
              have h2 := List.length_take_le k defs
              omega
            have hgb7 : gb ≤ w7.heap.size := Nat.le_of_lt (Array.getElem?_eq_some_iff.1 HB7.out).1
            generalize namesB l D (defs.take k) = xs at *
            clear hb7 d0 d1 d2 y0 y1 y2 y3
            go_wp2_with (at_builtin; refine wpList_append_own _ rfl (.tmp 46) (.tmp 52) 75 rfl gb 96 i0 (.agg #[.string ⟨#[]⟩, .int .i64 0, .int .i64 0]) 3 32 Tryz.underlying75 HI.out H0.out H1.out H2.out rfl (by decide) _ _ _ rfl (hown7.alloc _) ⟨w7.heap.size, 0, none⟩ 1 1 [.string d.name, .int .i64 t.1, .int .i64 t.2] rfl rfl (cells_new w7 [.string d.name, .int .i64 t.1, .int .i64 t.2] _) (three_one _ _ _) (by unfold maxLen; omega) (by omega) (by simp; omega) ?_)
            intro v1 wb hown1 hgrow1 _
            have hba : Below w7.heap.size w7 (w7.alloc (.cells #[.string d.name, .int .i64 t.1, .int .i64 t.2] 96)) := (Below.refl _ w7).alloc (Nat.le_refl _) _
            have hfrb : FrT gb [96] w7 wb := (FrT.of_below hba).trans (FrT.grown (hown7.alloc _) hgrow1 (by simp) (Nat.le_refl _))
            have HOWNB : Hid (wb.ownsRow gb 96 3 v1 (namesB l D (defs.take (k + 1))).length ((namesB l D (defs.take (k + 1))).flatMap nmC)) := Lib.hid (by
              rw [HSN.out, List.flatMap_append, List.length_append]
              exact hown1)
            have HBX := Lib.hid (hfrb.heap HB7.out (by decide))
            have HBBX := Lib.hid (HBB7.out.trans (hfrb.below hgb7))
            clear hba hfrb hown1 hgrow1 hown7 z0 z1 z2
            go_wp2_with fail
            go_roundw
            case rel => exact ⟨k + 1, by go_num, hlt, HOWNB.out, HBX.out, HBBX.out⟩
            case measure => simp [intOf]; omega
      · have HWX : Hid (Calls Tryz.prog 25 #[.slice p ln c, .agg #[.slice pd nd cd, .slice (some ⟨b5, o5, none⟩) fn cf], .int .i64 (d.obj : Int), .int .i64 (d.sym : Int)] w2 fun e w' => e = .returned (.tuple #[.agg #[.int .i64 P0, .int .i64 P1, .int .i64 P2], .iface 36 (.int .i64 cd1)]) ∧ Below w2.heap.size w2 w') := Lib.hid (hwh.mono fun e w' ⟨h1, h2⟩ => ⟨by rw [h1]; unfold errV; rw [if_neg hc], h2⟩)
        have hgx0 : gx = none := by
          have h := HGN.out
          rw [if_pos hc] at h
          exact h
        have HSN : Hid (namesB l D (defs.take (k + 1)) = namesB l D (defs.take k)) := Lib.hid (by rw [HSTEP.out, hgx0]; simp)
        clear hwh hgx0
        go_upto_region 6 with (first | (go_at_call 25
                                        refine HWX.out.mono ?_
                                        rintro e w5 ⟨rfl, hb5⟩) | fail)
        have hb46 : Below w2.heap.size w2 (w5.alloc (.cells #[.int .i64 P0, .int .i64 P1, .int .i64 P2] 67)) := hb5.alloc hb5.size _
        generalize w5.alloc (.cells #[.int .i64 P0, .int .i64 P1, .int .i64 P2] 67) = w6 at *
        generalize w5.heap.size = g5 at *
        have HB6 := Lib.hid ((hb46.block gb hgr2).trans HB2.out)
        have HBB6 := Lib.hid (HBB2.out.trans (hb46.mono (Nat.le_of_lt hgr2)))
        have HOWN6 := Lib.hid (owns_belowN HOWN2.out hb46)
        clear y0 y1 y2 y3 z0 z1 z2 hb46 hb5 hc
        go_wp2_with fail
        go_roundw
        case rel => exact ⟨k + 1, by go_num, hlt, by rw [HSN.out]; exact HOWN6.out, HB6.out, HBB6.out⟩
        case measure => simp [intOf]; omega
    · obtain rfl : k = fn := by omega
      have hE : defs.take k = defs := List.take_of_length_le (by rw [← HFN.out]; exact Nat.le_refl _)
      have HREL := Lib.hid HOWN.out
      rw [hE] at HREL
      have k1 : ¬ (k : Int) < (k : Int) := by omega
      clear hE hBr
      go_wp2_with fail
      go_ret
      exact ⟨_, rfl, by rw [← HGB.out]; exact HREL.out, by rw [← HGB.out]; exact hb⟩
end Go.Proofs.YteopgmieindojaaGreat

namespace Go.Proofs.YteopgmieindojaaGreat
open Go.RowKit
theorem sGt (a b : ByteArray) : (!(sLt a b || sEq a b)) = sLt b a := by
 cases h1 : sLt a b with
 | true =>
  cases h2 : sLt b a with
  | false => rfl
  | true => have := sLt_trans h1 h2; rw [sLt_irrefl] at this; cases this
 | false =>
  cases h2 : sEq a b with
  | true => obtain rfl := sEq_iff.1 h2; rw [sLt_irrefl]; rfl
  | false => rw [sLt_total h2 h1]; rfl
end Go.Proofs.YteopgmieindojaaGreat

namespace Go.Proofs.YteopgmieindojaaGreat
open Go.RowKit
theorem nm_cells {w : World} {b : Nat} : ∀ (xs : List NmD) (off : Nat), (∀ (i : Nat) (x : NmD), xs[i]? = some x → ENm w b (off + i * 3) x) → ∀ (j : Nat) (u : Value), (xs.flatMap nmC)[j]? = some u → w.cell? ⟨b, off + j, none⟩ = some u
 | [], _, _, j, u, hu => by simp at hu
 | x :: xs, off, h, j, u, hu => by
  rw [List.flatMap_cons, List.getElem?_append] at hu
  split at hu
  ·rename_i hj
   obtain ⟨⟨h0, _⟩, ⟨h1, _⟩, ⟨h2, _⟩⟩ := h 0 x rfl
   have hj : j < 3 := hj
   match j, hj with
   | 0, _ => cases hu; simpa using h0
   | 1, _ => cases hu; simpa using h1
   | 2, _ => cases hu; simpa using h2
  ·rename_i hj
   have hj : ¬ j < 3 := hj
   have := nm_cells xs (off + 3) (fun i y hy => by
    have := h (i + 1) y hy
    rw [show off + 3 + i * 3 = off + (i + 1) * 3 by omega]
    exact this) (j - 3) u hu
   rw [show off + j = off + 3 + (j - 3) by omega]
   exact this
theorem nm_row {w w' : World} {p : Option Addr} {a : Addr} {ms : List NmD} (hp : p = some a) (h : HasL 3 ENm w p ms) (hb : Below w.heap.size w w') : ∀ (j : Nat) (u : Value), (ms.flatMap nmC)[j]? = some u → w'.cell? (a.add j) = some u := fun j u hu => by
 cases ms with
 | nil => simp at hu
 | cons m ms =>
  obtain ⟨b, off, m', e, _, _⟩ := h.at_ (i := 0) (by simp)
  rw [hp] at e
  cases e
  have ha : (⟨b, off, none⟩ : Addr).add j = ⟨b, off + j, none⟩ := by unfold Addr.add; split <;> simp_all
  rw [ha]
  refine nm_cells (m :: ms) off (fun i x hx => ?_) j u hu
  obtain ⟨b', off', e, hx⟩ := (h.below ENm.keeps hb) i x hx
  rw [hp] at e
  cases e
  exact hx
theorem nm_one (ms : List NmD) : ∀ u ∈ ms.flatMap nmC, u.oneCell' = true := fun u hu => by
 obtain ⟨m, _, hm⟩ := List.mem_flatMap.1 hu
 simp only [nmC, List.mem_cons, List.not_mem_nil, or_false] at hm
 rcases hm with rfl | rfl | rfl <;> rfl
theorem run_leq_no (x y : ByteArray) (h : sLt y x = true) (W : World) : (binOp .leq 9 (.string x) (.string y)).run Tryz.prog W = .ok (.bool false) W := by
 have h2 : (sLt x y || sEq x y) = false := by rw [← Bool.not_eq_true', sGt]; exact h
 rw [← h2]
 simp [binOp, Op.stringOp]
 rfl
set_option maxRecDepth 1000000 in
set_option maxHeartbeats 4000000 in
theorem rg35 (g3 c3 : Nat) (to_ at_ : Int) (p3 : Option Addr) (ms : List NmD) (w : World) (Q : Exit → Act → World → Prop) (v0 v1 v2 v3 v4 v5 v7 v8 v9 v10 v11 v12 v13 v14 v15 v16 v17 : Value) (R : List Value) (hR : R.length = 442)
  (g1 : w.cell? ⟨g3, 1, none⟩ = some (.int .i64 to_)) (g2 : w.cell? ⟨g3, 2, none⟩ = some (.int .i64 at_)) (gn : w.cell? ⟨g3, 3, none⟩ = some (.slice p3 ms.length c3)) (hM : IsL 3 ENm w (.slice p3 ms.length c3) ms) (hf : ms.length ≤ 100000) (b1 : i64bd to_) (b2 : i64bd at_) (b3 : ∀ m ∈ ms, m.bd)
  (hQ : ∀ (R' : List Value) (pa : Option Addr) (ca : Nat) (w' : World), R'.length = 442 → HasL 3 ENm w' pa (⟨⟨#[]⟩, to_, at_⟩ :: ms) → Below w.heap.size w w' → Q .normal ⟨(List.toArray (v0 :: v1 :: v2 :: v3 :: v4 :: v5 :: .pointer (some ⟨g3, 0, none⟩) :: v7 :: v8 :: v9 :: v10 :: v11 :: v12 :: v13 :: v14 :: v15 :: .slice pa (ms.length + 1) ca :: v17 :: R')), []⟩ w') :
  Code.wp Tryz.prog (wReg 35) Q ⟨(List.toArray (v0 :: v1 :: v2 :: v3 :: v4 :: v5 :: .pointer (some ⟨g3, 0, none⟩) :: v7 :: v8 :: v9 :: v10 :: v11 :: v12 :: v13 :: v14 :: v15 :: v16 :: v17 :: R)), []⟩ w := by
 rw [open442 R hR]
 have HQ := Lib.hid hQ
 clear hQ
 conv => arg 2; whnf
 obtain ⟨i0, hi, hz0, hz1, hz2⟩ := info_parts Tryz.infoName
 have HI := Lib.hid hi
 have H0 := Lib.hid hz0
 have H1 := Lib.hid hz1
 have H2 := Lib.hid hz2
 have hb1 : Below w.heap.size w (w.alloc (.cells #[.string ⟨#[]⟩, .int .i64 to_, .int .i64 at_] 96)) := (Below.refl _ w).alloc (Nat.le_refl _) _
 have hown : (w.alloc (.cells #[.string ⟨#[]⟩, .int .i64 to_, .int .i64 at_] 96)).ownsRow w.heap.size 96 3 (.slice (some ⟨w.heap.size, 0, none⟩) 1 1) 1 (nmC ⟨⟨#[]⟩, to_, at_⟩) := ⟨rfl, .inr ⟨w.heap.size, 1, _, rfl, Nat.le_refl _, heap_alloc_new w _, Nat.le_refl _, by decide, rfl, rfl⟩⟩
 have hbd : ∀ m ∈ (⟨⟨#[]⟩, to_, at_⟩ :: ms : List NmD), m.bd := fun m hm => by
  rcases List.mem_cons.1 hm with rfl | hm
  ·exact ⟨Nat.zero_le _, b1, b2⟩
  ·exact b3 m hm
 have HBD := Lib.hid hbd
 obtain ⟨p', c', he, h1, h2, h3, h4⟩ := hM
 cases he
 have HOWN := Lib.hid hown
 have HB1 := Lib.hid hb1
 have hnc := fun a (ha : p3 = some a) => nm_row ha h4 hb1
 have gn1 := cell_later hb1 gn
 clear hi hz0 hz1 hz2 hb1 hown hbd b1 b2 b3 h4
 generalize hmn : ms.length = mn at *
 have HMN := Lib.hid hmn
 clear hmn
 rcases p3 with _ | a
 ·have hc0 := h3 rfl
  subst hc0
  obtain rfl : mn = 0 := by omega
  have hnil : ms = [] := List.length_eq_zero_iff.1 HMN.out
  clear h1 h2 h3 hnc hf
  go_wp2_with (at_builtin; refine wpList_append_own_none rfl _ _ 75 rfl w.heap.size 96 i0 3 Tryz.underlying75 HI.out _ _ _ rfl HOWN.out rfl ?_)
  go_wp2_with fail
  refine HQ.out _ _ _ _ rfl ?_ HB1.out
  obtain ⟨p5, c5, e5, _, _, _, h5⟩ := isL_nms (l := [⟨⟨#[]⟩, to_, at_⟩]) HOWN.out (fun m hm => HBD.out m (by rw [hnil]; exact hm))
  cases e5
  rw [hnil]
  exact h5
 ·have hca := hnc a rfl
  clear hnc h3
  go_wp2_with (at_builtin; refine wpList_append_own _ rfl _ _ 75 rfl w.heap.size 96 i0 (.agg #[.string ⟨#[]⟩, .int .i64 0, .int .i64 0]) 3 32 Tryz.underlying75 HI.out H0.out H1.out H2.out rfl (by decide) _ _ _ rfl HOWN.out a mn c3 (ms.flatMap nmC) rfl (by rw [flat_len (k := 3) (fun _ => rfl), HMN.out]) hca (nm_one ms) (by unfold maxLen; omega) (by omega) (by simp) ?_)
  intro v' w' hown' hgrow _
  have hfr : FrT w.heap.size [96] w w' := (FrT.of_below HB1.out).trans (FrT.grown HOWN.out hgrow (by simp) (Nat.le_refl _))
  have hL := isL_nms (l := ⟨⟨#[]⟩, to_, at_⟩ :: ms) (by
   show w'.ownsRow _ _ 3 v' (ms.length + 1) (nmC _ ++ ms.flatMap nmC)
   rw [HMN.out, Nat.add_comm]
   exact hown') HBD.out
  obtain ⟨pa, ca, rfl, _, _, _, hL⟩ := hL
  have HL := Lib.hid hL
  have HF := Lib.hid (hfr.below (Nat.le_refl _))
  have elen : (⟨⟨#[]⟩, to_, at_⟩ :: ms : List NmD).length = mn + 1 := by rw [← HMN.out]; rfl
  rw [elen]
  clear hown' hgrow hfr hL hca
  go_wp2_with fail
  exact HQ.out _ _ _ _ rfl HL.out HF.out
set_option maxRecDepth 1000000 in
set_option maxHeartbeats 8000000 in
theorem t39 {w4 : World} {l : List ObjD} {g : GraphD} {p p0 p3 : Option Addr} {g3 c0 c3 : Nat} (C : GCtx w4 l g p p0 p3 g3 c0 c3) {w : World} (hb : Below w4.heap.size w4 w)
  {A : List NmD} {pa : Option Addr} {ca : Nat} (hA : HasL 3 ENm w pa A) (hAl : A.length ≤ 1000000) (hAf : ∀ m ∈ A, NmFine g.nodes m) (hAs : ∀ (i : Nat) (m m2 : NmD), 1 < i → A[i]? = some m → A[i - 1]? = some m2 → sLt m2.name m.name = true) {i : Nat} (hi : i < A.length) (Q : Exit → Act → World → Prop) (v0 v1 v2 v3 v4 v5 v7 v8 v9 v10 v11 v12 v13 v14 v15 : Value) (R : List Value) (hRl : R.length = 442)
  (hQ : ∀ (R' : List Value) (w' : World), R'.length = 442 → Below w.heap.size w w' → Q .normal ⟨(List.toArray (v0 :: v1 :: v2 :: v3 :: v4 :: v5 :: .pointer (some ⟨g3, 0, none⟩) :: v7 :: v8 :: v9 :: v10 :: v11 :: v12 :: v13 :: v14 :: v15 :: .slice pa A.length ca :: .int .i64 (i : Int) :: R')), []⟩ w') :
  (wTail 39).wp Tryz.prog Q ⟨(List.toArray (v0 :: v1 :: v2 :: v3 :: v4 :: v5 :: .pointer (some ⟨g3, 0, none⟩) :: v7 :: v8 :: v9 :: v10 :: v11 :: v12 :: v13 :: v14 :: v15 :: .slice pa A.length ca :: .int .i64 (i : Int) :: R)), []⟩ w := by
 obtain ⟨ba, oa, m, rfl, hm, ⟨m0, _⟩, ⟨m1, _⟩, ⟨m2, _⟩⟩ := hA.at_ hi
 obtain ⟨t, z, ht, hz, ha, ha2⟩ := hAf m (List.mem_of_getElem? hm)
 have htl := (List.getElem?_eq_some_iff.1 hz).1
 obtain ⟨b, off, z', hp, hz', _, _, _, _, _, _, _, _, ⟨E8, _⟩, _⟩ := C.nodes.at_ htl
 obtain rfl : z' = z := by rw [hz] at hz'; cases hz'; rfl
 subst hp
 rw [ht] at m1
 rw [tail39, open442 R hRl]
 refine wp_seq (wp_seq (reg39 _ _ _ _ _ _ _ (i) _ _ _ _ _ _ _ _ _ _ _ _ _ _ _ _ _ _ _ _ _ _ _ _ _ _ _ _ _ _ _ _ _ _ _ _ _ _ _ _ _ _ _ _ _ _ _ _ _ _ _ _ _ _ _ _ _ _ _ _ _ _ _ _ _ _ _ _ _ _ _ _ _ _ _ _ _ _ _ _ _ _ _ _ _ _ _ _ _ _ _ _ _ _ _ _ _ _ _ _ _ _ _ _ _ _ _ _ _ _ _ _ _ _ _ _ _ _ _ _ _ _ _ _ _ _ _ _ _ _ _ _ _ _ _ _ _ _ _ _ _ _ _ _ _ _ _ _ _ _ _ _ _ _ _ _ _ _ _ _ _ _ _ _ _ _ _ _ _ _ _ _ _ _ _ _ _ _ _ _ _ _ _ _ _ _ _ _ _ _ _ _ _ _ _ _ _ _ _ _ _ _ _ _ _ _ _ _ _ _ _ _ _ _ _ _ _ _ _ _ _ _ _ _ _ _ _ _ _ _ _ _ _ _ _ _ _ _ _ _ _ _ _ _ _ _ _ _ _ _ _ _ _ _ _ _ _ _ _ _ _ _ _ _ _ _ _ _ _ _ _ _ _ _ _ _ _ _ _ _ _ _ _ _ _ _ _ _ _ _ _ _ _ _ _ _ _ _ _ _ _ _ _ _ _ _ _ _ _ _ _ _ _ _ _ _ _ _ _ _ _ _ _ _ _ _ _ _ _ _ _ _ _ _ _ _ _ _ _ _ _ _ _ _ _ _ _ _ _ _ _ _ _ _ _ _ _ _ _ _ _ _ _ _ _ _ _ _ _ _ _ _ _ _ _ _ _ _ _ _ _ _ _ _ _ _ _ _ _ _ _ _ _ _ _ _ _ _ _ _ _ _ _ _ _ _ _ _ _ _ _ _ _ _ _ _ _ _ _ _ _ _ _ _ _ _ _ _ _ _ _ _ _ _ _ _ _ _ _ _ _ _ _ _ _ _ _ _ _ _ _ _ _ _ _ _ _ _ _ _ _ _ (cell_later hb C.g0) (m1) (m2) (by omega) (by omega) (by omega) (ha) ?_))
 intros
 rename_i n1
 refine then_normal (wp_cond_false (by kernel_rfl) (wp_skip (then_normal (again (by kernel_rfl) ?_))))
 intro R1 h1
 have hb1 : Below w.heap.size w (w.drewN n1) := below_drewN (Below.refl _ w) n1
 generalize w.drewN n1 = w1 at *
 have hb41 := hb.trans (hb1.mono hb.size)
 have hfin : ∀ nm2 : ByteArray, (1 < i → IntKind.i64.wrap ((i : Int) - 1) = ((i - 1 : Nat) : Int) ∧ ((i - 1 : Nat) : Int) < (A.length : Int) ∧ w1.cell? ⟨ba, oa + (i - 1) * 3, none⟩ = some (.string nm2) ∧ ∀ W, (binOp .leq 9 (.string m.name) (.string nm2)).run Tryz.prog W = .ok (.bool false) W) → (wTail 41).wp Tryz.prog Q ⟨(List.toArray (v0 :: v1 :: v2 :: v3 :: v4 :: v5 :: .pointer (some ⟨g3, 0, none⟩) :: v7 :: v8 :: v9 :: v10 :: v11 :: v12 :: v13 :: v14 :: v15 :: .slice (some ⟨ba, oa, none⟩) A.length ca :: .int .i64 (i : Int) :: R1)), []⟩ w1 := by
  intro nm2 hp
  rw [tail41, open442 R1 h1]
  refine wp_seq (reg41 _ _ _ _ _ _ _ _ _ (i) (i - 1) (t) _ _ _ _ _ _ _ _ _ _ _ _ _ _ _ _ _ _ _ _ _ _ _ _ _ _ _ _ _ _ _ _ _ _ _ _ _ _ _ _ _ _ _ _ _ _ _ _ _ _ _ _ _ _ _ _ _ _ _ _ _ _ _ _ _ _ _ _ _ _ _ _ _ _ _ _ _ _ _ _ _ _ _ _ _ _ _ _ _ _ _ _ _ _ _ _ _ _ _ _ _ _ _ _ _ _ _ _ _ _ _ _ _ _ _ _ _ _ _ _ _ _ _ _ _ _ _ _ _ _ _ _ _ _ _ _ _ _ _ _ _ _ _ _ _ _ _ _ _ _ _ _ _ _ _ _ _ _ _ _ _ _ _ _ _ _ _ _ _ _ _ _ _ _ _ _ _ _ _ _ _ _ _ _ _ _ _ _ _ _ _ _ _ _ _ _ _ _ _ _ _ _ _ _ _ _ _ _ _ _ _ _ _ _ _ _ _ _ _ _ _ _ _ _ _ _ _ _ _ _ _ _ _ _ _ _ _ _ _ _ _ _ _ _ _ _ _ _ _ _ _ _ _ _ _ _ _ _ _ _ _ _ _ _ _ _ _ _ _ _ _ _ _ _ _ _ _ _ _ _ _ _ _ _ _ _ _ _ _ _ _ _ _ _ _ _ _ _ _ _ _ _ _ _ _ _ _ _ _ _ _ _ _ _ _ _ _ _ _ _ _ _ _ _ _ _ _ _ _ _ _ _ _ _ _ _ _ _ _ _ _ _ _ _ _ _ _ _ _ _ _ _ _ _ _ _ _ _ _ _ _ _ _ _ _ _ _ _ _ _ _ _ _ _ _ _ _ _ _ _ _ _ _ _ _ _ _ _ _ _ _ _ _ _ _ _ _ _ _ _ _ _ _ _ _ _ _ _ _ _ _ _ _ _ _ _ _ _ _ _ _ _ _ _ _ _ _ _ _ _ _ _ _ _ _ _ _ _ _ _ _ _ _ _ _ _ _ _ _ _ _ _ _ _ _ _ _ _ _ _ _ _ _ (cell_later hb41 C.g0) (cell_later hb1 m1) (cell_later hb1 m2) (cell_later hb1 m0) (by omega) (by omega) (cell_later hb41 E8) (ha2) (hp) ?_)
  intros
  rename_i n2
  refine then_normal (wp_cond_false (by kernel_rfl) (wp_skip ?_))
  exact hQ _ _ (by kernel_rfl) (below_drewN hb1 n2)
 by_cases h1i : 1 < i
 ·obtain ⟨ba', oa', mm, e, hmm, ⟨q0, _⟩, _⟩ := hA.at_ (i := i - 1) (by omega)
  cases e
  exact hfin mm.name fun _ => ⟨i64_nat _ _ (by omega) (by omega), by omega, cell_later hb1 q0, run_leq_no _ _ (hAs i m mm h1i hm hmm)⟩
 ·exact hfin ⟨#[]⟩ fun h => absurd h h1i
set_option maxRecDepth 1000000 in
set_option maxHeartbeats 8000000 in
theorem t36 {w4 : World} {l : List ObjD} {g : GraphD} {p p0 p3 : Option Addr} {g3 c0 c3 : Nat} (C : GCtx w4 l g p p0 p3 g3 c0 c3) {w : World} (hb : Below w4.heap.size w4 w)
  {A : List NmD} {pa : Option Addr} {ca : Nat} (hA : HasL 3 ENm w pa A) (hAl : A.length ≤ 1000000) (hAf : ∀ m ∈ A, NmFine g.nodes m) (hAs : ∀ (i : Nat) (m m2 : NmD), 1 < i → A[i]? = some m → A[i - 1]? = some m2 → sLt m2.name m.name = true) (Q : Exit → Act → World → Prop) (v0 v1 v2 v3 v4 v7 v8 v9 v10 v11 v12 v13 v14 v15 v17 : Value) (R : List Value) (hRl : R.length = 442)
  (hQ : ∀ (v17 : Value) (R' : List Value) (w' : World), R'.length = 442 → Below w.heap.size w w' → Q .ret ⟨(List.toArray (v0 :: v1 :: v2 :: v3 :: .bool true :: .bool true :: .pointer (some ⟨g3, 0, none⟩) :: v7 :: v8 :: v9 :: v10 :: v11 :: v12 :: v13 :: v14 :: v15 :: .slice pa A.length ca :: v17 :: R')), []⟩ w') :
  (wTail 36).wp Tryz.prog Q ⟨(List.toArray (v0 :: v1 :: v2 :: v3 :: v4 :: .bool true :: .pointer (some ⟨g3, 0, none⟩) :: v7 :: v8 :: v9 :: v10 :: v11 :: v12 :: v13 :: v14 :: v15 :: .slice pa A.length ca :: v17 :: R)), []⟩ w := by
 rw [tail36]
 refine wp_seq (wp_seq (rg36 _ _ _ _ _ _ _ _ _ _ _ _ _ _ _ _ _ _ _ _ _ (hRl) ?_))
 refine then_normal (wp_block (wp_loop (fun act w' => ∃ (i : Nat) (R' : List Value), act = ⟨(List.toArray (v0 :: v1 :: v2 :: v3 :: v4 :: .bool true :: .pointer (some ⟨g3, 0, none⟩) :: v7 :: v8 :: v9 :: v10 :: v11 :: v12 :: v13 :: v14 :: v15 :: .slice pa A.length ca :: .int .i64 (i : Int) :: R')), []⟩ ∧ R'.length = 442 ∧ i ≤ A.length ∧ Below w.heap.size w w') (fun act _ => A.length - (intOf (act.eval (.tmp 17))).toNat) ⟨0, R, rfl, hRl, Nat.zero_le _, Below.refl _ _⟩ ?_))
 rintro act w' ⟨i, R, rfl, hRl, hi, hb'⟩
 rw [tail37]
 refine wp_seq (wp_seq (rg37 _ _ _ _ _ _ _ _ _ _ _ _ _ _ _ _ _ _ _ _ _ _ _ (hRl) ?_))
 intro R1 h1 h397
 refine then_normal ?_
 by_cases hlt : i < A.length
 ·refine wp_cond_true ((eval_rest R1 _ _ _ _ _ _ _ _ _ _ _ _ _ _ _ _ _ _ 379).trans (h397.trans (by simp [hlt]))) (wp_skip (then_normal ?_))
  refine wp_seq (wp_block (t39 C (hb.trans (hb'.mono hb.size)) (hA.below ENm.keeps hb') hAl hAf hAs hlt _ _ _ _ _ _ _ _ _ _ _ _ _ _ _ _ _ (h1) ?_))
  intro R2 w2 h2 hb2
  refine in_normal (then_normal ?_)
  refine rg38 _ _ _ _ _ _ _ _ _ _ _ _ _ _ _ _ _ _ _ _ _ (h2) (IntWalk.i64_in _ (by omega)) ?_
  intro R3 h3
  refine then_normal ⟨⟨i + 1, R3, rfl, h3, hlt, hb'.trans (hb2.mono hb'.size)⟩, ?_⟩
  show A.length - ((i : Int) + 1).toNat < A.length - (i : Int).toNat
  omega
 ·refine wp_cond_false ((eval_rest R1 _ _ _ _ _ _ _ _ _ _ _ _ _ _ _ _ _ _ 379).trans (h397.trans (by simp [hlt]))) (wp_exit ?_)
  show (wTail 43).wp _ _ _ _
  rw [tail43]
  refine wp_seq (rg43 _ _ _ _ _ _ _ _ _ _ _ _ _ _ _ _ _ _ _ _ (h1) ?_)
  intro R2 h2
  exact then_normal (wp_ret (hQ _ _ _ h2 hb'))
end Go.Proofs.YteopgmieindojaaGreat
