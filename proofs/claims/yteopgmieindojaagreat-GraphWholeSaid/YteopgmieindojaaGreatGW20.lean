/-
  Parts of a proof.
-/
import Derived.Test.YteopgmieindojaaGreatGW19
import Derived.Test.YteopgmieindojaaGreatGW06
import Derived.Test.YteopgmieindojaaGreatGW02
import Derived.Maps.RangeRun
import Derived.Carry
import Derived.Test.YteopgmieindojaaGreatWords
import Derived.Maps.Own
import Derived.Maps.OwnOps
import Derived.OwnWalk
import Derived.Test.YteopgmieindojaaGreatGW07
namespace Go.Proofs.YteopgmieindojaaGreat
open Go.RowKit
def NFul (N : Nat) (w : World) (v : Value) (ys : List NodeD) : Prop := ∃ ns : List NodeV, w.ownsRow N 86 14 v ys.length (ns.flatMap NodeV.cells) ∧ (∀ n ∈ ns, n.ok N w) ∧ ns.map NodeV.x = ys
theorem NFul.below {N : Nat} {w w' : World} {v : Value} {ys : List NodeD} (h : NFul N w v ys) (hb : Below w.heap.size w w') : NFul N w' v ys := by
 obtain ⟨ns, h1, h2, h3⟩ := h
 exact ⟨ns, owns_belowN h1 hb, fun n hn => (h2 n hn).below hb, h3⟩
theorem NFul.nil (N : Nat) (w : World) : NFul N w (.slice none 0 0) [] := ⟨[], World.ownsRow_nil _ _ _ _, (fun n hn => absurd hn (by simp)), rfl⟩
theorem NFul.isL {N : Nat} {w : World} {v : Value} {ys : List NodeD} (h : NFul N w v ys) : IsL 14 ENode w v ys := by
 obtain ⟨ns, h1, h2, h3⟩ := h
 have hl : ns.length = ys.length := by rw [← h3, List.length_map]
 rw [← hl] at h1
 rw [← h3]
 exact isL_nodes h1 h2
def GivesNs (ys : List NodeD) (n : Int) (w : World) (e : Ending) (w' : World) : Prop := ∃ v, e = .returned (.tuple #[v, errV n]) ∧ (n = 0 ∧ NFul w.heap.size w' v ys ∨ n ≠ 0 ∧ v = .slice none 0 0) ∧ Below w.heap.size w w'
theorem firstErr_cons {a b : List Int} (h : firstErr a ≠ 0) : firstErr (a ++ b) = firstErr a := by rw [firstErr_append, if_neg h]
theorem errB_split {l : List ObjD} {D : List (List Bool)} {i k : Nat} {o : ObjD} {s : SecD} (hi : l[i]? = some o) (hk : o.secs[k]? = some s) (h0 : firstErr ((atTo ObjD.secs l i k).flatMap (errsN l D)) = 0) (hp : pcsAt D (i, k, s) ≠ []) (hc : firstErr (codesN l D (i, k, s)) ≠ 0) : errB l D = firstErr (codesN l D (i, k, s)) := by
 obtain ⟨rest, e, _⟩ := secs_split (D := D) hi hk
 unfold errB
 rw [e, List.flatMap_append, firstErr_append, if_pos h0, List.flatMap_cons]
 have h1 : ∃ more, errsN l D (i, k, s) = codesN l D (i, k, s) ++ more := by
  unfold errsN
  cases hq : pcsAt D (i, k, s) with
  | nil => exact absurd hq hp
  | cons p ps => exact ⟨_, by rw [List.flatMap_cons]⟩
 obtain ⟨more, h1⟩ := h1
 rw [h1, List.append_assoc, firstErr_cons hc]
theorem errs_pieces {l : List ObjD} {D : List (List Bool)} {x : Sx} (hc : firstErr (codesN l D x) = 0) : firstErr (errsN l D x) = 0 := by
 unfold errsN
 induction pcsAt D x with
 | nil => rfl
 | cons p ps ih => rw [List.flatMap_cons, firstErr_append, if_pos hc]; exact ih
set_option maxRecDepth 100000 in
set_option maxHeartbeats 16000000 in
theorem gNodes_any (p q1 q2 ps : Option Addr) (c m1 d1 m2 d2 cs : Nat) (l : List ObjD) (D : List (List Bool)) (w : World) (hok : ∀ o ∈ l, OkD o) (hsg : SecsG l) (hlc : l.length ≤ 1000) (hS : HasL 1 EScts w ps (knowS l D))
    (hN : ∀ W, Below w.heap.size w W → ∀ (i k : Nat) (o : ObjD) (s : SecD) (x : PcD), l[i]? = some o → o.secs[k]? = some s → x ∈ piecesOf s → Calls Tryz.prog 115 #[.agg #[.slice p l.length c, .slice q1 m1 d1, .slice q2 m2 d2, .slice ps l.length cs], .int .i64 (i : Int), .int .i64 ((k : Int) + 1), .agg #[.int .i64 x.at_, .int .i64 x.size]] W (GivesNd (mkN l D (i, k, s) x) (firstErr (codesN l D (i, k, s))) W)) :
    Calls Tryz.prog 69 #[.agg #[.slice p l.length c, .slice q1 m1 d1, .slice q2 m2 d2, .slice ps l.length cs]] w (GivesNs (nodesOf l D (secsTo l)) (errB l D) w) := by
  have ha : Below w.heap.size w (w.alloc (.cells #[.slice p l.length c, .slice q1 m1 d1, .slice q2 m2 d2, .slice ps l.length cs] 154)) := (Below.refl _ w).alloc (Nat.le_refl _) _
  have hB := heap_alloc_new w (.cells #[.slice p l.length c, .slice q1 m1 d1, .slice q2 m2 d2, .slice ps l.length cs] 154)
  obtain ⟨i0, hi, hz0, hz1, hz2⟩ := info_parts Tryz.infoNode
  have HI := Lib.hid hi
  have H0 := Lib.hid hz0
  have H1 := Lib.hid hz1
  have H2 := Lib.hid hz2
  have HS := Lib.hid fun W (hW : Below w.heap.size w W) => hS.below EScts.keeps hW
  have HNO := Lib.hid hN
  have HSG := Lib.hid hsg
  have HOK := Lib.hid hok
  have HFEW := Lib.hid (pieces_few (D := D) hsg hok)
  have HKN : Hid ((knowS l D).length = l.length) := Lib.hid (knowS_len l D)
  have HA := Lib.hid ha
  generalize hln : l.length = ln at *
  have HLN := Lib.hid hln
  obtain ⟨gb, hgb⟩ : ∃ gb, gb = w.heap.size := ⟨_, rfl⟩
  have HGB := Lib.hid hgb
  rw [← hgb] at hB HA HS HNO
  clear hi hz0 hz1 hz2 hok hsg hS hN ha hln hgb
  go_enter Tryz.func69, Tryz.ntmps69
  go_upto_region 1 with fail
  generalize w.alloc (.cells #[.slice p ln c, .slice q1 m1 d1, .slice q2 m2 d2, .slice ps ln cs] 154) = w1 at *
  rw [← HGB.out]
  obtain ⟨y0, y1, y2, y3⟩ := cells4q _ _ _ _ _ _ _ hB
  go_wp2_with fail
  go_loopw [4, 16, 5, 6, 7, 8, 10, 11, 12] (fun r4 r16 _ _ _ _ _ _ _ wr => ∃ i : Nat, r16 = .int .i64 (i : Int) ∧ i ≤ ln ∧ NFul gb wr r4 (nodesOf l D (allTo ObjD.secs l i)) ∧ firstErr ((allTo ObjD.secs l i).flatMap (errsN l D)) = 0 ∧ wr.heap[gb]? = some (.cells #[.slice p ln c, .slice q1 m1 d1, .slice q2 m2 d2, .slice ps ln cs] 154 (0, 0)) ∧ Below gb w wr) (fun _ r16 _ _ _ _ _ _ _ _ => ln - (intOf r16).toNat)
  case atStart => exact ⟨0, rfl, Nat.zero_le _, NFul.nil _ _, rfl, hB, HA.out⟩
  case round =>
    obtain ⟨i, rfl, hi, hR, hz, hBr, hb⟩ := hrel
    have HR := Lib.hid hR
    have HZ := Lib.hid hz
    clear hR hz y0 y1 y2 y3
    by_cases hlt : i < ln
    · obtain ⟨o, ho⟩ : ∃ o, l[i]? = some o := ⟨_, List.getElem?_eq_getElem (by rw [HLN.out]; exact hlt)⟩
      have HO := Lib.hid ho
      have hql := (HOK.out o (List.mem_of_getElem? ho)).few.1
      obtain ⟨g, og, row', hpe, hrow', v, hcv', pr, cr, rfl, _, _, _, hr⟩ := (HS.out w (by rw [HGB.out]; exact Below.refl _ _)).at_ (i := i) (by rw [HKN.out]; exact hlt)
      subst hpe
      have hrow2 : row' = o.secs.mapIdx (knowF l D i) := by
        unfold knowS at hrow'
        rw [List.getElem?_mapIdx, ho] at hrow'
        cases hrow'
        rfl
      have hrl : row'.length = o.secs.length := by rw [hrow2, List.length_mapIdx]
      have HROW := Lib.hid hrow2
      have HRW := Lib.hid hr
      have HRL := Lib.hid hrl
      rw [Nat.mul_one] at hcv'
      have hcv := cell_later (by rw [← HGB.out]; exact hb) hcv'
      obtain ⟨ql, hqn⟩ : ∃ ql, ql = o.secs.length := ⟨_, rfl⟩
      have HQN := Lib.hid hqn
      rw [hrl, ← hqn] at hcv
      rw [← hqn] at hql
      obtain ⟨y0, y1, y2, y3⟩ := cells4q _ _ _ _ _ _ _ hBr
      have j1 : (i : Int) < (ln : Int) := by omega
      have j0 : (0 : Int) ≤ (i : Int) := by omega
      have HBR := Lib.hid hBr
      have HBW := Lib.hid hb
      clear ho hr hrow' hrow2 hrl hqn hBr hb hcv'
      generalize hwo : wr = wo at *
      clear hwo
      go_wp2_with fail
      go_loopw [4, 23, 7, 8, 10, 11, 12] (fun r4 r23 _ _ _ _ _ wq => ∃ q : Nat, r23 = .int .i64 (q : Int) ∧ q ≤ ql ∧ NFul gb wq r4 (nodesOf l D (atTo ObjD.secs l i q)) ∧ firstErr ((atTo ObjD.secs l i q).flatMap (errsN l D)) = 0 ∧ wq.heap[gb]? = some (.cells #[.slice p ln c, .slice q1 m1 d1, .slice q2 m2 d2, .slice (some ⟨g, og, none⟩) ln cs] 154 (0, 0)) ∧ Below gb w wq) (fun _ r23 _ _ _ _ _ _ => ql - (intOf r23).toNat)
      case atStart => exact ⟨0, rfl, Nat.zero_le _, by rw [atTo_zero]; exact HR.out, by rw [atTo_zero]; exact HZ.out, HBR.out, HBW.out⟩
      case round =>
        obtain ⟨q, rfl, hq, hR, hz, hBr, hb⟩ := hrel
        have HR2 := Lib.hid hR
        have HZ2 := Lib.hid hz
        clear hR hz y0 y1 y2 y3 hcv
        by_cases hlt2 : q < ql
        · obtain ⟨s, hs⟩ : ∃ s, o.secs[q]? = some s := ⟨_, List.getElem?_eq_getElem (by rw [← HQN.out]; exact hlt2)⟩
          have HSS := Lib.hid hs
          obtain ⟨g2, o2, x', hpe2, hx', ⟨v2, hc0', pp, cp, rfl, hpc1, hpc2, hpc3, hpl⟩, hc1', hc2', hc3'⟩ := HRW.out.at_ (i := q) (by rw [HRL.out, ← HQN.out]; exact hlt2)
          obtain rfl : x' = knowF l D i q s := by rw [HROW.out, List.getElem?_mapIdx, hs] at hx'; cases hx'; rfl
          subst hpe2
          have hbW : Below w.heap.size w wr := by rw [← HGB.out]; exact hb
          have hc0 := cell_later hbW hc0'
          have hc1 := cell_later hbW hc1'
          have hc2 := cell_later hbW hc2'
          have hc3 := cell_later hbW hc3'
          obtain ⟨gr, hgr⟩ : ∃ gr, gr = (knowF l D i q s).group := ⟨_, rfl⟩
          obtain ⟨nm, hnm⟩ : ∃ nm, nm = (knowF l D i q s).named := ⟨_, rfl⟩
          obtain ⟨fst, hfst⟩ : ∃ fst, fst = (knowF l D i q s).first := ⟨_, rfl⟩
          obtain ⟨pcs, hpcs⟩ : ∃ pcs, pcs = pcsAt D (i, q, s) := ⟨_, rfl⟩
          have hpcs2 : (knowF l D i q s).pcs = pcs := hpcs.symm
          have HPCS := Lib.hid hpcs
          rw [hpcs2] at hc0 hpl
          rw [← hgr] at hc2
          rw [← hnm] at hc3
          rw [← hfst] at hc1
          have HPL := Lib.hid hpl
          obtain ⟨pn, hpn⟩ : ∃ pn, pn = pcs.length := ⟨_, rfl⟩
          have HPN := Lib.hid hpn
          rw [← hpn] at hc0
          have hpn16 : pn ≤ 16384 := by
            rw [hpn, hpcs]
            rcases pcs_ok (D := D) HSG.out HO.out hs with h | h
            · exact h.few
            · rw [h]; exact Nat.zero_le _
          have HHAS : Hid (pcs ≠ [] → pcs = piecesOf s) := Lib.hid fun h => by
            rw [hpcs] at h ⊢
            unfold pcsAt at h ⊢
            cases hq : hasN D (i, q, s) with
            | true => rfl
            | false => rw [hq] at h; exact absurd rfl h
          have hgr2 : gb < wr.heap.size := (Array.getElem?_eq_some_iff.1 hBr).1
          have hN2 := heap_alloc_new wr (.cells #[.slice pp pn cp, .int .i64 fst, .int .i64 gr, .bool nm] 211)
          have hb2 : Below wr.heap.size wr (wr.alloc (.cells #[.slice pp pn cp, .int .i64 fst, .int .i64 gr, .bool nm] 211)) := (Below.refl _ wr).alloc (Nat.le_refl _) _
          have j4 : (q : Int) < (ql : Int) := by omega
          have j5 : (0 : Int) ≤ (q : Int) := by omega
          clear hs hx' hc0' hc1' hc2' hc3' hbW hgr hnm hfst hpcs hpcs2 hpl hpn hpc1 hpc2 hpc3
          go_upto_region 8 with fail
          generalize wr.alloc (.cells #[.slice pp pn cp, .int .i64 fst, .int .i64 gr, .bool nm] 211) = w2 at *
          have HR3 := Lib.hid (HR2.out.below hb2)
          have HB2 := Lib.hid ((hb2.block gb hgr2).trans hBr)
          have HBB := Lib.hid (hb.trans (hb2.mono (Nat.le_of_lt hgr2)))
          have u0 : w2.cell? ⟨wr.heap.size, 0, none⟩ = some (.slice pp pn cp) := (cell_of_row w2 wr.heap.size 0 _ _ (0, 0) hN2).trans rfl
          clear hc0 hc1 hc2 hc3 hBr hb hb2 hN2 HR2
          generalize wr.heap.size = g8 at *
          go_wp2_with fail
          generalize hwo2 : wr = wo2 at *
          clear hwo2
          go_loopw [4, 31, 10, 11, 12] (fun r4 r31 _ _ _ wx => ∃ j : Nat, r31 = .int .i64 (j : Int) ∧ j ≤ pn ∧ NFul gb wx r4 (nodesOf l D (atTo ObjD.secs l i q) ++ (pcs.take j).map (mkN l D (i, q, s))) ∧ (0 < j → firstErr (codesN l D (i, q, s)) = 0) ∧ wx.heap[gb]? = some (.cells #[.slice p ln c, .slice q1 m1 d1, .slice q2 m2 d2, .slice (some ⟨g, og, none⟩) ln cs] 154 (0, 0)) ∧ Below gb w wx) (fun _ r31 _ _ _ _ => pn - (intOf r31).toNat)
          case atStart => exact ⟨0, rfl, Nat.zero_le _, by simpa using HR3.out, fun h => absurd h (Nat.lt_irrefl _), HB2.out, HBB.out⟩
          case round =>
            obtain ⟨j, rfl, hj, hR, hz3, hBr, hb⟩ := hrel
            have HRX := Lib.hid hR
            have HZ3 := Lib.hid hz3
            clear hR hz3 u0
            by_cases hjl : j < pn
            · obtain ⟨b5, o5, x, hp5, hx, hx0, hx1⟩ := HPL.out.at_ (i := j) (by rw [← HPN.out]; exact hjl)
              subst hp5
              have hbW : Below w.heap.size w wr := by rw [← HGB.out]; exact hb
              have x0 := cell_later hbW hx0.1
              have x1 := cell_later hbW hx1.1
              have HX := Lib.hid hx
              have hxm : x ∈ piecesOf s := by
                have h1 := List.mem_of_getElem? hx
                have h2 := HHAS.out (fun e => by rw [e] at h1; cases h1)
                rw [h2] at h1
                exact h1
              have HXM := Lib.hid hxm
              have hgr3 : gb < wr.heap.size := (Array.getElem?_eq_some_iff.1 hBr).1
              have hP := heap_alloc_new wr (.cells #[.int .i64 x.at_, .int .i64 x.size] 213)
              have hbP : Below wr.heap.size wr (wr.alloc (.cells #[.int .i64 x.at_, .int .i64 x.size] 213)) := (Below.refl _ wr).alloc (Nat.le_refl _) _
              have k1 : (j : Int) < (pn : Int) := by omega
              have k0 : (0 : Int) ≤ (j : Int) := by omega
              clear hx hx0 hx1 hxm hbW
              go_upto_region 11 with fail
              generalize wr.alloc (.cells #[.int .i64 x.at_, .int .i64 x.size] 213) = w4 at *
              have HR4 := Lib.hid (HRX.out.below hbP)
              have HB4 := Lib.hid ((hbP.block gb hgr3).trans hBr)
              have hbb4 := hb.trans (hbP.mono (Nat.le_of_lt hgr3))
              have HBB4 := Lib.hid hbb4
              obtain ⟨y0, y1, y2, y3⟩ := cells4q _ _ _ _ _ _ _ HB4.out
              obtain ⟨⟨p0, p1⟩, _⟩ := pair_cells _ _ _ _ _ hP
              have hnode := HNO.out w4 hbb4 i q o s x HO.out HSS.out HXM.out
              clear x0 x1 hBr hb hbP hP hbb4
              generalize wr.heap.size = g10 at *
              by_cases hc : firstErr (codesN l D (i, q, s)) = 0
              · have HC := Lib.hid hc
                obtain ⟨U, hU⟩ : ∃ U, U = uniqB l D (i, q, s) := ⟨_, rfl⟩
                obtain ⟨G, hG⟩ : ∃ G, G = groupB l i ((q : Int) + 1) := ⟨_, rfl⟩
                have HU := Lib.hid hU
                have HG := Lib.hid hG
                have HND : Hid (Calls Tryz.prog 115 #[.agg #[.slice p ln c, .slice q1 m1 d1, .slice q2 m2 d2, .slice (some ⟨g, og, none⟩) ln cs], .int .i64 (i : Int), .int .i64 ((q : Int) + 1), .agg #[.int .i64 x.at_, .int .i64 x.size]] w4 fun e w' => ∃ (p9 : Option Addr) (n9 c9 : Nat) (pe : Option Addr) (ne ce : Nat), e = .returned (.tuple #[.agg #[.int .i64 (i : Int), .int .i64 ((q : Int) + 1), .int .i64 x.at_, .string s.name, .int .i64 s.type, .int .i64 s.flags, .int .i64 s.align, .int .i64 s.ent, .int .i64 x.size, .slice p9 n9 c9, .slice pe ne ce, .bool U, .int .i64 G, .int .i64 s.link], .nilIface]) ∧ (NodeV.mk (mkN l D (i, q, s) x) (.slice p9 n9 c9) (.slice pe ne ce)).ok w4.heap.size w' ∧ Below w4.heap.size w4 w') := Lib.hid (hnode.mono fun e w' hE => by
                  obtain ⟨cs, h1, h2, h3⟩ := hE
                  rcases h2 with ⟨h2, _⟩ | ⟨_, nv, h4, h5, h6⟩
                  · exact absurd hc h2
                  · obtain ⟨x', d, e'⟩ := nv
                    obtain ⟨p9, c9, hd, _⟩ := slice_form h6.1
                    obtain ⟨pe, ce, he, _⟩ := slice_form h6.2.1
                    replace hd : d = .slice p9 x'.data.length c9 := hd
                    replace he : e' = .slice pe x'.edges.length ce := he
                    replace h5 : x' = mkN l D (i, q, s) x := h5
                    subst hd he h4
                    rw [hc] at h1
                    refine ⟨p9, x'.data.length, c9, pe, x'.edges.length, ce, ?_, ?_, h3⟩
                    · rw [h1, hU, hG, h5]; rfl
                    · rw [← h5]; exact h6)
                clear hnode hc hU hG
                go_upto_region 12 with (first | (go_at_call 115
                                                 refine HND.out.mono ?_
                                                 rintro e w5 ⟨p9, n9, c9, pe, ne, ce, rfl, hok5, hb5⟩) | fail)
                have hX := heap_alloc_new w5 (.cells #[.int .i64 (i : Int), .int .i64 ((q : Int) + 1), .int .i64 x.at_, .string s.name, .int .i64 s.type, .int .i64 s.flags, .int .i64 s.align, .int .i64 s.ent, .int .i64 x.size, .slice p9 n9 c9, .slice pe ne ce, .bool U, .int .i64 G, .int .i64 s.link] 86)
                have hb56 : Below w4.heap.size w4 (w5.alloc (.cells #[.int .i64 (i : Int), .int .i64 ((q : Int) + 1), .int .i64 x.at_, .string s.name, .int .i64 s.type, .int .i64 s.flags, .int .i64 s.align, .int .i64 s.ent, .int .i64 x.size, .slice p9 n9 c9, .slice pe ne ce, .bool U, .int .i64 G, .int .i64 s.link] 86)) := hb5.alloc hb5.size _
                have hb6 : Below w5.heap.size w5 (w5.alloc (.cells #[.int .i64 (i : Int), .int .i64 ((q : Int) + 1), .int .i64 x.at_, .string s.name, .int .i64 s.type, .int .i64 s.flags, .int .i64 s.align, .int .i64 s.ent, .int .i64 x.size, .slice p9 n9 c9, .slice pe ne ce, .bool U, .int .i64 G, .int .i64 s.link] 86)) := (Below.refl _ w5).alloc (Nat.le_refl _) _
                have hok6 := hok5.below hb6
                generalize w5.alloc (.cells #[.int .i64 (i : Int), .int .i64 ((q : Int) + 1), .int .i64 x.at_, .string s.name, .int .i64 s.type, .int .i64 s.flags, .int .i64 s.align, .int .i64 s.ent, .int .i64 x.size, .slice p9 n9 c9, .slice pe ne ce, .bool U, .int .i64 G, .int .i64 s.link] 86) = w6 at *
                generalize w5.heap.size = g11 at *
                have hgr4 : gb < w4.heap.size := (Array.getElem?_eq_some_iff.1 HB4.out).1
                have HB6 := Lib.hid ((hb56.block gb hgr4).trans HB4.out)
                have HBB6 := Lib.hid (HBB4.out.trans (hb56.mono (Nat.le_of_lt hgr4)))
                have hR6 := HR4.out.below hb56
                have HOK6 := Lib.hid (hok6.lower (Nat.le_of_lt hgr4))
                have hc : ∀ j v, (#[.int .i64 (i : Int), .int .i64 ((q : Int) + 1), .int .i64 x.at_, .string s.name, .int .i64 s.type, .int .i64 s.flags, .int .i64 s.align, .int .i64 s.ent, .int .i64 x.size, .slice p9 n9 c9, .slice pe ne ce, .bool U, .int .i64 G, .int .i64 s.link] : Array Value)[j]? = some v → w6.cell? ⟨g11, j, none⟩ = some v := fun j v hv => (cell_of_row w6 g11 j _ _ (0, 0) hX).trans hv
                have z0 := hc 0 _ rfl
                have z1 := hc 1 _ rfl
                have z2 := hc 2 _ rfl
                have z3 := hc 3 _ rfl
                have z4 := hc 4 _ rfl
                have z5 := hc 5 _ rfl
                have z6 := hc 6 _ rfl
                have z7 := hc 7 _ rfl
                have z8 := hc 8 _ rfl
                have z9 := hc 9 _ rfl
                have z10 := hc 10 _ rfl
                have z11 := hc 11 _ rfl
                have z12 := hc 12 _ rfl
                have z13 := hc 13 _ rfl
                obtain ⟨ns, hn1, hn2, hn3⟩ := hR6
                obtain ⟨po, co, rfl, _⟩ := slice_form hn1
                have hcount : (nodesOf l D (atTo ObjD.secs l i q) ++ (pcs.take j).map (mkN l D (i, q, s))).length ≤ 1001 * 16384000 + 16384 := by
                  rw [List.length_append]
                  have h1 := HFEW.out i q
                  have h4 : ((pcs.take j).map (mkN l D (i, q, s))).length ≤ 16384 := by
                    rw [List.length_map, List.length_take]
                    omega
                  have h5 : (i + 1) * 16384000 ≤ 1001 * 16384000 := Nat.mul_le_mul_right _ (by omega)
                  omega
                have hgb6 : gb ≤ w6.heap.size := Nat.le_of_lt (Array.getElem?_eq_some_iff.1 HB6.out).1
                have HYS : Hid (nodesOf l D (atTo ObjD.secs l i q) ++ (pcs.take (j + 1)).map (mkN l D (i, q, s)) = (nodesOf l D (atTo ObjD.secs l i q) ++ (pcs.take j).map (mkN l D (i, q, s))) ++ [mkN l D (i, q, s) x]) := Lib.hid (by rw [take_snocQ HX.out, List.map_append, List.append_assoc]; rfl)
                generalize nodesOf l D (atTo ObjD.secs l i q) ++ (pcs.take j).map (mkN l D (i, q, s)) = ys at *
                have HN2 := Lib.hid hn2
                have HN3 := Lib.hid hn3
                clear hc hX hb56 hb6 hb5 hok5 hok6 hn2 hn3 y0 y1 y2 y3 p0 p1
                go_wp2_with (at_builtin; refine wpList_append_own _ rfl (.tmp 47) (.tmp 49) 74 rfl gb 86 i0 (.agg nodeZ.toArray) 14 152 Tryz.underlying74 HI.out H0.out H1.out H2.out rfl (by decide) _ _ _ rfl (hn1.alloc _) ⟨w6.heap.size, 0, none⟩ 1 1 [.int .i64 (i : Int), .int .i64 ((q : Int) + 1), .int .i64 x.at_, .string s.name, .int .i64 s.type, .int .i64 s.flags, .int .i64 s.align, .int .i64 s.ent, .int .i64 x.size, .slice p9 n9 c9, .slice pe ne ce, .bool U, .int .i64 G, .int .i64 s.link] rfl rfl (cells_new w6 [.int .i64 (i : Int), .int .i64 ((q : Int) + 1), .int .i64 x.at_, .string s.name, .int .i64 s.type, .int .i64 s.flags, .int .i64 s.align, .int .i64 s.ent, .int .i64 x.size, .slice p9 n9 c9, .slice pe ne ce, .bool U, .int .i64 G, .int .i64 s.link] _) (fourteen_one _ _ _ _ _ _ _ _ _ _ _ _ _ _ _ _ _ _) (by unfold maxLen; omega) (by omega) (by simp; omega) ?_)
                intro v1 wb hown1 hgrow1 _
                have hba : Below w6.heap.size w6 (w6.alloc (.cells #[.int .i64 (i : Int), .int .i64 ((q : Int) + 1), .int .i64 x.at_, .string s.name, .int .i64 s.type, .int .i64 s.flags, .int .i64 s.align, .int .i64 s.ent, .int .i64 x.size, .slice p9 n9 c9, .slice pe ne ce, .bool U, .int .i64 G, .int .i64 s.link] 86)) := (Below.refl _ w6).alloc (Nat.le_refl _) _
                have hfrb : FrT gb [86] w6 wb := (FrT.of_below hba).trans (FrT.grown (hn1.alloc _) hgrow1 (by simp) (Nat.le_refl _))
                have hcl : NodeV.cells (NodeV.mk (mkN l D (i, q, s) x) (.slice p9 n9 c9) (.slice pe ne ce)) = [.int .i64 (i : Int), .int .i64 ((q : Int) + 1), .int .i64 x.at_, .string s.name, .int .i64 s.type, .int .i64 s.flags, .int .i64 s.align, .int .i64 s.ent, .int .i64 x.size, .slice p9 n9 c9, .slice pe ne ce, .bool U, .int .i64 G, .int .i64 s.link] := by rw [HG.out, HU.out]; rfl
                have hownb : wb.ownsRow gb 86 14 v1 (ys.length + 1) ((ns ++ [(NodeV.mk (mkN l D (i, q, s) x) (.slice p9 n9 c9) (.slice pe ne ce))]).flatMap NodeV.cells) := by
                  rw [flat_snoc, hcl]
                  exact hown1
                have HRELB : Hid (NFul gb wb v1 (nodesOf l D (atTo ObjD.secs l i q) ++ (pcs.take (j + 1)).map (mkN l D (i, q, s)))) := Lib.hid (by
                  rw [HYS.out]
                  refine ⟨ns ++ [(NodeV.mk (mkN l D (i, q, s) x) (.slice p9 n9 c9) (.slice pe ne ce))], by simpa using hownb, fun n hn => ?_, by rw [List.map_append, HN3.out]; rfl⟩
                  rcases List.mem_append.1 hn with hn | hn
                  · exact (HN2.out n hn).fr hfrb (by decide) (by decide)
                  · obtain rfl := List.mem_singleton.1 hn
                    exact HOK6.out.fr hfrb (by decide) (by decide))
                have HBX := Lib.hid (hfrb.heap HB6.out (by decide))
                have HBBX := Lib.hid (HBB6.out.trans (hfrb.below hgb6))
                clear hba hfrb hcl hownb hown1 hgrow1 hn1 hcount z0 z1 z2 z3 z4 z5 z6 z7 z8 z9 z10 z11 z12 z13
                go_wp2_with fail
                go_roundw
                case rel => exact ⟨j + 1, by go_num, hjl, HRELB.out, fun _ => HC.out, HBX.out, HBBX.out⟩
                case measure => simp [intOf]; omega
              · obtain ⟨code, hcode⟩ : ∃ code, code = firstErr (codesN l D (i, q, s)) := ⟨_, rfl⟩
                have HERR : Hid (errB l D = code) := Lib.hid (by rw [hcode]; exact errB_split HO.out HSS.out HZ2.out (fun e => by rw [← HPCS.out] at e; have h1 := HX.out; rw [e] at h1; simp at h1) hc)
                rw [← hcode] at hnode hc
                have HND : Hid (Calls Tryz.prog 115 #[.agg #[.slice p ln c, .slice q1 m1 d1, .slice q2 m2 d2, .slice (some ⟨g, og, none⟩) ln cs], .int .i64 (i : Int), .int .i64 ((q : Int) + 1), .agg #[.int .i64 x.at_, .int .i64 x.size]] w4 fun e w' => e = .returned (.tuple #[.agg nodeZ.toArray, .iface 36 (.int .i64 code)]) ∧ Below w4.heap.size w4 w') := Lib.hid (hnode.mono fun e w' hE => by
                  obtain ⟨cs, h1, h2, h3⟩ := hE
                  rcases h2 with ⟨_, rfl⟩ | ⟨h2, _⟩
                  · exact ⟨by rw [h1]; unfold errV; rw [if_neg hc], h3⟩
                  · exact absurd h2 hc)
                have HCN := Lib.hid hc
                clear hnode hcode hc
                go_upto_region 12 with (first | (go_at_call 115
                                                 refine HND.out.mono ?_
                                                 rintro e w5 ⟨rfl, hb5⟩) | fail)
                have hb56 : Below w4.heap.size w4 (w5.alloc (.cells nodeZ.toArray 86)) := hb5.alloc hb5.size _
                have hgr4 : gb < w4.heap.size := (Array.getElem?_eq_some_iff.1 HB4.out).1
                have HBB6 := Lib.hid (HBB4.out.trans (hb56.mono (Nat.le_of_lt hgr4)))
                generalize w5.alloc (.cells nodeZ.toArray 86) = w6 at *
                clear hb56 hb5 y0 y1 y2 y3 p0 p1
                go_wp2_with fail
                go_ret2
                rw [HERR.out]
                exact ⟨_, by unfold errV; rw [if_neg HCN.out]; rfl, .inr ⟨HCN.out, rfl⟩, by rw [← HGB.out]; exact HBB6.out⟩
            · obtain rfl : j = pn := by omega
              have hE : pcs.take j = pcs := List.take_of_length_le (by rw [← HPN.out]; exact Nat.le_refl _)
              have HREL : Hid (NFul gb wr _ (nodesOf l D (atTo ObjD.secs l i (q + 1)))) := Lib.hid (by
                have h1 := HRX.out
                rw [hE, HPCS.out] at h1
                rw [atTo_step HO.out HSS.out, nodesOf_append]
                have e2 : nodesOf l D [(i, q, s)] = (pcsAt D (i, q, s)).map (mkN l D (i, q, s)) := by simp [nodesOf]
                rw [e2]
                exact h1)
              have HZN : Hid (firstErr ((atTo ObjD.secs l i (q + 1)).flatMap (errsN l D)) = 0) := Lib.hid (by
                rw [atTo_step HO.out HSS.out, List.flatMap_append, firstErr_append, if_pos HZ2.out]
                have e2 : [(i, q, s)].flatMap (errsN l D) = errsN l D (i, q, s) := by simp
                rw [e2]
                by_cases h0 : 0 < j
                · exact errs_pieces (HZ3.out h0)
                · have hp0 : pcs = [] := List.eq_nil_of_length_eq_zero (by rw [← HPN.out]; omega)
                  unfold errsN
                  rw [← HPCS.out, hp0]
                  rfl)
              have HBX := Lib.hid hBr
              have k1 : ¬ (j : Int) < (j : Int) := by omega
              clear hE hBr
              go_wp2_with fail
              go_roundw
              case rel => exact ⟨q + 1, by go_num, hlt2, HREL.out, HZN.out, HBX.out, hb⟩
              case measure => simp [intOf]; omega
        · obtain rfl : q = ql := by omega
          have hE := atTo_end (f := ObjD.secs) HO.out (k := q) (by rw [← HQN.out]; exact Nat.le_refl _)
          have HREL : Hid (NFul gb wr _ (nodesOf l D (allTo ObjD.secs l (i + 1)))) := Lib.hid (by rw [← hE]; exact HR2.out)
          have HZN : Hid (firstErr ((allTo ObjD.secs l (i + 1)).flatMap (errsN l D)) = 0) := Lib.hid (by rw [← hE]; exact HZ2.out)
          have HBX := Lib.hid hBr
          have k1 : ¬ (q : Int) < (q : Int) := by omega
          clear hE hBr
          go_wp2_with fail
          go_roundw
          case rel => exact ⟨i + 1, by go_num, by omega, HREL.out, HZN.out, HBX.out, hb⟩
          case measure => simp [intOf]; omega
    · obtain rfl : i = ln := by omega
      have HE0 : Hid (errB l D = 0) := Lib.hid (by unfold errB secsTo; rw [HLN.out]; exact HZ.out)
      have HRL := Lib.hid (show NFul gb wr _ (nodesOf l D (secsTo l)) by unfold secsTo; rw [HLN.out]; exact HR.out)
      have k1 : ¬ (i : Int) < (i : Int) := by omega
      clear hBr
      go_wp2_with fail
      go_ret2
      rw [HE0.out]
      exact ⟨_, rfl, .inl ⟨rfl, by rw [← HGB.out]; exact HRL.out⟩, by rw [← HGB.out]; exact hb⟩
end Go.Proofs.YteopgmieindojaaGreat

namespace Go.Proofs.YteopgmieindojaaGreat
open Go.RowKit
def idxOf (entry : ByteArray) : List NmD → Int
 | [] => -1
 | n :: ns => if sEq n.name entry then 0 else if idxOf entry ns < 0 then -1 else idxOf entry ns + 1
theorem idxOf_none {entry : ByteArray} : ∀ {l : List NmD}, (∀ n ∈ l, sEq n.name entry = false) → idxOf entry l = -1
 | [], _ => rfl
 | n :: l, h => by
  unfold idxOf
  rw [h n (by simp), idxOf_none fun m hm => h m (by simp [hm])]
  simp
theorem idxOf_at {entry : ByteArray} : ∀ {l : List NmD} {i : Nat} {x : NmD}, l[i]? = some x → sEq x.name entry = true → (∀ j y, j < i → l[j]? = some y → sEq y.name entry = false) → idxOf entry l = (i : Int)
 | [], i, x, h, _, _ => by simp at h
 | n :: l, 0, x, h, hx, _ => by
  simp at h
  subst h
  unfold idxOf
  rw [hx]
  rfl
 | n :: l, i + 1, x, h, hx, ha => by
  have h0 := ha 0 n (by omega) rfl
  have ih := idxOf_at (l := l) (i := i) (by simpa using h) hx fun j y hj hy => ha (j + 1) y (by omega) (by simpa using hy)
  unfold idxOf
  rw [h0, ih]
  simp
  omega
theorem idxOf_find (entry : ByteArray) : ∀ l : List NmD, (idxOf entry l < 0 ∧ l.find? (fun n => sEq n.name entry) = none) ∨ ∃ (i : Nat) (x : NmD), idxOf entry l = (i : Int) ∧ l[i]? = some x ∧ l.find? (fun n => sEq n.name entry) = some x
 | [] => .inl ⟨by simp [idxOf], rfl⟩
 | n :: l => by
  unfold idxOf
  rw [List.find?_cons]
  cases hx : sEq n.name entry with
  | true => exact .inr ⟨0, n, by simp, by simp, rfl⟩
  | false =>
   rcases idxOf_find entry l with ⟨h1, h2⟩ | ⟨i, x, h1, h2, h3⟩
   ·exact .inl ⟨by simp [h1], h2⟩
   ·refine .inr ⟨i + 1, x, ?_, by simpa using h2, h3⟩
    rw [h1]
    simp
    omega
set_option maxRecDepth 100000 in
set_option maxHeartbeats 1000000 in
theorem buildFn1_any (nm entry : ByteArray) (t a : Int) (ge : Nat) (w : World) (h : w.cell? ⟨ge, 0, none⟩ = some (.string entry)) :
  Calls Tryz.prog 72 #[.agg #[.string nm, .int .i64 t, .int .i64 a], .pointer (some ⟨ge, 0, none⟩)] w fun e w' => e = .returned (.bool (sEq nm entry)) ∧ Below w.heap.size w w' := by
 have hb : Below w.heap.size w (w.alloc (.cells #[.string nm, .int .i64 t, .int .i64 a] 96)) := (Below.refl _ w).alloc (Nat.le_refl _) _
 have hX := heap_alloc_new w (.cells #[.string nm, .int .i64 t, .int .i64 a] 96)
 have h2 := cell_later hb h
 obtain ⟨⟨x0, x1, x2⟩, _⟩ := three_cells _ _ _ _ _ _ hX
 clear h hX
 go_enter Tryz.func72, Tryz.ntmps72
 go_upto_region 1 with fail
 go_wp2_with fail
 go_ret
 exact ⟨rfl, hb⟩
set_option maxRecDepth 100000 in
set_option maxHeartbeats 2000000 in
theorem indexFn_any (p : Option Addr) (c ge : Nat) (l : List NmD) (entry : ByteArray) (w : World) (h : HasL 3 ENm w p l) (hl : l.length ≤ 1000000) (he : w.cell? ⟨ge, 0, none⟩ = some (.string entry)) :
  Calls Tryz.prog 71 #[.slice p l.length c, .func (.func 72) #[] #[.pointer (some ⟨ge, 0, none⟩)]] w fun e w' => e = .returned (.int .i64 (idxOf entry l)) ∧ Below w.heap.size w w' := by
 have HH := Lib.hid fun W (hW : Below w.heap.size w W) => h.below ENm.keeps hW
 have HF := Lib.hid fun W (hW : Below w.heap.size w W) nm t a => buildFn1_any nm entry t a ge W (cell_later hW he)
 obtain ⟨n, hn⟩ : ∃ n, n = l.length := ⟨_, rfl⟩
 have HN := Lib.hid hn
 rw [← hn] at hl ⊢
 obtain ⟨res, hres⟩ : ∃ res, res = idxOf entry l := ⟨_, rfl⟩
 have HRES := Lib.hid hres
 rw [← hres]
 clear h he hn hres
 go_enter Tryz.func71, Tryz.ntmps71
 go_wp2_with fail
 go_loopw [8, 5] (fun r8 _ wr => ∃ k : Nat, r8 = .int .i64 (k : Int) ∧ k ≤ n ∧ (∀ j y, j < k → l[j]? = some y → sEq y.name entry = false) ∧ Below w.heap.size w wr) (fun r8 _ _ => n - (intOf r8).toNat)
 case atStart => exact ⟨0, rfl, Nat.zero_le _, fun j y hj => absurd hj (Nat.not_lt_zero _), Below.refl _ _⟩
 case round =>
  obtain ⟨k, rfl, hk, ha, hb⟩ := hrel
  have HAH := Lib.hid ha
  clear ha
  by_cases hlt : k < n
  ·obtain ⟨b, o, x, hpe, hx, e0, e1, e2⟩ := (HH.out wr hb).at_ (i := k) (by rw [← HN.out]; exact hlt)
   subst hpe
   have x0 := e0.1
   have x1 := e1.1
   have x2 := e2.1
   have HX := Lib.hid hx
   have hf := HF.out wr hb x.name x.to_ x.at_
   obtain ⟨nm, hnm⟩ : ∃ nm, nm = x.name := ⟨_, rfl⟩
   rw [← hnm] at hf x0
   obtain ⟨q, hq⟩ : ∃ q, q = sEq nm entry := ⟨_, rfl⟩
   have HQ : Hid (q = sEq x.name entry) := Lib.hid (by rw [hq, hnm])
   rw [← hq] at hf
   have HFX := Lib.hid hf
   have j1 : (k : Int) < (n : Int) := by omega
   have j0 : (0 : Int) ≤ (k : Int) := by omega
   clear hx e0 e1 e2 hf hnm hq
   cases q with
   | true =>
    have HR : Hid (res = (k : Int)) := Lib.hid (by rw [HRES.out]; exact idxOf_at HX.out HQ.out.symm HAH.out)
    go_wp2_with fail
    refine HFX.out.mono ?_
    rintro e w2 ⟨rfl, hb2⟩
    have hb3 := hb.trans (hb2.mono hb.size)
    clear hb2 hb x0 x1 x2
    go_wp2_with fail
    go_ret
    rw [HR.out]
    exact ⟨rfl, hb3⟩
   | false =>
    have HA2 : Hid (∀ j y, j < k + 1 → l[j]? = some y → sEq y.name entry = false) := Lib.hid fun j y hj hy => by
     by_cases h : j = k
     ·subst h
      rw [HX.out] at hy
      cases hy
      exact HQ.out.symm
     ·exact HAH.out j y (by omega) hy
    go_wp2_with fail
    refine HFX.out.mono ?_
    rintro e w2 ⟨rfl, hb2⟩
    have hb3 := hb.trans (hb2.mono hb.size)
    clear hb2 hb x0 x1 x2
    go_wp2_with fail
    go_roundw
    case rel => exact ⟨k + 1, by go_num, hlt, HA2.out, hb3⟩
    case measure => simp [intOf]; omega
  ·have HR : Hid (res = -1) := Lib.hid (by
    rw [HRES.out]
    refine idxOf_none fun m hm => ?_
    obtain ⟨j, hj⟩ := List.getElem?_of_mem hm
    have hjl := (List.getElem?_eq_some_iff.1 hj).1
    exact HAH.out j m (by have := HN.out; omega) hj)
   have j1 : ¬ (k : Int) < (n : Int) := by omega
   go_wp2_with fail
   go_ret
   rw [HR.out]
   exact ⟨rfl, hb⟩
end Go.Proofs.YteopgmieindojaaGreat

namespace Go.Proofs.YteopgmieindojaaGreat
open Go.ChangeMaps Go.RowKit
def SMap (w : World) (B : Nat) (m : List (ByteArray × Value)) : Prop := ∃ es clock, w.heap[B]? = some (.map es clock) ∧ es.toList.map (fun e => (e.key, e.val)) = m.map (fun p => (Value.string p.1, p.2)) ∧ (es.toList.map (·.born)).Nodup ∧ ∀ e ∈ es.toList, e.born < clock
def mAt (s : ByteArray) : List (ByteArray × Value) → Nat → Option (Nat × Value)
 | [], _ => none
 | p :: r, i => bif s == p.1 then some (i, p.2) else mAt s r (i + 1)
theorem SMap.made (w : World) : SMap (w.alloc (.map #[] 0)) w.heap.size [] := ⟨#[], 0, heap_alloc_new w _, rfl, by simp, by simp⟩
theorem SMap.lt {w : World} {B : Nat} {m : List (ByteArray × Value)} (h : SMap w B m) : B < w.heap.size := by
 obtain ⟨es, c, hb, _⟩ := h
 exact (Array.getElem?_eq_some_iff.1 hb).1
theorem SMap.below {w w' : World} {B : Nat} {m : List (ByteArray × Value)} (h : SMap w B m) (hb : Below w.heap.size w w') : SMap w' B m := by
 have hl := h.lt
 obtain ⟨es, c, h1, h2⟩ := h
 exact ⟨es, c, (hb.block B hl).trans h1, h2⟩
theorem SMap.block {w w' : World} {B : Nat} {m : List (ByteArray × Value)} (h : SMap w B m) (hb : w'.heap[B]? = w.heap[B]?) : SMap w' B m := by
 obtain ⟨es, c, h1, h2⟩ := h
 exact ⟨es, c, hb.trans h1, h2⟩
theorem findNow_str (s : ByteArray) : ∀ (es : List MapEntry) (m : List (ByteArray × Value)) (i : Nat), es.map (fun e => (e.key, e.val)) = m.map (fun p => (Value.string p.1, p.2)) → Instr.findNow .string (.string s) es i = some (mAt s m i)
 | [], [], _, _ => rfl
 | [], _ :: _, _, h => by simp at h
 | _ :: _, [], _, h => by simp at h
 | e :: es, p :: m, i, h => by
  simp only [List.map_cons, List.cons.injEq, Prod.mk.injEq] at h
  obtain ⟨⟨h1, h2⟩, h3⟩ := h
  unfold Instr.findNow mAt
  rw [h1, h2, findNow_str s es m (i + 1) h3]
  show (match some (s == p.1) with | some true => _ | some false => _ | none => _) = _
  cases s == p.1 <;> rfl
section
variable {P : Program} {w : World} {B : Nat} {m : List (ByteArray × Value)} {t k e : TypeId}
theorem run_findKey_str (s : ByteArray) (hk : P.underlying k = some .string) {es : List MapEntry} (h : es.map (fun e => (e.key, e.val)) = m.map (fun p => (Value.string p.1, p.2))) : (Instr.findKey k (.string s) es).run P w = .ok (mAt s m 0) w := by
 unfold Instr.findKey
 simp [run_underlying hk, findNow_str s es m 0 h, Result.andThen]
theorem run_checkKey_str (s : ByteArray) (b : Bool) (hk : P.underlying k = some .string) : (Instr.checkKey b 10000 k (.string s)).run P w = .ok () w := by
 unfold Instr.checkKey
 simp [run_underlying hk, Result.andThen]
theorem SMap.look (h : SMap w B m) (s : ByteArray) (ht : P.underlying t = some (.map k e)) (hk : P.underlying k = some .string) {z : Value} (hz : (zeroValue e).run P w = .ok z w) :
  (Instr.lookup t (.map (some B)) (.string s) true).run P w = .ok (.tuple #[((mAt s m 0).map (·.2)).getD z, .bool (mAt s m 0).isSome]) w := by
 obtain ⟨es, c, h1, h2, _⟩ := h
 unfold Instr.lookup
 cases hq : mAt s m 0 with
 | none => simp [run_underlying ht, MapKept.run_getObj_map h1, run_checkKey_str s _ hk, run_findKey_str s hk h2, hq, hz, Result.andThen]
 | some p => simp [run_underlying ht, MapKept.run_getObj_map h1, run_checkKey_str s _ hk, run_findKey_str s hk h2, hq, Result.andThen]
theorem SMap.get (h : SMap w B m) (s : ByteArray) (ht : P.underlying t = some (.map k e)) (hk : P.underlying k = some .string) {z : Value} (hz : (zeroValue e).run P w = .ok z w) :
  (Instr.lookup t (.map (some B)) (.string s) false).run P w = .ok (((mAt s m 0).map (·.2)).getD z) w := by
 obtain ⟨es, c, h1, h2, _⟩ := h
 unfold Instr.lookup
 cases hq : mAt s m 0 with
 | none => simp [run_underlying ht, MapKept.run_getObj_map h1, run_checkKey_str s _ hk, run_findKey_str s hk h2, hq, hz, Result.andThen]
 | some p => simp [run_underlying ht, MapKept.run_getObj_map h1, run_checkKey_str s _ hk, run_findKey_str s hk h2, hq, Result.andThen]
def mPut (m : List (ByteArray × Value)) (s : ByteArray) (v : Value) : List (ByteArray × Value) := match mAt s m 0 with
 | some (i, _) => m.set i (s, v)
 | none => m ++ [(s, v)]
theorem mAt_some {s : ByteArray} : ∀ {m : List (ByteArray × Value)} {i j : Nat} {v : Value}, mAt s m i = some (j, v) → ∃ n, j = i + n ∧ ∃ q, m[n]? = some (q, v) ∧ (s == q) = true
 | [], _, _, _, h => by cases h
 | p :: m, i, j, v, h => by
  unfold mAt at h
  cases hp : s == p.1 with
  | true => rw [hp] at h; cases h; exact ⟨0, rfl, p.1, rfl, hp⟩
  | false =>
   rw [hp] at h
   obtain ⟨n, h1, q, h2, h3⟩ := mAt_some h
   exact ⟨n + 1, by omega, q, by simpa using h2, h3⟩
theorem run_keyThatStays_str (a b : ByteArray) (h : (a == b) = true) : (Instr.keyThatStays (.string a) (.string b)).run P w = .ok (.string b) w := by
 unfold Instr.keyThatStays
 have : Instr.sameBits 10000 (.string a) (.string b) = true := by unfold Instr.sameBits; exact h
 rw [this]
 rfl
theorem set_map {es : List MapEntry} {m : List (ByteArray × Value)} (h : es.map (fun e => (e.key, e.val)) = m.map (fun p => (Value.string p.1, p.2))) (n : Nat) (s : ByteArray) (v : Value) :
  (es.modify n fun e => { e with key := .string s, val := v }).map (fun e => (e.key, e.val)) = (m.set n (s, v)).map (fun p => (Value.string p.1, p.2)) := by
 rw [List.map_set, ← h]
 apply List.ext_getElem?
 intro i
 rw [List.getElem?_map, List.getElem?_modify, List.getElem?_set, List.getElem?_map, List.length_map]
 by_cases hi : n = i
 ·subst hi
  cases hq : es[n]? with
  | none => rw [if_pos rfl, if_neg (by have := List.getElem?_eq_none_iff.1 hq; omega)]; rfl
  | some x => rw [if_pos rfl, if_pos (List.getElem?_eq_some_iff.1 hq).1]; simp
 ·rw [if_neg hi]
  cases es[i]? <;> simp [hi]
theorem born_modify (es : List MapEntry) (n : Nat) (s : ByteArray) (v : Value) : (es.modify n fun e => { e with key := .string s, val := v }).map (·.born) = es.map (·.born) := by
 apply List.ext_getElem?
 intro i
 rw [List.getElem?_map, List.getElem?_modify, List.getElem?_map]
 cases es[i]? with
 | none => rfl
 | some x => by_cases h : n = i <;> simp [h]
theorem SMap.put (h : SMap w B m) (s : ByteArray) (v : Value) (ht : P.underlying t = some (.map k e)) (hk : P.underlying k = some .string) :
  ∃ w', (Instr.mapUpdate t (.map (some B)) (.string s) v).run P w = .ok () w' ∧ SMap w' B (mPut m s v) ∧ w.grownBy w' (some B) := by
 obtain ⟨es, c, h1, h2, h3, h4⟩ := h
 have hgr : ∀ o, w.grownBy (setBlock w B o) (some B) := fun o => ⟨rfl, rfl, rfl, by simp [setBlock], fun i _ hi => heap_setBlock_other h1 _ (fun e => hi (by rw [e]))⟩
 unfold Instr.mapUpdate mPut
 cases hq : mAt s m 0 with
 | none =>
  refine ⟨setBlock w B (.map (es.push { key := .string s, val := v, born := c }) (c + 1)), ?_, ⟨_, _, heap_setBlock_same h1 _, ?_, ?_, ?_⟩, hgr _⟩
  ·simp [run_underlying ht, MapKept.run_getObj_map h1, run_checkKey_str s _ hk, run_findKey_str s hk h2, hq, MapKept.run_setObj_map _ h1, Result.andThen, setBlock]
  ·rw [Array.toList_push, List.map_append, h2, List.map_append]
   rfl
  ·rw [Array.toList_push, List.map_append, List.nodup_append]
   refine ⟨h3, by simp, fun a ha b hb => ?_⟩
   obtain ⟨x, hx, rfl⟩ := List.mem_map.1 ha
   simp at hb
   subst hb
   have := h4 x hx
   omega
  ·intro x hx
   rw [Array.toList_push] at hx
   rcases List.mem_append.1 hx with hx | hx
   ·have := h4 x hx; omega
   ·obtain rfl := List.mem_singleton.1 hx
    show c < c + 1
    omega
 | some p =>
  obtain ⟨n, u⟩ := p
  obtain ⟨n', e1, q, hn, hs⟩ := mAt_some hq
  rw [Nat.zero_add] at e1
  subst e1
  have hlen : es.toList.length = m.length := by have := congrArg List.length h2; simpa using this
  have hnl : n < es.toList.length := by rw [hlen]; exact (List.getElem?_eq_some_iff.1 hn).1
  have hkey : (es[n]?).map (·.key) = some (.string q) := by
   have := congrArg (fun l => (l[n]?).map Prod.fst) h2
   simp only [List.getElem?_map, hn, Option.map_some] at this
   rw [← Array.getElem?_toList]
   cases hx : es.toList[n]? with
   | none => rw [hx] at this; cases this
   | some x => rw [hx] at this; simpa using this
  have hqs : (q == s) = true := by rw [MapKept.bytes_beq] at hs ⊢; exact hs.symm
  refine ⟨setBlock w B (.map (es.modify n fun e => { e with key := .string s, val := v }) c), ?_, ⟨_, _, heap_setBlock_same h1 _, ?_, ?_, ?_⟩, hgr _⟩
  ·simp [run_underlying ht, MapKept.run_getObj_map h1, run_checkKey_str s _ hk, run_findKey_str s hk h2, hq, hkey, run_keyThatStays_str q s hqs, MapKept.run_setObj_map _ h1, Result.andThen, setBlock]
  ·rw [Array.toList_modify]
   exact set_map h2 n s v
  ·rw [Array.toList_modify, born_modify]
   exact h3
  ·intro x hx
   rw [Array.toList_modify] at hx
   have hb : x.born ∈ (es.toList.modify n fun e => { e with key := .string s, val := v }).map (·.born) := List.mem_map_of_mem hx
   rw [born_modify] at hb
   obtain ⟨y, hy, e⟩ := List.mem_map.1 hb
   rw [← e]
   exact h4 y hy
end
end Go.Proofs.YteopgmieindojaaGreat

namespace Go.Proofs.YteopgmieindojaaGreat
open Go.ChangeMaps Go.RowKit
def mVal (s : ByteArray) : List (ByteArray × Value) → Option Value
 | [] => none
 | p :: r => bif s == p.1 then some p.2 else mVal s r
theorem mAt_val (s : ByteArray) : ∀ (m : List (ByteArray × Value)) (i : Nat), (mAt s m i).map (·.2) = mVal s m
 | [], _ => rfl
 | p :: r, i => by
  unfold mAt mVal
  cases s == p.1 with
  | true => rfl
  | false => exact mAt_val s r (i + 1)
theorem beq_self (s : ByteArray) : (s == s) = true := (MapKept.bytes_beq s s).2 rfl
theorem mVal_snoc (t s : ByteArray) (v : Value) : ∀ m : List (ByteArray × Value), mVal s m = none → mVal t (m ++ [(s, v)]) = bif t == s then some v else mVal t m
 | [], _ => by
  show (bif t == s then some v else none) = _
  rfl
 | p :: r, h => by
  unfold mVal at h
  cases hp : s == p.1 with
  | true => rw [hp] at h; cases h
  | false =>
   rw [hp] at h
   have ih := mVal_snoc t s v r h
   show (bif t == p.1 then some p.2 else mVal t (r ++ [(s, v)])) = bif t == s then some v else bif t == p.1 then some p.2 else mVal t r
   rw [ih]
   cases ht : t == s with
   | false => rfl
   | true =>
    obtain rfl := (MapKept.bytes_beq t s).1 ht
    rw [hp]
    rfl
theorem mVal_set (t s : ByteArray) (v : Value) : ∀ (m : List (ByteArray × Value)) (i n : Nat) (u : Value), mAt s m i = some (i + n, u) → mVal t (m.set n (s, v)) = bif t == s then some v else mVal t m
 | [], _, _, _, h => by cases h
 | p :: r, i, n, u, h => by
  unfold mAt at h
  cases hp : s == p.1 with
  | true =>
   rw [hp] at h
   simp only [cond_true, Option.some.injEq, Prod.mk.injEq] at h
   obtain rfl : n = 0 := by omega
   show (bif t == s then some v else mVal t r) = bif t == s then some v else bif t == p.1 then some p.2 else mVal t r
   rw [← (MapKept.bytes_beq _ _).1 hp]
   cases t == s <;> rfl
  | false =>
   rw [hp] at h
   simp only [cond_false] at h
   obtain ⟨k, hk, _⟩ := mAt_some h
   obtain ⟨n', rfl⟩ : ∃ n', n = n' + 1 := ⟨n - 1, by omega⟩
   have ih := mVal_set t s v r (i + 1) n' u (by rw [h, show i + (n' + 1) = i + 1 + n' by omega])
   show (bif t == p.1 then some p.2 else mVal t (r.set n' (s, v))) = bif t == s then some v else bif t == p.1 then some p.2 else mVal t r
   rw [ih]
   cases ht : t == s with
   | false => rfl
   | true =>
    obtain rfl := (MapKept.bytes_beq t s).1 ht
    rw [hp]
    rfl
theorem mVal_put (t s : ByteArray) (v : Value) (m : List (ByteArray × Value)) : mVal t (mPut m s v) = bif t == s then some v else mVal t m := by
 unfold mPut
 cases hq : mAt s m 0 with
 | none => exact mVal_snoc t s v m (by rw [← mAt_val s m 0, hq]; rfl)
 | some x =>
  obtain ⟨n, u⟩ := x
  exact mVal_set t s v m 0 n u (by rw [hq, Nat.zero_add])
section
variable {P : Program}
theorem wpList_lookup_str_ok (w : World) {ops : Array Oper} {rest : List Oper} {o : Oper} {a : Act} {Q : Exit → Act → World → Prop}
  (hg : o.guard = none) (m x : Operand) (t : TypeId) (hop : o.op = Op.lookup t m x true) (k e : TypeId) (ht : P.underlying t = some (.map k e)) (hk : P.underlying k = some .string) (z : Value) (hz : ∀ w, (zeroValue e).run P w = .ok z w)
  (b : Nat) (ml : List (ByteArray × Value)) (hm : a.eval m = .map (some b)) (h : SMap w b ml) (s : ByteArray) (hx : a.eval x = .string s)
  (hK : wpList P ops Q rest (a.put o.dst (.tuple #[(mVal s ml).getD z, .bool (mVal s ml).isSome])) w) : wpList P ops Q (o :: rest) a w := by
 refine wpList_plain hg fun K' hK' => ?_
 have hrun := h.look s ht hk (hz w)
 rw [mAt_val, show (mAt s ml 0).isSome = (mVal s ml).isSome by rw [← mAt_val s ml 0]; cases mAt s ml 0 <;> rfl] at hrun
 unfold Oper.wp
 simp [execOp, hop, hm, hx, hrun, Result.andThen]
 exact hK' _ _ hK
theorem wpList_mapUpdate_str (w : World) {ops : Array Oper} {rest : List Oper} {o : Oper} {a : Act} {Q : Exit → Act → World → Prop}
  (hg : o.guard = none) (m x v : Operand) (t : TypeId) (hop : o.op = Op.mapUpdate t m x v) (k e : TypeId) (ht : P.underlying t = some (.map k e)) (hk : P.underlying k = some .string)
  (b : Nat) (ml : List (ByteArray × Value)) (hm : a.eval m = .map (some b)) (h : SMap w b ml) (s : ByteArray) (hx : a.eval x = .string s) (val : Value) (hv : a.eval v = val)
  (hK : ∀ w', SMap w' b (mPut ml s val) → w.grownBy w' (some b) → wpList P ops Q rest (a.put o.dst undef) w') : wpList P ops Q (o :: rest) a w := by
 refine wpList_plain hg fun K' hK' => ?_
 obtain ⟨w', hrun, r1, r2⟩ := h.put s val ht hk
 unfold Oper.wp
 simp [execOp, hop, hm, hx, hv, hrun, Result.andThen]
 exact hK' _ _ (hK w' r1 r2)
end
end Go.Proofs.YteopgmieindojaaGreat

namespace Go.Proofs.YteopgmieindojaaGreat
open Go.RowKit
def defdB (defs : List DefD) (x : Sy) : Bool := x.2.2.bind != 1 || (findL defs x.2.2.name).isSome
theorem all_snoc {α : Type} {f : ObjD → List α} {l : List ObjD} {i k : Nat} {o : ObjD} {x : α} (q : Nat × Nat × α → Bool) (ho : l[i]? = some o) (hx : (f o)[k]? = some x) : (atTo f l i (k + 1)).all q = ((atTo f l i k).all q && q (i, k, x)) := by
 rw [atTo_step ho hx, List.all_append]
 simp
theorem all_out {α : Type} {f : ObjD → List α} {l : List ObjD} {i k : Nat} {o : ObjD} {x : α} {q : Nat × Nat × α → Bool} (ho : l[i]? = some o) (hx : (f o)[k]? = some x) (hq : q (i, k, x) = false) : (allTo f l l.length).all q = false := by
 rw [List.all_eq_false]
 exact ⟨(i, k, x), allTo_mem.2 ⟨(List.getElem?_eq_some_iff.1 ho).1, o, ho, hx⟩, by rw [hq]; simp⟩
set_option maxRecDepth 100000 in
set_option maxHeartbeats 4000000 in
theorem allDefined_any (p pf : Option Addr) (c nf cf : Nat) (vD : Value) (l : List ObjD) (defs : List DefD) (w : World) (h : HasL 5 EObj w p l) (hok : ∀ o ∈ l, OkD o) (hlc : l.length ≤ 1000)
  (hf : HasL 3 EDef w pf defs) (hfn : defs.length = nf) (hfb : nf ≤ 100000) (hfs : DSorted defs) :
  Calls Tryz.prog 55 #[.slice p l.length c, .agg #[vD, .slice pf nf cf]] w fun e w' => e = .returned (.bool ((allTo ObjD.syms l l.length).all (defdB defs))) ∧ Below w.heap.size w w' := by
 obtain ⟨wa, hwa⟩ : ∃ wa, wa = w.alloc (.cells #[vD, .slice pf nf cf] 49) := ⟨_, rfl⟩
 have ha : Below w.heap.size w wa := by rw [hwa]; exact (Below.refl _ w).alloc (Nat.le_refl _) _
 have sa : wa.heap.size = w.heap.size + 1 := by rw [hwa]; simp
 have hA0 : wa.heap[w.heap.size]? = some (.cells #[vD, .slice pf nf cf] 49 (0, 0)) := by rw [hwa]; exact heap_alloc_new w _
 obtain ⟨r, hr⟩ : ∃ r, r = (allTo ObjD.syms l l.length).all (defdB defs) := ⟨_, rfl⟩
 rw [← hr]
 have HR := Lib.hid hr
 have HWA := Lib.hid hwa
 have HA0 := Lib.hid hA0
 have HA := Lib.hid ha
 have HSA := Lib.hid sa
 have HH := Lib.hid h
 have HOK := Lib.hid hok
 have HFI := Lib.hid fun W (hW : Below w.heap.size w W) (name : ByteArray) => nfind_any pf nf cf vD defs name W (hf.below EDef.keeps hW) hfn hfb hfs
 have HOUT := Lib.hid fun (i k : Nat) (o : ObjD) (x : SymD) (ho : l[i]? = some o) (hx : o.syms[k]? = some x) hq => all_out (f := ObjD.syms) (q := defdB defs) ho hx hq
 generalize hln : l.length = ln at *
 have HLN := Lib.hid hln
 clear h hok hwa ha sa hA0 hr hf hfn hfs hln
 go_enter Tryz.func55, Tryz.ntmps55
 go_upto_region 1 with fail
 rw [← HWA.out]
 clear HWA
 generalize hgb : w.heap.size = gb at *
 have HGB := Lib.hid hgb
 clear hgb
 go_wp2_with fail
 go_loopw [13] (fun r13 wr => ∃ i : Nat, i ≤ ln ∧ r13 = .int .i64 (i : Int) ∧ (allTo ObjD.syms l i).all (defdB defs) = true ∧ Below (gb + 1) wa wr) (fun r13 _ => ln - (intOf r13).toNat)
 case atStart => exact ⟨0, Nat.zero_le _, rfl, rfl, by rw [← HSA.out]; exact Below.refl _ _⟩
 case round =>
  obtain ⟨i, hi, rfl, hall, hbr⟩ := hrel
  have HALL := Lib.hid hall
  have hbw : Below gb w wr := HA.out.trans (hbr.mono (by omega))
  clear hall
  by_cases hlt : i < ln
  ·obtain ⟨o, ho⟩ : ∃ o, l[i]? = some o := ⟨_, List.getElem?_eq_getElem (by rw [HLN.out]; exact hlt)⟩
   obtain ⟨b, off, p0, p1, p2, p4, c0, c1, c2, c4, hpe, e0, e1, e2, e3, e4, _, hsy0, _⟩ := objs_at (HH.out.below EObj.keeps (show Below w.heap.size w wr by rw [HGB.out]; exact hbw)) ho
   subst hpe
   have HO := Lib.hid ho
   have hyl := (HOK.out o (List.mem_of_getElem? ho)).few.2.1
   have hI : (i : Int) < (ln : Int) := by omega
   have hI0 : (0 : Int) ≤ (i : Int) := by omega
   have hI1 : ¬ (ln : Int) ≤ (i : Int) := by omega
   have hst0 : Hid ((atTo ObjD.syms l i 0).all (defdB defs) = true) := Lib.hid (by rw [atTo_zero]; exact HALL.out)
   clear ho
   have hbo : Below wr.heap.size wr (wr.alloc (.cells #[.slice p0 o.secs.length c0, .slice p1 o.syms.length c1, .slice p2 o.groups.length c2, .bool o.hasSig, .slice p4 o.sig.length c4] 27)) := (Below.refl _ wr).alloc (Nat.le_refl _) _
   go_upto_region 4 with fail
   obtain ⟨⟨u0, u1, u2, u3, u4'⟩, _⟩ := cells5 _ _ _ _ _ _ _ _ (heap_alloc_new wr (.cells #[.slice p0 o.secs.length c0, .slice p1 o.syms.length c1, .slice p2 o.groups.length c2, .bool o.hasSig, .slice p4 o.sig.length c4] 27))
   have hbr2 : Below (gb + 1) wa (wr.alloc (.cells #[.slice p0 o.secs.length c0, .slice p1 o.syms.length c1, .slice p2 o.groups.length c2, .bool o.hasSig, .slice p4 o.sig.length c4] 27)) := hbr.trans (hbo.mono (by have := hbr.size; have := HSA.out; omega))
   have hsy := hsy0.below ESym.keeps hbo
   generalize wr.alloc (.cells #[.slice p0 o.secs.length c0, .slice p1 o.syms.length c1, .slice p2 o.groups.length c2, .bool o.hasSig, .slice p4 o.sig.length c4] 27) = wo at *
   generalize hyn : o.syms.length = yn at *
   have HYN := Lib.hid hyn
   have HSY := Lib.hid hsy
   have HBR2 := Lib.hid hbr2
   generalize wr.heap.size = gob at *
   clear hsy0 hbo hyn hsy hbr2 e0 e1 e2 e3 e4 u0 u2 u3 u4' hbr hbw HALL
   go_wp2_with fail
   go_loopw [20] (fun r20 wr => ∃ k : Nat, k ≤ yn ∧ r20 = .int .i64 (k : Int) ∧ (atTo ObjD.syms l i k).all (defdB defs) = true ∧ Below wo.heap.size wo wr) (fun r20 _ => yn - (intOf r20).toNat)
   case atStart => exact ⟨0, Nat.zero_le _, rfl, hst0.out, Below.refl _ _⟩
   case round =>
    obtain ⟨k, hk, rfl, hall, hbi⟩ := hrel
    have HALL := Lib.hid hall
    have HBI := Lib.hid hbi
    have hbw : Below gb w wr := HA.out.trans ((HBR2.out.trans (hbi.mono (by have := HBR2.out.size; have := HSA.out; omega))).mono (by omega))
    have HBW := Lib.hid hbw
    clear hall hbw
    by_cases hlt2 : k < yn
    ·obtain ⟨b1, off1, x, hpe1, hx1, ⟨f0, _⟩, ⟨f1, _⟩, ⟨f2, _⟩, ⟨f3, _⟩, ⟨f4, _⟩, ⟨f5, _⟩⟩ := (HSY.out.below ESym.keeps hbi).at_ (i := k) (by rw [HYN.out]; exact hlt2)
     subst hpe1
     have hK : (k : Int) < (yn : Int) := by omega
     have hK0 : (0 : Int) ≤ (k : Int) := by omega
     have hK1 : ¬ (yn : Int) ≤ (k : Int) := by omega
     have HX := Lib.hid hx1
     have hstep := all_snoc (f := ObjD.syms) (defdB defs) HO.out HX.out
     rw [HALL.out, Bool.true_and] at hstep
     have HSTEP := Lib.hid hstep
     clear hx1 hbi hstep
     go_upto_region 7 with fail
     have hb7 : Below wr.heap.size wr (wr.alloc (.cells #[.string x.name, .int .i64 x.bind, .int .i64 x.type, .int .i64 x.sec, .int .i64 x.value, .int .i64 x.size] 98)) := (Below.refl _ wr).alloc (Nat.le_refl _) _
     obtain ⟨x0, x1, x2, x3, x4, x5⟩ := ncells6 _ _ _ _ _ _ _ _ _ (heap_alloc_new wr (.cells #[.string x.name, .int .i64 x.bind, .int .i64 x.type, .int .i64 x.sec, .int .i64 x.value, .int .i64 x.size] 98))
     have hbi7 := HBI.out.trans (hb7.mono HBI.out.size)
     have hbw7 := HBW.out.trans (hb7.mono (by first | exact HBW.out.size | (rw [← HGB.out]; exact HBW.out.size) | (have := HBW.out.size; have := HGB.out; omega)))
     generalize wr.alloc (.cells #[.string x.name, .int .i64 x.bind, .int .i64 x.type, .int .i64 x.sec, .int .i64 x.value, .int .i64 x.size] 98) = w7 at *
     generalize wr.heap.size = g7 at *
     have HBI7 := Lib.hid hbi7
     have HBW7 := Lib.hid hbw7
     clear hb7 hbi7 hbw7 f0 f1 f2 f3 f4 f5 x2 x3 x4 x5
     obtain ⟨q, hq⟩ : ∃ q, q = (x.bind != 1) := ⟨_, rfl⟩
     have hq' : (x.bind != 1) = q := hq.symm
     have hd : defdB defs (i, k, x) = (q || (findL defs x.name).isSome) := by rw [hq]; rfl
     rw [hd] at HSTEP
     have HOUT2 := Lib.hid fun (hh : defdB defs (i, k, x) = false) => HOUT.out i k o x HO.out HX.out hh
     rw [hd] at HOUT2
     clear hq hd
     cases q with
     | true =>
      have hE : Hid ((atTo ObjD.syms l i (k + 1)).all (defdB defs) = true) := Lib.hid (by rw [HSTEP.out]; rfl)
      have hE2 := HBI7
      go_wp2_with fail
      go_roundw
      case rel => exact ⟨k + 1, hlt2, by go_num, hE.out, HBI7.out⟩
      case measure => simp [intOf]; omega
     | false =>
      have HFX := Lib.hid (HFI.out w7 (by first | exact HBW7.out | (rw [HGB.out]; exact HBW7.out)) x.name)
      have hA7 := ((HBR2.out.trans (HBI7.out.mono (by have := HBR2.out.size; have := HSA.out; omega))).block gb (by omega)).trans HA0.out
      obtain ⟨⟨a0, a1⟩, _⟩ := pair_cells _ _ _ _ _ hA7
      obtain ⟨fs, hfs⟩ : ∃ fs, fs = (findL defs x.name).isSome := ⟨_, rfl⟩
      obtain ⟨d, hdd⟩ : ∃ d, d = (findL defs x.name).getD noDef := ⟨_, rfl⟩
      rw [← hfs, ← hdd] at HFX
      rw [← hfs] at HSTEP HOUT2
      clear hfs hdd hA7
      go_upto_region 9 with (first | (go_at_call 23; refine HFX.out.mono ?_; rintro e w8 ⟨rfl, hb8⟩) | fail)
      have hb9 : Below w7.heap.size w7 (w8.alloc (.cells #[.string d.name, .int .i64 (d.obj : Int), .int .i64 (d.sym : Int)] 60)) := hb8.alloc hb8.size _
      have hbi9 := HBI7.out.trans (hb9.mono HBI7.out.size)
      have hbw9 := HBW7.out.trans (hb9.mono (by first | exact HBW7.out.size | (rw [← HGB.out]; exact HBW7.out.size) | (have := HBW7.out.size; have := HGB.out; omega)))
      generalize w8.alloc (.cells #[.string d.name, .int .i64 (d.obj : Int), .int .i64 (d.sym : Int)] 60) = w9 at *
      generalize w8.heap.size = g8 at *
      have HBI9 := Lib.hid hbi9
      have HBW9 := Lib.hid hbw9
      clear hb8 hb9 hbi9 hbw9 a0 a1 x0 x1
      cases fs with
      | true =>
       have hE : Hid ((atTo ObjD.syms l i (k + 1)).all (defdB defs) = true) := Lib.hid (by rw [HSTEP.out]; rfl)
       go_wp2_with fail
       go_roundw
       case rel => exact ⟨k + 1, hlt2, by go_num, hE.out, HBI9.out⟩
       case measure => simp [intOf]; omega
      | false =>
       have hE : Hid (r = false) := Lib.hid (by rw [HR.out]; exact HOUT2.out rfl)
       go_wp2_with fail
       go_ret
       rw [hE.out]
       exact ⟨rfl, by first | exact HBW9.out | (rw [HGB.out]; exact HBW9.out)⟩
    ·obtain rfl : k = yn := by omega
     have hK : ¬ (k : Int) < (k : Int) := by omega
     have hE : (allTo ObjD.syms l (i + 1)).all (defdB defs) = true := by rw [← atTo_end (k := k) HO.out (by rw [HYN.out]; exact Nat.le_refl _)]; exact HALL.out
     go_wp2_with fail
     go_roundw
     case rel => exact ⟨i + 1, hlt, by go_num, hE, HBR2.out.trans (HBI.out.mono (by have := HBR2.out.size; have := HSA.out; omega))⟩
     case measure => simp [intOf]; omega
  ·obtain rfl : i = ln := by omega
   have hI : ¬ (i : Int) < (i : Int) := by omega
   have hE : Hid (r = true) := Lib.hid (by rw [HR.out]; exact HALL.out)
   go_wp2_with fail
   go_ret
   rw [hE.out]
   exact ⟨rfl, by rw [HGB.out]; exact hbw⟩
end Go.Proofs.YteopgmieindojaaGreat

namespace Go.Proofs.YteopgmieindojaaGreat
open Go.RowKit
def MetIs (l : List ObjD) (i k : Nat) (m : List (ByteArray × Value)) : Prop := ∀ s, (mVal s m).getD (.bool false) = .bool (metB l i k s)
theorem metIs_start (l : List ObjD) : MetIs l 0 0 [] := fun s => by
 unfold metB
 rw [atTo_zero]
 rfl
theorem metIs_put {l : List ObjD} {i k : Nat} {m : List (ByteArray × Value)} {o : ObjD} {g : GroupD} (h : MetIs l i k m) (ho : l[i]? = some o) (hg : o.groups[k]? = some g) : MetIs l i (k + 1) (mPut m (symName o g.sym) (.bool true)) := fun s => by
 rw [mVal_put]
 have hm : metB l i (k + 1) s = (metB l i k s || sEq (symName o g.sym) s) := by
  unfold metB
  rw [atTo_step ho hg, List.any_append]
  simp [gNameAt, ho]
 rw [hm]
 cases hs : s == symName o g.sym with
 | true =>
  obtain rfl := (MapKept.bytes_beq _ _).1 hs
  rw [sEq_refl, Bool.or_true]
  rfl
 | false =>
  have : sEq (symName o g.sym) s = false := by
   cases hq : sEq (symName o g.sym) s with
   | false => rfl
   | true =>
    rw [sEq_iff.1 hq, beq_self] at hs
    cases hs
  rw [this, Bool.or_false]
  exact h s
theorem metIs_next {l : List ObjD} {i k : Nat} {m : List (ByteArray × Value)} {o : ObjD} (h : MetIs l i k m) (ho : l[i]? = some o) (hk : o.groups.length ≤ k) : MetIs l (i + 1) 0 m := fun s => by
 rw [h s]
 unfold metB
 rw [atTo_end ho hk, atTo_zero]
def Fr2 (lo : Nat) (w w' : World) : Prop := w.heap.size ≤ w'.heap.size ∧ ∀ g, lo ≤ g → g < w.heap.size → w'.heap[g]? = w.heap[g]?
theorem Fr2.refl (lo : Nat) (w : World) : Fr2 lo w w := ⟨Nat.le_refl _, fun _ _ _ => rfl⟩
theorem Fr2.grown {lo : Nat} {w w1 w2 : World} {row : Option Nat} (h : Fr2 lo w w1) (hg : w1.grownBy w2 row) (hr : ∀ r, row = some r → r < lo ∨ w.heap.size ≤ r) : Fr2 lo w w2 :=
 ⟨Nat.le_trans h.1 hg.size, fun g h1 h2 => (hg.block g (Nat.lt_of_lt_of_le h2 h.1) (fun e => by rcases hr g e.symm with h | h <;> omega)).trans (h.2 g h1 h2)⟩
theorem Fr2.trans {lo : Nat} {w w1 w2 : World} (h : Fr2 lo w w1) (h2 : Fr2 lo w1 w2) : Fr2 lo w w2 := ⟨Nat.le_trans h.1 h2.1, fun g h3 h4 => (h2.2 g h3 (Nat.lt_of_lt_of_le h4 h.1)).trans (h.2 g h3 h4)⟩
theorem owns_fr2 {lo : Nat} {w w' : World} {base s : Nat} {e : TypeId} {v : Value} {n : Nat} {xs : List Value} (h : w.ownsRow base e s v n xs) (hf : Fr2 lo w w') (hl : lo ≤ base) : w'.ownsRow base e s v n xs := by
 refine ⟨h.1, ?_⟩
 rcases h.2 with hn | ⟨g, cap, cur, rfl, hb, hgg, rest⟩
 ·exact .inl hn
 ·exact .inr ⟨g, cap, cur, rfl, hb, (hf.2 g (by omega) (Array.getElem?_eq_some_iff.1 hgg).1).trans hgg, rest⟩
def RowsB (w : World) (base : Nat) (vs : List Value) (l : List ObjD) (i : Nat) : Prop := ∀ j o, j < i → l[j]? = some o → ∃ v, vs[j]? = some v ∧ w.ownsRow base 4 1 v o.secs.length ((dropOwnTo l j o o.groups.length).map Value.bool)
theorem RowsB.fr2 {w w' : World} {base : Nat} {vs : List Value} {l : List ObjD} {i : Nat} (h : RowsB w base vs l i) (hf : Fr2 base w w') : RowsB w' base vs l i := fun j o hj ho => by
 obtain ⟨v, h1, h2⟩ := h j o hj ho
 exact ⟨v, h1, owns_fr2 h2 hf (Nat.le_refl _)⟩
theorem RowsB.snoc {w : World} {base : Nat} {vs : List Value} {l : List ObjD} {i : Nat} {o : ObjD} {v : Value} (h : RowsB w base vs l i) (ho : l[i]? = some o) (hi : i < vs.length) (hv : w.ownsRow base 4 1 v o.secs.length ((dropOwnTo l i o o.groups.length).map Value.bool)) : RowsB w base (vs.set i v) l (i + 1) := fun j o' hj ho' => by
 by_cases hji : j = i
 ·subst hji
  rw [ho] at ho'
  cases ho'
  exact ⟨v, by rw [List.getElem?_set, if_pos rfl, if_pos hi], hv⟩
 ·obtain ⟨u, h1, h2⟩ := h j o' (by omega) ho'
  exact ⟨u, by rw [List.getElem?_set, if_neg (fun e => hji e.symm)]; exact h1, h2⟩
theorem RowsB.set {w : World} {base : Nat} {vs : List Value} {l : List ObjD} {i : Nat} {v : Value} (h : RowsB w base vs l i) : RowsB w base (vs.set i v) l i := fun j o' hj ho' => by
 obtain ⟨u, h1, h2⟩ := h j o' hj ho'
 exact ⟨u, by rw [List.getElem?_set, if_neg (by omega)]; exact h1, h2⟩
theorem flat_bools : ∀ xs : List Bool, xs.flatMap (fun b => [Value.bool b]) = xs.map Value.bool
 | [] => rfl
 | x :: xs => by rw [List.flatMap_cons, flat_bools xs]; rfl
theorem isL_bools {w : World} {B : Nat} {v : Value} {xs : List Bool} {n : Nat} (h : w.ownsRow B 4 1 v n (xs.map Value.bool)) : IsL 1 EBool w v xs := by
 have hn : n = xs.length := by have := h.1; simpa using this.symm
 subst hn
 have := isL_rows (k := 1) (E := EBool) (f := fun b : Bool => [Value.bool b]) (g := id) (fun _ => rfl) (by rw [flat_bools]; exact h) (fun d _ b o hc => by have := hc 0 _ rfl; exact this)
 simpa using this
theorem RowsB.snoc' {w : World} {base : Nat} {vs : List Value} {l : List ObjD} {i : Nat} {o : ObjD} {v : Value} (h : RowsB w base (vs.set i v) l i) (ho : l[i]? = some o) (hi : i < (vs.set i v).length) (hv : w.ownsRow base 4 1 v o.secs.length ((dropOwnTo l i o o.groups.length).map Value.bool)) : RowsB w base (vs.set i v) l (i + 1) := by
 have := h.snoc ho hi hv
 rwa [List.set_set] at this
theorem isL_drops {w : World} {gb base : Nat} {l : List ObjD} {vs : List Value} (hok : ∀ o ∈ l, OkD o) (h : w.ownsRow gb 138 1 (.slice (some ⟨gb, 0, none⟩) l.length l.length) l.length vs) (hr : RowsB w base vs l l.length) (hlc : l.length ≤ 1000) : IsL 1 EBools w (.slice (some ⟨gb, 0, none⟩) l.length l.length) (dropsOf l) := by
 have hlen : (dropsOf l).length = l.length := by simp [dropsOf]
 refine ⟨some ⟨gb, 0, none⟩, l.length, by rw [hlen], by rw [hlen]; exact Nat.le_refl _, by unfold maxLen; omega, fun e => by simp at e, fun i x hx => ⟨gb, 0, rfl, ?_⟩⟩
 have hi : i < l.length := by have := (List.getElem?_eq_some_iff.1 hx).1; omega
 obtain ⟨o, ho⟩ : ∃ o, l[i]? = some o := ⟨_, List.getElem?_eq_getElem hi⟩
 have hx' : x = dropOwnTo l i o o.groups.length := by
  have hoo := hok o (List.mem_of_getElem? ho)
  unfold dropsOf at hx
  rw [List.getElem?_map, List.getElem?_range hi, Option.map_some] at hx
  simp only [Option.some.injEq] at hx
  rw [← hx, dropOwnTo_eq hoo.one hoo.mem]
  unfold dropOf
  rw [ho]
 obtain ⟨v, h1, h2⟩ := hr i o hi ho
 refine ⟨v, ?_, by rw [hx']; exact isL_bools h2⟩
 rw [Nat.zero_add, Nat.mul_one, h.cellAt i (by omega)]
 exact h1
theorem dropOwn_step {l : List ObjD} {i k : Nat} {o : ObjD} {g : GroupD} (hg : o.groups[k]? = some g) : dropOwnTo l i o (k + 1) = setAll (dropOwnTo l i o k) g.members (metB l i k (symName o g.sym)) := by
 conv => lhs; unfold dropOwnTo
 rw [hg]
theorem dropOwn_len {l : List ObjD} {i : Nat} {o : ObjD} (h : OkD o) (k : Nat) : (dropOwnTo l i o k).length = o.secs.length := by rw [dropOwnTo_eq h.one h.mem, dropTo_length]
end Go.Proofs.YteopgmieindojaaGreat
