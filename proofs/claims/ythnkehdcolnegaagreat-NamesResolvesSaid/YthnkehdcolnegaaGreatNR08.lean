/-
  DERIVED: THE SHELF's CONTRACTS AT THIS DUMP, IN PLAIN WORDS (tools/lay-plain.mjs out of 'YthnkehdcolnegaaGreatNSortLS.lean', which tools/lay-shelf.mjs wrote): THE SAME DECLARATIONS UNDER THE SAME NAMES: 'import', 'namespace', 'open', 'def', 'theorem' AND NOTHING ELSE: no command of the shelf's: FOR A HAND-IN. Each laying: the table of numbers ('.._ren') and one theorem, a field a fact of the dump's own or the kernel's comparison; each contract: ONE APPLICATION.
  Contract of names.dropSecs.
  Contracts of names' isSym, isDropped, place, defines.
  Contracts of names.defines and names.Where.
-/
import Derived.Shelf.SlSortCmp.NoneTotal
import Derived.Shelf.SlGeneric
import Derived.Ground.SlsfProg
import Derived.Test.YthnkehdcolnegaaGreatChecked
import Derived.Test.YthnkehdcolnegaaGreatNR07
import Derived.Test.YthnkehdcolnegaaGreatNR06
namespace Go.Proofs
open Go.Shelf
def Tryz.sortDef_ren : Go.Shelf.Ren := ⟨fun | 6 => 160 | 15 => 195 | 14 => 194 | 28 => 219 | 29 => 220 | 20 => 211 | 21 => 212 | 22 => 213 | 23 => 214 | 24 => 215 | 25 => 216 | 26 => 217 | 27 => 218 | 46 => 224 | 47 => 225 | 48 => 226 | 49 => 227 | 50 => 228 | 57 => 230 | n => n, fun | 22 => 47 | 24 => 60 | 25 => 206 | 3 => 3 | 39 => 207 | 0 => 0 | 53 => 312 | 55 => 171 | 4 => 4 | 46 => 306 | 45 => 305 | 50 => 144 | 5 => 5 | 9 => 9 | 66 => 314 | 70 => 269 | 76 => 319 | 77 => 162 | n => n, fun | n => n⟩
theorem Tryz.sortDef : Go.Proofs.SlLaysF0.n6 Tryz.prog Tryz.sortDef_ren := {
  mixed := by kernel_rfl
  f6 := ⟨Tryz.f160.name, by decide, Tryz.func160.trans (congrArg some (by kernel_rfl))⟩
  f14 := ⟨Tryz.f194.name, by decide, Tryz.func194.trans (congrArg some (by kernel_rfl))⟩
  f15 := Tryz.func195.trans (congrArg some (by kernel_rfl))
  f20 := ⟨Tryz.f211.name, by decide, Tryz.func211.trans (congrArg some (by kernel_rfl))⟩
  f21 := ⟨Tryz.f212.name, by decide, Tryz.func212.trans (congrArg some (by kernel_rfl))⟩
  f22 := ⟨Tryz.f213.name, by decide, Tryz.func213.trans (congrArg some (by kernel_rfl))⟩
  f23 := ⟨Tryz.f214.name, by decide, Tryz.func214.trans (congrArg some (by kernel_rfl))⟩
  f24 := ⟨Tryz.f215.name, by decide, Tryz.func215.trans (congrArg some (by kernel_rfl))⟩
  f25 := ⟨Tryz.f216.name, by decide, Tryz.func216.trans (congrArg some (by kernel_rfl))⟩
  f26 := ⟨Tryz.f217.name, by decide, Tryz.func217.trans (congrArg some (by kernel_rfl))⟩
  f27 := ⟨Tryz.f218.name, by decide, Tryz.func218.trans (congrArg some (by kernel_rfl))⟩
  f28 := Tryz.func219.trans (congrArg some (by kernel_rfl))
  f29 := Tryz.func220.trans (congrArg some (by kernel_rfl))
  f46 := ⟨Tryz.f224.name, by decide, Tryz.func224.trans (congrArg some (by kernel_rfl))⟩
  f47 := Tryz.func225.trans (congrArg some (by kernel_rfl))
  f48 := Tryz.func226.trans (congrArg some (by kernel_rfl))
  f49 := ⟨Tryz.f227.name, by decide, Tryz.func227.trans (congrArg some (by kernel_rfl))⟩
  f50 := ⟨Tryz.f228.name, by decide, Tryz.func228.trans (congrArg some (by kernel_rfl))⟩
  f57 := ⟨Tryz.f230.name, by decide, Tryz.func230.trans (congrArg some (by kernel_rfl))⟩
  t0 := Tryz.underlying0
  a0 := Tryz.isAgg0
  z0 := Tryz.sizeOf0
  v0 := Tryz.zeroValue0
  t3 := Tryz.underlying3
  a3 := Tryz.isAgg3
  z3 := Tryz.sizeOf3
  v3 := Tryz.zeroValue3
  t4 := Tryz.underlying4
  a4 := Tryz.isAgg4
  z4 := Tryz.sizeOf4
  v4 := Tryz.zeroValue4
  t5 := Tryz.underlying5
  a5 := Tryz.isAgg5
  z5 := Tryz.sizeOf5
  v5 := Tryz.zeroValue5
  t9 := Tryz.underlying9
  a9 := Tryz.isAgg9
  z9 := Tryz.sizeOf9
  v9 := Tryz.zeroValue9
  t22 := Tryz.underlying47
  a22 := Tryz.isAgg47
  z22 := Tryz.sizeOf47
  v22 := Tryz.zeroValue47
  t25 := Tryz.underlying206
  a25 := Tryz.isAgg206
  z25 := Tryz.sizeOf206
  v25 := Tryz.zeroValue206
  t39 := Tryz.underlying207
  a39 := Tryz.isAgg207
  z39 := Tryz.sizeOf207
  v39 := Tryz.zeroValue207
  t45 := Tryz.underlying305
  a45 := Tryz.isAgg305
  z45 := Tryz.sizeOf305
  v45 := Tryz.zeroValue305
  t46 := Tryz.underlying306
  a46 := Tryz.isAgg306
  z46 := Tryz.sizeOf306
  v46 := Tryz.zeroValue306
  t50 := Tryz.underlying144
  a50 := Tryz.isAgg144
  z50 := Tryz.sizeOf144
  v50 := Tryz.zeroValue144
  t53 := Tryz.underlying312
  a53 := Tryz.isAgg312
  z53 := Tryz.sizeOf312
  v53 := Tryz.zeroValue312
  t55 := Tryz.underlying171
  a55 := Tryz.isAgg171
  z55 := Tryz.sizeOf171
  v55 := Tryz.zeroValue171
  t66 := Tryz.underlying314
  a66 := Tryz.isAgg314
  z66 := Tryz.sizeOf314
  v66 := Tryz.zeroValue314
  t70 := Tryz.underlying269
  a70 := Tryz.isAgg269
  z70 := Tryz.sizeOf269
  v70 := Tryz.zeroValue269
  t76 := Tryz.underlying319
  a76 := Tryz.isAgg319
  z76 := Tryz.sizeOf319
  v76 := Tryz.zeroValue319
  t77 := Tryz.underlying162
  a77 := Tryz.isAgg162
  z77 := Tryz.sizeOf162
  v77 := Tryz.zeroValue162 }
end Go.Proofs

namespace Go.Proofs.YthnkehdcolnegaaGreat
open Go.RowKit

theorem Tryz.infoBoolD : (Tryz.prog.info? 4).map (fun i => (i.zero, i.size, i.bytes)) = some (some (.bool false), 1, 1) := by kernel_rfl
theorem Tryz.infoBools : (Tryz.prog.info? 138).map (fun i => (i.zero, i.size, i.bytes)) = some (some (.slice none 0 0), 1, 24) := by kernel_rfl
theorem zeroBool (w : World) : (zeroValue 4).run Tryz.prog w = .ok (.bool false) w := by kernel_rfl
theorem take_snocN {α : Type} {l : List α} {k : Nat} {x : α} (h : l[k]? = some x) : l.take (k + 1) = l.take k ++ [x] := by
  rw [List.take_succ_eq_append_getElem (List.getElem?_eq_some_iff.1 h).1, (List.getElem?_eq_some_iff.1 h).2]
set_option maxRecDepth 100000 in
set_option maxHeartbeats 8000000 in
theorem dropSecs_any (p : Option Addr) (c : Nat) (l : List ObjD) (w : World) (h : HasL 5 EObj w p l) (hok : ∀ o ∈ l, OkD o) (hlc : l.length ≤ 1000) :
    Calls Tryz.prog 53 #[.slice p l.length c] w fun e w' => ∃ v, e = .returned v ∧ (∀ W, Fr2 w.heap.size w' W → IsL 1 EBools W v (dropsOf l)) ∧ Below w.heap.size w w' := by
  obtain ⟨i0, gi, gz0, gz1, gz2⟩ := info_parts Tryz.infoBoolD
  obtain ⟨i1, ki, kz0, kz1, kz2⟩ := info_parts Tryz.infoBools
  have GI := Lib.hid gi
  have G0 := Lib.hid gz0
  have G1 := Lib.hid gz1
  have G2 := Lib.hid gz2
  have KI := Lib.hid ki
  have K0 := Lib.hid kz0
  have K1 := Lib.hid kz1
  have K2 := Lib.hid kz2
  have hmm := @run_makeMap Tryz.prog
  have HH := Lib.hid fun W (hW : Below w.heap.size w W) => h.below EObj.keeps hW
  have HOK := Lib.hid hok
  have HEND := Lib.hid fun (W : World) (base : Nat) (vs : List Value) h1 h2 => isL_drops (w := W) (gb := w.heap.size) (base := base) (vs := vs) hok h1 h2 hlc
  generalize hln : l.length = ln at *
  have HLN := Lib.hid hln
  generalize hdd : dropsOf l = DD at *
  clear gi gz0 gz1 gz2 ki kz0 kz1 kz2 h hok hln hdd
  go_enter Tryz.func53, Tryz.ntmps53
  generalize hgb : w.heap.size = gb at *
  have HGB := Lib.hid hgb
  have hb8 : i1.bytes * ln ≤ 281474976710656 := by rw [K2.out]; omega
  go_upto_region 1 with fail
  go_upto_region 2 with (at_make; refine wpList_make_full _ rfl _ _ 46 rfl gb 138 i1 (.slice none 0 0) 1 Tryz.underlying46 KI.out K0.out K1.out _ _ _ _ ln rfl rfl rfl rfl hb8 (by unfold maxLen; omega) (by omega) ?_)
  intro w1 hown hgrow
  have hb1 : Below gb w w1 := by rw [← hgb]; exact (Below.refl _ w).grown hgrow (Nat.le_refl _) (fun k h => by cases h)
  have hgB := (hown.lt gb rfl).2
  clear hgrow hb8 hgb
  go_upto_region 3 with fail
  have hown2 := hown.alloc (.map #[] 0)
  have hsm := SMap.made w1
  have hb2 : Below gb w (w1.alloc (.map #[] 0)) := hb1.alloc (Nat.le_of_lt hgB) _
  generalize w1.alloc (.map #[] 0) = w2 at *
  generalize w1.heap.size = B at *
  clear hown hb1
  go_wp2_with fail
  go_loopw [18] (fun r18 wr => ∃ (i : Nat) (vs : List Value) (m : List (ByteArray × Value)), i ≤ ln ∧ r18 = .int .i64 (i : Int) ∧ wr.ownsRow gb 138 1 (.slice (some ⟨gb, 0, none⟩) ln ln) ln vs ∧ SMap wr B m ∧ MetIs l i 0 m ∧ RowsB wr (B + 1) vs l i ∧ Below gb w wr) (fun r18 _ => ln - (intOf r18).toNat)
  case atStart => exact ⟨0, _, [], Nat.zero_le _, rfl, hown2, hsm, metIs_start l, fun j o hj => absurd hj (Nat.not_lt_zero _), hb2⟩
  case round =>
    obtain ⟨i, vs, m, hi, rfl, hown, hsm, hmet, hrows, hb⟩ := hrel
    have HMET := Lib.hid hmet
    have hBs := hsm.lt
    clear hmet
    by_cases hlt : i < ln
    · obtain ⟨o, ho⟩ : ∃ o, l[i]? = some o := ⟨_, List.getElem?_eq_getElem (by rw [HLN.out]; exact hlt)⟩
      obtain ⟨b, off, p0, p1, p2, p4, c0, c1, c2, c4, hpe, e0', e1', e2', e3', e4', _, hsy, hgr, _⟩ := objs_at (HH.out w (by rw [← HGB.out]; exact Below.refl _ w)) ho
      subst hpe
      have hbW : Below w.heap.size w wr := by rw [HGB.out]; exact hb
      have e0 := cell_later hbW e0'
      have e1 := cell_later hbW e1'
      have e2 := cell_later hbW e2'
      have e3 := cell_later hbW e3'
      have e4 := cell_later hbW e4'
      have HSYM := Lib.hid hsy
      have HGRP := Lib.hid hgr
      clear e0' e1' e2' e3' e4' hsy hgr hbW
      have HO := Lib.hid ho
      have hoo := HOK.out o (List.mem_of_getElem? ho)
      have hql := hoo.few.1
      have hgl := hoo.few.2.2.1
      have HOO := Lib.hid hoo
      have hI : (i : Int) < (ln : Int) := by omega
      have hI0 : (0 : Int) ≤ (i : Int) := by omega
      have hI1 : ¬ (ln : Int) ≤ (i : Int) := by omega
      have hI2 : ¬ (i : Int) < 0 := by omega
      clear ho hoo
      go_upto_region 6 with fail
      have hal := World.grownBy_alloc wr (.cells #[.slice p0 o.secs.length c0, .slice p1 o.syms.length c1, .slice p2 o.groups.length c2, .bool o.hasSig, .slice p4 o.sig.length c4] 27) none
      have hgo := heap_alloc_new wr (.cells #[.slice p0 o.secs.length c0, .slice p1 o.syms.length c1, .slice p2 o.groups.length c2, .bool o.hasSig, .slice p4 o.sig.length c4] 27)
      have hbs : Below gb w (wr.alloc (.cells #[.slice p0 o.secs.length c0, .slice p1 o.syms.length c1, .slice p2 o.groups.length c2, .bool o.hasSig, .slice p4 o.sig.length c4] 27)) := hb.alloc (by omega) _
      generalize wr.alloc (.cells #[.slice p0 o.secs.length c0, .slice p1 o.syms.length c1, .slice p2 o.groups.length c2, .bool o.hasSig, .slice p4 o.sig.length c4] 27) = ws at *
      have hownS := hown.kept hal (.inr (by simp [Value.ownBlock]))
      have hsmS := hsm.block (hal.block B hBs (by simp))
      have hrowsS := hrows.fr2 ((Fr2.refl (B + 1) wr).grown hal (fun r e => by cases e))
      have hBg : B < wr.heap.size := hBs
      generalize wr.heap.size = go at *
      obtain ⟨⟨u0, u1, u2, u3, u4'⟩, _⟩ := cells5 _ _ _ _ _ _ _ _ hgo
      have hgi : go < ws.heap.size := (Array.getElem?_eq_some_iff.1 hgo).1
      generalize hqn : o.secs.length = qn at *
      have HQN := Lib.hid hqn
      have hb8 : i0.bytes * qn ≤ 281474976710656 := by rw [G2.out]; omega
      have HGO := Lib.hid hgo
      clear hal hown hsm hrows hb e0 e1 e2 e3 e4 hqn hgo
      go_wp2_with (at_make; refine wpList_make_full _ rfl _ _ 138 rfl (B + 1) 4 i0 (.bool false) 1 Tryz.underlying138 GI.out G0.out G1.out _ _ _ _ qn rfl rfl rfl rfl hb8 (by unfold maxLen; omega) (by omega) ?_)
      intro w3 hrow hgr3
      have hown3 := hownS.kept hgr3 (.inr (by simp [Value.ownBlock]))
      have hsm3 := hsmS.block (hgr3.block B (by omega) (by simp))
      have hf3 : Fr2 (B + 1) ws w3 := (Fr2.refl (B + 1) ws).grown hgr3 (fun r e => by cases e)
      have hrows3 := hrowsS.fr2 hf3
      have hb3 : Below gb w w3 := hbs.grown hgr3 (by omega) (fun r e => by cases e)
      have hrow3 : w3.ownsRow (B + 1) 4 1 (.slice (some ⟨ws.heap.size, 0, none⟩) qn qn) qn ((dropOwnTo l i o 0).map Value.bool) := by
        rw [show dropOwnTo l i o 0 = List.replicate qn false by unfold dropOwnTo; rw [HQN.out], List.map_replicate, ← toList_madeCells_one]
        exact hrow
      have hvl : vs.length = ln := by have := hownS.1; omega
      obtain ⟨vi, hvi⟩ : ∃ vi, vs[i]? = some vi := ⟨_, List.getElem?_eq_getElem (by omega)⟩
      have hcv := hown3.cellAt i (by omega)
      rw [hvi] at hcv
      have hfz := hown3.frozenAt i
      have hst := hown3.stored i (.slice (some ⟨ws.heap.size, 0, none⟩) qn qn)
      have hsz3 : ws.heap.size < w3.heap.size := (hrow3.lt _ rfl).2
      have hB3 : B < w3.heap.size := by omega
      have hown4 := hst.1
      have hrow4 := hrow3.kept hst.2 (.inr (by simp [Value.ownBlock]; omega))
      have hsm4 := hsm3.block (hst.2.block B hB3 (by simp; omega))
      have hf4 := hf3.grown hst.2 (fun r e => by cases e; omega)
      have hrows4 := (hrowsS.fr2 hf4).set (i := i) (v := .slice (some ⟨ws.heap.size, 0, none⟩) qn qn)
      have hb4 : Below gb w (w3.setCell ⟨gb, i, none⟩ (.slice (some ⟨ws.heap.size, 0, none⟩) qn qn)) := hb3.grown hst.2 (by omega) (fun r e => by cases e; omega)
      have HSM4 := Lib.hid hsm4
      have HROW4 := Lib.hid hrow4
      have HOWN4 := Lib.hid hown4
      have HF4 := Lib.hid hf4
      have HB4 := Lib.hid hb4
      clear hown3 hsm3 hf3 hrows3 hb3 hrow3 hvi hst hownS hsmS hbs hrow hgr3 hsm4 hrow4 hown4 hf4 hb4 u0 u1 u2 u3 u4'
      go_upto_region 7 with fail
      generalize w3.setCell ⟨gb, i, none⟩ (.slice (some ⟨ws.heap.size, 0, none⟩) qn qn) = w4 at *
      have hgo4 := (HF4.out.2 go (by omega) hgi).trans HGO.out
      obtain ⟨⟨_, _, u2, _, _⟩, _⟩ := cells5 _ _ _ _ _ _ _ _ hgo4
      generalize hgn : o.groups.length = gn at *
      generalize hyn : o.syms.length = yn at *
      have HGN := Lib.hid hgn
      have HYN := Lib.hid hyn
      have HWS := Lib.hid hgi
      have hmet0 := HMET.out
      have HMET0 := Lib.hid hmet0
      have HVI := Lib.hid (show (vs.set i (.slice (some ⟨ws.heap.size, 0, none⟩) qn qn))[i]? = some (.slice (some ⟨ws.heap.size, 0, none⟩) qn qn) by rw [List.getElem?_set, if_pos rfl, if_pos (by omega)])
      have HVL := Lib.hid (show (vs.set i (Value.slice (some ⟨ws.heap.size, 0, none⟩) qn qn)).length = ln by rw [List.length_set]; exact hvl)
      have hrows0 : ∀ W, Fr2 (B + 1) ws W → RowsB W (B + 1) (vs.set i (.slice (some ⟨ws.heap.size, 0, none⟩) qn qn)) l i := fun W hW => (hrowsS.fr2 hW).set
      have HROWS := Lib.hid hrows0
      have HSN := Lib.hid fun (W : World) (k : Nat) (h1 : RowsB W (B + 1) (vs.set i (.slice (some ⟨ws.heap.size, 0, none⟩) qn qn)) l i) (h2 : W.ownsRow (B + 1) 4 1 (.slice (some ⟨ws.heap.size, 0, none⟩) qn qn) o.secs.length ((dropOwnTo l i o o.groups.length).map Value.bool)) => h1.snoc' (v := .slice (some ⟨ws.heap.size, 0, none⟩) qn qn) HO.out (by rw [HVL.out]; exact hlt) h2
      generalize hvs2 : vs.set i (.slice (some ⟨ws.heap.size, 0, none⟩) qn qn) = vs2 at *
      generalize hgie : ws.heap.size = gi at *
      have HGI := Lib.hid hgie
      clear hgie hgo4 hgn hyn hmet0 hrows0 hvs2 hcv hfz hrows4 hrowsS hvl
      go_wp2_with fail
      go_loopw [33] (fun r33 wr => ∃ (k : Nat) (m : List (ByteArray × Value)), k ≤ gn ∧ r33 = .int .i64 (k : Int) ∧ wr.ownsRow gb 138 1 (.slice (some ⟨gb, 0, none⟩) ln ln) ln vs2 ∧ SMap wr B m ∧ MetIs l i k m ∧ wr.ownsRow (B + 1) 4 1 (.slice (some ⟨gi, 0, none⟩) qn qn) qn ((dropOwnTo l i o k).map Value.bool) ∧ Fr2 (B + 1) ws wr ∧ Below gb w wr) (fun r33 _ => gn - (intOf r33).toNat)
      case atStart => exact ⟨0, m, Nat.zero_le _, rfl, HOWN4.out, HSM4.out, HMET0.out, HROW4.out, HF4.out, HB4.out⟩
      case round =>
        obtain ⟨k, m, hk, rfl, hown, hsm, hmet, hrow, hf, hb⟩ := hrel
        have HMET := Lib.hid hmet
        clear hmet
        by_cases hlt2 : k < gn
        · have hbW : Below w.heap.size w wr := by rw [HGB.out]; exact hb
          obtain ⟨b2, off2, g, hpe2, hg, ⟨hE0', _⟩, v2, hcv2', q2, c2', rfl, _, _, _, hml⟩ := HGRP.out.at_ (i := k) (by rw [HGN.out]; exact hlt2)
          subst hpe2
          have hE0 := cell_later hbW hE0'
          have hcv2 := cell_later hbW hcv2'
          clear hE0' hcv2'
          have HG := Lib.hid hg
          have hgm := List.mem_of_getElem? hg
          obtain ⟨n, sy, hgs, hsy, hnm⟩ := HOO.out.sym hgm
          have hny : n < yn := by rw [← HYN.out]; exact (List.getElem?_eq_some_iff.1 hsy).1
          obtain ⟨b3, off3, sy', hpe3, hsy', ⟨f0, _⟩, _⟩ := (HSYM.out.below ESym.keeps hbW).at_ (i := n) (by rw [HYN.out]; exact hny)
          subst hpe3
          obtain rfl : sy' = sy := by rw [hsy] at hsy'; cases hsy'; rfl
          rw [hgs] at hE0
          have hmem := HOO.out.mem g hgm
          have hfew := HOO.out.few.2.2.2.2 g hgm
          have hst := dropOwn_step (l := l) (i := i) HG.out
          have hmv : (mVal sy'.name m).getD (.bool false) = .bool (metB l i k (symName o g.sym)) := by rw [hnm]; exact HMET.out sy'.name
          have hmet2 := metIs_put HMET.out HO.out HG.out
          obtain ⟨mb, hmb⟩ : ∃ mb, mb = metB l i k (symName o g.sym) := ⟨_, rfl⟩
          rw [← hmb] at hst hmv
          rw [hnm] at hmet2
          have HST := Lib.hid hst
          have HMV := Lib.hid hmv
          have HMET2 := Lib.hid hmet2
          have HMEM := Lib.hid hmem
          have HML := Lib.hid (show HasL 1 EInt w q2 g.members from hml)
          generalize hmn : g.members.length = mn at *
          have HMN := Lib.hid hmn
          have hJ : (k : Int) < (gn : Int) := by omega
          have hJ0 : (0 : Int) ≤ (k : Int) := by omega
          have hJ1 : ¬ (gn : Int) ≤ (k : Int) := by omega
          have hN : (n : Int) < (yn : Int) := by omega
          have hN0 : (0 : Int) ≤ (n : Int) := by omega
          have hN1 : ¬ (yn : Int) ≤ (n : Int) := by omega
          have hgoS := (hf.2 go (by omega) (by rw [HGI.out]; exact HWS.out)).trans HGO.out
          have hal := World.grownBy_alloc wr (.cells #[.int .i64 (n : Int), .slice q2 mn c2'] 100) none
          have hgg := heap_alloc_new wr (.cells #[.int .i64 (n : Int), .slice q2 mn c2'] 100)
          have hgbs : gb ≤ wr.heap.size := by rw [← HGB.out]; exact hb.size
          have hBs := hsm.lt
          have hbx : Below gb w (wr.alloc (.cells #[.int .i64 (n : Int), .slice q2 mn c2'] 100)) := hb.alloc hgbs _
          have hgoX := (hal.block go (Nat.lt_of_lt_of_le (by rw [HGI.out]; exact HWS.out) hf.1) (by simp)).trans hgoS
          have hownX := hown.kept hal (.inr (by simp [Value.ownBlock]))
          have hsmX := hsm.block (hal.block B hBs (by simp))
          have hrowX := hrow.kept hal (.inr (by simp [Value.ownBlock]))
          have hfX := hf.grown hal (fun r e => by cases e)
          have f0X := cell_later ((Below.refl _ wr).alloc (Nat.le_refl _) (.cells #[.int .i64 (n : Int), .slice q2 mn c2'] 100)) f0
          clear hg hgm hgs hsy hnm hny hsy' hst hmv hmet2 hmb hmem hml hmn hown hsm hrow hf hb hbW hgoS
          go_upto_region 10 with fail
          generalize wr.alloc (.cells #[.int .i64 (n : Int), .slice q2 mn c2'] 100) = wx at *
          generalize wr.heap.size = gx at *
          obtain ⟨⟨g0, g1⟩, _⟩ := pair_cells _ _ _ _ _ hgg
          obtain ⟨⟨_, u1, _, _, _⟩, _⟩ := cells5 _ _ _ _ _ _ _ _ hgoX
          have HOWNX := Lib.hid hownX
          have HSMX := Lib.hid hsmX
          have HROWX := Lib.hid hrowX
          have HFX := Lib.hid hfX
          have HBX := Lib.hid hbx
          clear hal hgg hgbs hBs hbx hgoX hownX hsmX hrowX hfX f0 hE0 hcv2
          go_upto_region 11 with fail
          go_wp2_with fail
          go_loopw [47] (fun r47 wr => ∃ j : Nat, j ≤ mn ∧ r47 = .int .i64 (j : Int) ∧ wr.ownsRow gb 138 1 (.slice (some ⟨gb, 0, none⟩) ln ln) ln vs2 ∧ SMap wr B m ∧ wr.ownsRow (B + 1) 4 1 (.slice (some ⟨gi, 0, none⟩) qn qn) qn ((setAll (dropOwnTo l i o k) (g.members.take j) mb).map Value.bool) ∧ Fr2 (B + 1) ws wr ∧ Below gb w wr) (fun r47 _ => mn - (intOf r47).toNat)
          case atStart => exact ⟨0, Nat.zero_le _, rfl, HOWNX.out, HSMX.out, HROWX.out, HFX.out, HBX.out⟩
          case round =>
            obtain ⟨j, hj, rfl, hown, hsm, hrow, hf, hb⟩ := hrel
            by_cases hjl : j < mn
            · have hbW : Below w.heap.size w wr := by rw [HGB.out]; exact hb
              obtain ⟨b5, off5, x, hpe5, hx, hcx0⟩ := HML.out.at_ (i := j) (by rw [HMN.out]; exact hjl)
              subst hpe5
              have hcx := cell_later hbW hcx0.1
              rw [Nat.mul_one] at hcx
              have hxm := HMEM.out x (List.mem_of_getElem? hx)
              obtain ⟨t, ht⟩ : ∃ t : Nat, x = ((t + 1 : Nat) : Int) := ⟨(x - 1).toNat, by omega⟩
              have htq : t < qn := by rw [HQN.out] at hxm; omega
              have hlen : (setAll (dropOwnTo l i o k) (g.members.take j) mb).length = qn := by rw [setAll_length, dropOwn_len HOO.out, HQN.out]
              have hfz := hrow.frozenAt t
              obtain ⟨bv, hbv⟩ : ∃ bv, (setAll (dropOwnTo l i o k) (g.members.take j) mb)[t]? = some bv := ⟨_, List.getElem?_eq_getElem (by omega)⟩
              have hcl : wr.cell? ⟨gi, t, none⟩ = some (.bool bv) := (hrow.cellAt t (by omega)).trans (by rw [List.getElem?_map, hbv]; rfl)
              have hca := hown.cellAt i (by omega)
              rw [HVI.out] at hca
              have hrowD : wr.drew.ownsRow (B + 1) 4 1 (.slice (some ⟨gi, 0, none⟩) qn qn) qn ((setAll (dropOwnTo l i o k) (g.members.take j) mb).map Value.bool) := hrow
              have hownD : wr.drew.ownsRow gb 138 1 (.slice (some ⟨gb, 0, none⟩) ln ln) ln vs2 := hown
              have hsmD : SMap wr.drew B m := hsm.block rfl
              have hfD : Fr2 (B + 1) ws wr.drew := ⟨hf.1, hf.2⟩
              have hbD : Below gb w wr.drew := hb.drew
              have hlk := hsmD.get sy'.name (P := Tryz.prog) (t := 199) Tryz.underlying199 Tryz.underlying9 (zeroBool wr.drew)
              rw [mAt_val, HMV.out] at hlk
              have hst := hrowD.stored t (.bool mb)
              have hset : ((setAll (dropOwnTo l i o k) (g.members.take j) mb).map Value.bool).set t (.bool mb) = (setAll (dropOwnTo l i o k) (g.members.take (j + 1)) mb).map Value.bool := by
                rw [take_snocN hx, setAll_snoc, List.map_set, ht, show (((t + 1 : Nat) : Int) - 1).toNat = t by omega]
              rw [hset] at hst
              have hgi6 := (hrow.lt _ rfl)
              have hgiw : ws.heap.size ≤ gi := by rw [HGI.out]; exact Nat.le_refl _
              have hown6 := hownD.kept hst.2 (.inr (by simp [Value.ownBlock]; omega))
              have hsm6 := hsmD.block (hst.2.block B hsmD.lt (by simp; omega))
              have hf6 := hfD.grown hst.2 (fun r e => by cases e; omega)
              have hb6 := hbD.grown hst.2 (by rw [← HGB.out]; exact hbD.size) (fun r e => by cases e; omega)
              have HST6 := Lib.hid hst.1
              have HOWN6 := Lib.hid hown6
              have HSM6 := Lib.hid hsm6
              have HF6 := Lib.hid hf6
              have HB6 := Lib.hid hb6
              have k1 : IntKind.i64.wrap (x - 1) = (t : Int) := by rw [show x - 1 = (t : Int) by omega]; exact IntWalk.i64_in _ (by omega)
              have hJ3 : (j : Int) < (mn : Int) := by omega
              have hJ4 : (t : Int) < (qn : Int) := by omega
              have hJ5 : (0 : Int) ≤ (t : Int) := by omega
              have hJ6 : (0 : Int) ≤ (j : Int) := by omega
              have hJ7 : ¬ (mn : Int) ≤ (j : Int) := by omega
              have hJ8 : ¬ (qn : Int) ≤ (t : Int) := by omega
              clear hx hcx0 hxm ht hlen hbv hst hset hown hsm hrow hf hb hbW hown6 hsm6 hf6 hb6 hrowD hownD hsmD hfD hbD
              go_upto_region 14 with fail
              go_still_tail 10, (by kernel_rfl)
              go_wp2_with fail
              go_roundw
              case rel => exact ⟨j + 1, hjl, by go_num, HOWN6.out, HSM6.out, HST6.out, HF6.out, HB6.out⟩
              case measure => simp [intOf]; omega
            · have hJ3 : ¬ (j : Int) < (mn : Int) := by omega
              have hrow5 : wr.ownsRow (B + 1) 4 1 (.slice (some ⟨gi, 0, none⟩) qn qn) qn ((dropOwnTo l i o (k + 1)).map Value.bool) := by
                rw [HST.out]
                rw [List.take_of_length_le (by rw [HMN.out]; omega)] at hrow
                exact hrow
              have HROW5 := Lib.hid hrow5
              have HOWN5 := Lib.hid hown
              have HSM5 := Lib.hid hsm
              have HF5 := Lib.hid hf
              have HB5 := Lib.hid hb
              have hsz5 : gb ≤ wr.heap.size := by rw [← HGB.out]; exact hb.size
              have hBs5 := hsm.lt
              have hgi5 := (hrow.lt _ rfl)
              clear hrow hrow5 hown hsm hf hb
              go_wp2_with (at_mapUpdate; refine wpList_mapUpdate_str _ rfl (.tmp 62) (.tmp 63) (.const (.bool true)) 199 rfl 9 4 Tryz.underlying199 Tryz.underlying9 B m rfl HSM5.out sy'.name rfl (.bool true) rfl ?_)
              intro w6 hsm6 hgr6
              have hown6 := HOWN5.out.kept hgr6 (.inr (by simp [Value.ownBlock]; omega))
              have hrow6 := HROW5.out.kept hgr6 (.inr (by simp [Value.ownBlock]; omega))
              have hf6 := HF5.out.grown hgr6 (fun r e => by cases e; omega)
              have hb6 := HB5.out.grown hgr6 hsz5 (fun r e => by cases e; omega)
              have HSM6 := Lib.hid hsm6
              clear hsm6 hgr6
              go_wp2_with fail
              go_roundw
              case rel => exact ⟨k + 1, _, hlt2, by go_num, hown6, HSM6.out, HMET2.out, hrow6, hf6, hb6⟩
              case measure => simp [intOf]; omega
        · obtain rfl : k = gn := by omega
          have hK : ¬ (k : Int) < (k : Int) := by omega
          have hnext := metIs_next HMET.out HO.out (by rw [HGN.out]; exact Nat.le_refl _)
          have hrw := HSN.out wr k (HROWS.out wr hf) (by rw [HQN.out, HGN.out]; exact hrow)
          go_wp2_with fail
          go_roundw
          case rel => exact ⟨i + 1, vs2, m, hlt, by go_num, hown, hsm, hnext, hrw, hb⟩
          case measure => simp [intOf]; omega
    · obtain rfl : i = ln := by omega
      have hI : ¬ (i : Int) < (i : Int) := by omega
      go_wp2_with fail
      go_ret
      exact ⟨_, rfl, fun W hW => HEND.out _ _ _ (owns_fr2 hown (show Fr2 gb wr W from hW) (Nat.le_refl _)) (hrows.fr2 ⟨hW.1, fun g hg => hW.2 g (by omega)⟩), hb⟩
end Go.Proofs.YthnkehdcolnegaaGreat

namespace Go.Proofs.YthnkehdcolnegaaGreat
open Go.RowKit

def isSymB (l : List ObjD) (o s : Int) : Bool := if o < 0 ∨ (l.length : Int) ≤ o ∨ s < 0 then false else (symAt2 l o.toNat s.toNat).isSome
set_option maxRecDepth 100000 in
set_option maxHeartbeats 2000000 in
theorem isSym_any (p : Option Addr) (c : Nat) (o s : Int) (l : List ObjD) (w : World) (h : HasL 5 EObj w p l) :
    Calls Tryz.prog 63 #[.slice p l.length c, .int .i64 o, .int .i64 s] w fun e w' => e = .returned (.bool (isSymB l o s)) ∧ Below w.heap.size w w' := by
  obtain ⟨r, hr⟩ : ∃ r, r = isSymB l o s := ⟨_, rfl⟩
  rw [← hr]
  by_cases ho0 : o < 0
  · have hE : Hid (r = false) := Lib.hid (by rw [hr]; unfold isSymB; rw [if_pos (.inl ho0)])
    have h1 : decide (0 ≤ o) = false := decide_eq_false (by omega)
    have h2 : ¬ 0 ≤ o := by omega
    clear hr h
    go_enter Tryz.func63, Tryz.ntmps63
    go_wp2_with fail
    go_ret
    rw [hE.out]
    exact ⟨rfl, Below.refl _ _⟩
  by_cases ho1 : (l.length : Int) ≤ o
  · have hE : Hid (r = false) := Lib.hid (by rw [hr]; unfold isSymB; rw [if_pos (.inr (.inl ho1))])
    have h1 : 0 ≤ o := by omega
    have h2 : ¬ o < (l.length : Int) := by omega
    generalize l.length = ln at *
    clear hr h
    go_enter Tryz.func63, Tryz.ntmps63
    go_wp2_with fail
    go_ret
    rw [hE.out]
    exact ⟨rfl, Below.refl _ _⟩
  by_cases hs0 : s < 0
  · have hE : Hid (r = false) := Lib.hid (by rw [hr]; unfold isSymB; rw [if_pos (.inr (.inr hs0))])
    have h1 : 0 ≤ o := by omega
    have h2 : o < (l.length : Int) := by omega
    have h3 : ¬ 0 ≤ s := by omega
    generalize l.length = ln at *
    clear hr h
    go_enter Tryz.func63, Tryz.ntmps63
    go_wp2_with fail
    go_ret
    rw [hE.out]
    exact ⟨rfl, Below.refl _ _⟩
  obtain ⟨on, hon⟩ := Int.eq_ofNat_of_zero_le (show 0 ≤ o by omega)
  obtain ⟨sn, hsn⟩ := Int.eq_ofNat_of_zero_le (show 0 ≤ s by omega)
  subst hon hsn
  have hol : on < l.length := by omega
  obtain ⟨ob, hoo⟩ : ∃ ob, l[on]? = some ob := ⟨_, List.getElem?_eq_getElem hol⟩
  obtain ⟨b, off, p0, p1, p2, p4, c0, c1, c2, c4, hpe, e0, e1, e2, _⟩ := objs_at h hoo
  subst hpe
  have hr2 : r = (ob.syms[sn]?).isSome := by
    rw [hr]
    unfold isSymB symAt2
    rw [if_neg (by omega), Int.toNat_natCast, Int.toNat_natCast, hoo]
  have hr3 : r = decide (sn < ob.syms.length) := by
    rw [hr2]
    by_cases hl : sn < ob.syms.length
    · rw [List.getElem?_eq_getElem hl, decide_eq_true hl]; rfl
    · rw [List.getElem?_eq_none (by omega), decide_eq_false hl]; rfl
  generalize ob.syms.length = yn at *
  generalize l.length = ln at *
  have hJ : (on : Int) < (ln : Int) := by omega
  have hJ0 : (0 : Int) ≤ (on : Int) := by omega
  have hK0 : (0 : Int) ≤ (sn : Int) := by omega
  clear hr hr2 hoo h ho0 ho1 hs0 e0 e2
  by_cases hl : sn < yn
  · have hE : Hid (r = true) := Lib.hid (by rw [hr3, decide_eq_true hl])
    have hK : (sn : Int) < (yn : Int) := by omega
    clear hr3
    go_enter Tryz.func63, Tryz.ntmps63
    go_wp2_with fail
    go_ret
    rw [hE.out]
    exact ⟨rfl, Below.refl _ _⟩
  · have hE : Hid (r = false) := Lib.hid (by rw [hr3, decide_eq_false hl])
    have hK : ¬ (sn : Int) < (yn : Int) := by omega
    clear hr3
    go_enter Tryz.func63, Tryz.ntmps63
    go_wp2_with fail
    go_ret
    rw [hE.out]
    exact ⟨rfl, Below.refl _ _⟩
def droppedB (D : List (List Bool)) (o : Nat) (sec : Int) : Bool := decide (0 < sec) && (drAt D o)[(sec - 1).toNat]?.getD false
set_option maxRecDepth 100000 in
set_option maxHeartbeats 2000000 in
theorem isDropped_any (pd : Option Addr) (cd o : Nat) (sec : Int) (vf : Value) (D : List (List Bool)) (w : World) (h : HasL 1 EBools w pd D) (hrb : (drAt D o).length ≤ 1000) (ho : o < D.length) (hs : -1 ≤ sec ∧ sec ≤ ((drAt D o).length : Int)) :
    Calls Tryz.prog 64 #[.agg #[.slice pd D.length cd, vf], .int .i64 (o : Int), .int .i64 sec] w fun e w' => e = .returned (.bool (droppedB D o sec)) ∧ Below w.heap.size w w' := by
  have hb1 : Below w.heap.size w (w.alloc (.cells #[.slice pd D.length cd, vf] 49)) := (Below.refl _ w).alloc (Nat.le_refl _) _
  obtain ⟨⟨a0, a1⟩, _⟩ := pair_cells _ _ _ _ _ (heap_alloc_new w (.cells #[.slice pd D.length cd, vf] 49))
  obtain ⟨bd, od, qd, cq, hpd, hdc, hdh⟩ := drops_at (h.below EBools.keeps hb1) ho
  subst hpd
  obtain ⟨r, hr⟩ : ∃ r, r = droppedB D o sec := ⟨_, rfl⟩
  rw [← hr]
  have hr2 : r = (decide (0 < sec) && (drAt D o)[(sec - 1).toNat]?.getD false) := hr
  have HR := Lib.hid hr2
  have HDH := Lib.hid hdh
  have hJ : (o : Int) < (D.length : Int) := by omega
  clear hr hr2 hdh h
  generalize hrn : (drAt D o).length = rn at *
  have HRN := Lib.hid hrn
  clear hrn
  by_cases hs0 : 0 < sec
  · obtain ⟨m, hm⟩ : ∃ m : Nat, sec = ((m + 1 : Nat) : Int) := ⟨(sec - 1).toNat, by omega⟩
    have hmn : m < (drAt D o).length := by rw [HRN.out]; omega
    obtain ⟨b5, off5, d, hpe5, hd, hc⟩ := HDH.out.at_ hmn
    subst hpe5
    have hc : (w.alloc (.cells #[.slice (some ⟨bd, od, none⟩) D.length cd, vf] 49)).cell? ⟨b5, off5 + m * 1, none⟩ = some (.bool d) := hc
    rw [Nat.mul_one] at hc
    have hE : Hid (r = d) := Lib.hid (by rw [HR.out, decide_eq_true hs0, hm, show (((m + 1 : Nat) : Int) - 1).toNat = m by omega, hd]; rfl)
    have hsr : sec ≤ (rn : Int) := hs.2
    have k1 : IntKind.i64.wrap (sec - 1) = (m : Int) := by rw [show sec - 1 = (m : Int) by omega]; exact IntWalk.i64_in _ (by omega)
    have hK : (m : Int) < (rn : Int) := by omega
    generalize D.length = dn at *
    clear hm hd hmn hs
    go_enter Tryz.func64, Tryz.ntmps64
    go_upto_region 1 with fail
    generalize w.alloc (.cells #[.slice (some ⟨bd, od, none⟩) dn cd, vf] 49) = w1 at *
    generalize hgb : w.heap.size = gb at *
    have HGB := Lib.hid hgb
    clear hgb
    go_wp2_with fail
    go_ret
    rw [hE.out]
    exact ⟨rfl, by rw [HGB.out]; exact hb1⟩
  · have hE : Hid (r = false) := Lib.hid (by rw [HR.out, decide_eq_false hs0]; rfl)
    generalize D.length = dn at *
    go_enter Tryz.func64, Tryz.ntmps64
    go_upto_region 1 with fail
    generalize w.alloc (.cells #[.slice (some ⟨bd, od, none⟩) dn cd, vf] 49) = w1 at *
    generalize hgb : w.heap.size = gb at *
    have HGB := Lib.hid hgb
    clear hgb
    go_wp2_with fail
    go_ret
    rw [hE.out]
    exact ⟨rfl, by rw [HGB.out]; exact hb1⟩
theorem results_npl {fn : Func} {p : Tmp} (h : fn.results = #[.cell p 67]) (tmps : Array Value) (w : World) (g : Nat) (v0 v1 v2 : Value) (hp : tmps.getD p undef = .pointer (some ⟨g, 0, none⟩))
    (hg : w.heap[g]? = some (.cells #[v0, v1, v2] 67 (0, 0))) : (results fn tmps).run Tryz.prog w = .ok (.agg #[v0, v1, v2]) w := by
  obtain ⟨⟨r0, r1, r2⟩, _⟩ := three_cells _ _ _ _ _ _ hg
  have e : (results fn tmps).run Tryz.prog w = ((asAddr (tmps.getD p undef)).run Tryz.prog w).andThen fun a w₁ => (loadVar 67 a).run Tryz.prog w₁ := by
    simp only [results, h]
    simp [Sem.run_bind, Result.andThen]
  rw [e, hp]
  go_simp
def placeB (x : SymD) (o : Int) : PlaceD := if x.sec ≤ 0 then ⟨0, 0, x.value⟩ else ⟨o, x.sec, x.value⟩
set_option maxRecDepth 100000 in
set_option maxHeartbeats 2000000 in
theorem nplace_any (x : SymD) (o : Int) (w : World) : Calls Tryz.prog 65 #[symV1 x, .int .i64 o] w fun e w' => e = .returned (.agg (plCs (placeB x o))) ∧ Below w.heap.size w w' := by
  obtain ⟨wa, hwa⟩ : ∃ wa, wa = w.alloc (.cells #[.string x.name, .int .i64 x.bind, .int .i64 x.type, .int .i64 x.sec, .int .i64 x.value, .int .i64 x.size] 98) := ⟨_, rfl⟩
  obtain ⟨wb, hwb⟩ : ∃ wb, wb = wa.alloc (.cells #[.int .i64 0, .int .i64 0, .int .i64 0] 67) := ⟨_, rfl⟩
  have ha : Below w.heap.size w wa := by rw [hwa]; exact (Below.refl _ w).alloc (Nat.le_refl _) _
  have hb : Below wa.heap.size wa wb := by rw [hwb]; exact (Below.refl _ wa).alloc (Nat.le_refl _) _
  have sa : wa.heap.size = w.heap.size + 1 := by rw [hwa]; simp
  have sb : wb.heap.size = w.heap.size + 2 := by rw [hwb]; simp [sa]
  have hA0 : wa.heap[w.heap.size]? = some (.cells #[.string x.name, .int .i64 x.bind, .int .i64 x.type, .int .i64 x.sec, .int .i64 x.value, .int .i64 x.size] 98 (0, 0)) := by rw [hwa]; exact heap_alloc_new w _
  have hAb := (hb.block _ (by omega)).trans hA0
  have hRb : wb.heap[wa.heap.size]? = some (.cells #[.int .i64 0, .int .i64 0, .int .i64 0] 67 (0, 0)) := by rw [hwb]; exact heap_alloc_new wa _
  rw [sa] at hRb
  have hwb0 : Below w.heap.size w wb := ha.trans (hb.mono ha.size)
  have HWA := Lib.hid hwa
  have HWB := Lib.hid hwb
  have HRB := Lib.hid hRb
  have HWB0 := Lib.hid hwb0
  have HSB := Lib.hid sb
  obtain ⟨x0, x1, x2, x3, x4, x5⟩ := ncells6 _ _ _ _ _ _ _ _ _ hAb
  obtain ⟨r, hr⟩ : ∃ r, r = placeB x o := ⟨_, rfl⟩
  rw [← hr]
  have hr2 : r = if x.sec ≤ 0 then ⟨0, 0, x.value⟩ else ⟨o, x.sec, x.value⟩ := hr
  have HR := Lib.hid hr2
  clear hwa hwb ha hb sa sb hA0 hAb hRb hwb0 hr hr2
  go_enter Tryz.func65, Tryz.ntmps65
  go_upto_region 1 with fail
  rw [← HWA.out, ← HWB.out]
  clear HWA HWB
  generalize hgb : w.heap.size = gb at *
  have HGB := Lib.hid hgb
  clear hgb
  obtain ⟨⟨r0, r1, r2⟩, r3, r4, r5⟩ := three_cells _ _ _ _ _ _ HRB.out
  by_cases hs : x.sec ≤ 0
  · have hE : Hid (r = ⟨0, 0, x.value⟩) := Lib.hid (by rw [HR.out, if_pos hs])
    have hst := set_three (.int .i64 0) (.int .i64 0) (.int .i64 x.value) (by omega : gb ≤ gb + 1) HRB.out
    have HST := Lib.hid hst
    clear hst
    go_wp2_with fail
    exact bodyPost_ret (results_npl rfl _ _ _ _ _ _ (by rfl) HST.out.1) rfl ⟨by rw [hE.out], by rw [HGB.out]; exact HWB0.out.trans (HST.out.2.below (by have := HSB.out; omega))⟩
  · have hE : Hid (r = ⟨o, x.sec, x.value⟩) := Lib.hid (by rw [HR.out, if_neg hs])
    have hst := set_three (.int .i64 o) (.int .i64 x.sec) (.int .i64 x.value) (by omega : gb ≤ gb + 1) HRB.out
    have HST := Lib.hid hst
    clear hst
    go_wp2_with fail
    exact bodyPost_ret (results_npl rfl _ _ _ _ _ _ (by rfl) HST.out.1) rfl ⟨by rw [hE.out], by rw [HGB.out]; exact HWB0.out.trans (HST.out.2.below (by have := HSB.out; omega))⟩
end Go.Proofs.YthnkehdcolnegaaGreat

namespace Go.Proofs.YthnkehdcolnegaaGreat
open Go.RowKit

set_option maxRecDepth 100000 in
set_option maxHeartbeats 4000000 in
theorem ndefines_any (s : SymD) (q : Option Addr) (n c : Nat) (dr : List Bool) (w : World) (h : HasL 1 EBool w q dr) (hn : dr.length = n) (hs : -1 ≤ s.sec ∧ s.sec ≤ (n : Int)) (hnb : n ≤ 100000) :
    Calls Tryz.prog 105 #[symV1 s, .slice q n c] w fun e w' => e = .returned (.bool (definesB s dr)) ∧ Below w.heap.size w w' := by
  have hb1 : Below w.heap.size w (w.alloc (.cells #[.string s.name, .int .i64 s.bind, .int .i64 s.type, .int .i64 s.sec, .int .i64 s.value, .int .i64 s.size] 98)) := (Below.refl _ w).alloc (Nat.le_refl _) _
  obtain ⟨x0, x1, x2, x3, x4, x5⟩ := ncells6 _ _ _ _ _ _ _ _ _ (heap_alloc_new w (.cells #[.string s.name, .int .i64 s.bind, .int .i64 s.type, .int .i64 s.sec, .int .i64 s.value, .int .i64 s.size] 98))
  have hh := h.below EBool.keeps hb1
  obtain ⟨res, hres⟩ : ∃ res, res = definesB s dr := ⟨_, rfl⟩
  rw [← hres]
  have HRES := Lib.hid hres
  have HH := Lib.hid hh
  have HN := Lib.hid hn
  clear h hres hh hn
  go_enter Tryz.func105, Tryz.ntmps105
  go_upto_region 1 with fail
  generalize w.alloc (.cells #[.string s.name, .int .i64 s.bind, .int .i64 s.type, .int .i64 s.sec, .int .i64 s.value, .int .i64 s.size] 98) = w1 at *
  generalize hgb : w.heap.size = gb at *
  have HGB := Lib.hid hgb
  clear hgb
  have hr : res = bif s.bind == 0 || s.sec == 0 then false else s.sec == -1 || !(dr[(s.sec - 1).toNat]?.getD false) := HRES.out
  have HR := Lib.hid hr
  clear hr HRES
  cases h0 : (s.bind == 0) with
  | true =>
    have hE : Hid (res = false) := Lib.hid (by rw [HR.out, h0]; rfl)
    go_wp2_with fail
    go_ret
    rw [hE.out]
    exact ⟨rfl, by rw [HGB.out]; exact hb1⟩
  | false =>
    by_cases h1 : s.sec = 0
    · have hE : Hid (res = false) := Lib.hid (by rw [HR.out, h0, h1]; rfl)
      have h2 : (s.sec == -1) = false := by rw [h1]; rfl
      have h3 : ¬ 0 < s.sec := by omega
      have HS := Lib.hid h1
      clear h1
      go_wp2_with fail
      go_ret
      rw [hE.out]
      exact ⟨rfl, by rw [HGB.out]; exact hb1⟩
    · cases h2 : (s.sec == -1) with
      | true =>
        have hE : Hid (res = true) := Lib.hid (by rw [HR.out, h0, show (s.sec == 0) = false by simpa using h1, h2]; rfl)
        go_wp2_with fail
        go_ret
        rw [hE.out]
        exact ⟨rfl, by rw [HGB.out]; exact hb1⟩
      | false =>
        have h2' : ¬ s.sec = -1 := by simpa using h2
        obtain ⟨m, hm⟩ : ∃ m : Nat, s.sec = ((m + 1 : Nat) : Int) := ⟨(s.sec - 1).toNat, by omega⟩
        have hmn : m < dr.length := by rw [HN.out]; omega
        obtain ⟨b, off, d, rfl, hd, hc⟩ := HH.out.at_ hmn
        have hc : w1.cell? ⟨b, off + m * 1, none⟩ = some (.bool d) := hc
        rw [Nat.mul_one] at hc
        have hE : Hid (res = !d) := Lib.hid (by rw [HR.out, h0, show (s.sec == 0) = false by simpa using h1, h2, hm, show (((m + 1 : Nat) : Int) - 1).toNat = m by omega, hd]; rfl)
        have k1 : IntKind.i64.wrap (s.sec - 1) = (m : Int) := by rw [show s.sec - 1 = (m : Int) by omega]; exact IntWalk.i64_in _ (by omega)
        have h3 : 0 < s.sec := by omega
        have hJ : (m : Int) < (n : Int) := by omega
        have hJ0 : (0 : Int) ≤ (m : Int) := by omega
        clear hm hd h1 h2' hmn
        go_wp2_with fail
        go_ret
        rw [hE.out]
        exact ⟨rfl, by rw [HGB.out]; exact hb1⟩
end Go.Proofs.YthnkehdcolnegaaGreat
