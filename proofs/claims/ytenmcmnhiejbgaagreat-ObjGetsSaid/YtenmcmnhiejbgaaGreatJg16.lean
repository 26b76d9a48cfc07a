/-
  Contract of the project's readSecs.
-/
import Derived.Test.YtenmcmnhiejbgaaGreatJg11
namespace Go.Proofs.YtenmcmnhiejbgaaGreat
open Go.RowKit

set_option maxRecDepth 100000 in
set_option maxHeartbeats 4000000 in
theorem readSecs_any (N F G B : Nat) (w0 : World) (l : List UInt8) (bp : Option Addr) (bc : Nat) (vh vn vs0 v1 v2 v3 v4 : Value) (sy : Int) (L : List Ten) (names : List ByteArray) (w : World) (hN : w0.heap.size = N) (hw : Below N w0 w) (hNF : N ≤ F) (hNG : N ≤ G)
    (hF : w.heap[F]? = some (.cells #[.slice bp l.length bc, vh, vn, vs0, .int .i64 sy] 100 (0, 0))) (hG : w.heap[G]? = some (.cells #[.slice none 0 0, v1, v2, v3, v4] 27 (0, 0)))
    (hL : w.ownsRow B 104 10 vh L.length (tensV L)) (hn : w.ownsRow B 9 1 vn names.length (names.map Value.string)) (hok : HeadsOK l.length L) (hnl : names.length = L.length) (hL1 : 1 ≤ L.length) (hL2 : L.length ≤ 65535)
    (ht : Has w0 bp l) (h1 : l.length ≤ bc) (h2 : bc ≤ maxLen) (h3 : bp = none → bc = 0) (hbig : l.length ≤ 100000) (hnb : ∀ n ∈ names, n.size ≤ maxLen) :
    Calls Tryz.prog 46 #[filP F, filP G] w (GivesSecs F G N (.slice bp l.length bc) vh vn v1 v2 v3 v4 sy l L names w) := by
  obtain ⟨i0, hi, hz0, hz1, hz2⟩ := info_parts Tryz.infoSec
  have HI := Lib.hid hi
  have H0 := Lib.hid hz0
  have H1 := Lib.hid hz1
  have H2 := Lib.hid hz2
  obtain ⟨i1, gi, gz0, gz1, gz2⟩ := info_parts Tryz.infoInt
  have GI := Lib.hid gi
  have G0 := Lib.hid gz0
  have G1 := Lib.hid gz1
  have gb8 : i1.bytes * L.length ≤ 281474976710656 := by rw [gz2]; omega
  have hFs := (Array.getElem?_eq_some_iff.1 hF).1
  have hGs := (Array.getElem?_eq_some_iff.1 hG).1
  have hFG : F ≠ G := fun e => by
    subst e
    rw [hF] at hG
    injection hG with h
    injection h with _ h2
    exact absurd h2 (by decide)
  obtain ⟨ng, nc, rfl, _, _⟩ := hn.form (by rw [hnl]; omega)
  rw [hnl] at hF hn
  rw [hnl]
  have hgv : GivesSecs F G N (.slice bp l.length bc) vh (.slice (some ⟨ng, 0, none⟩) L.length nc) v1 v2 v3 v4 sy l L names w = fun e w' => e = .returned (.bool (secsB l L names).isSome) ∧ FrT N [100, 27] w w' ∧ ∀ ss, secsB l L names = some ss → ∃ (vs v0 : Value) (svs : List SecV),
    w'.heap[F]? = some (.cells #[.slice bp l.length bc, vh, .slice (some ⟨ng, 0, none⟩) L.length nc, vs, .int .i64 sy] 100 (0, 0)) ∧ w'.ownsRow w.heap.size 3 1 vs L.length ((numGo 0 L).map (Value.int .i64)) ∧
    w'.heap[G]? = some (.cells #[v0, v1, v2, v3, v4] 27 (0, 0)) ∧ w'.ownsRow w.heap.size 48 9 v0 svs.length (svs.flatMap SecV.cells) ∧ svs.map SecV.s = ss ∧ ∀ x ∈ svs, x.ok w.heap.size w' ∧ x.r = .slice none 0 0 ∧ x.s.rels = [] := rfl
  rw [hgv]
  have hres : secsB l L names = secGo l (numGo 0 L) names 0 L [] := rfl
  clear hgv
  generalize secsB l L names = res at *
  have HRES := Lib.hid hres
  obtain ⟨hp, hc, rfl, l1, l2, l3, hLh⟩ := tens_has hL
  have HL := Lib.hid hL
  have HNM := Lib.hid hn
  have HOK := Lib.hid hok
  have HNB := Lib.hid hnb
  have HNL := Lib.hid hnl
  generalize hln : L.length = ln at *
  have HLN := Lib.hid hln
  have HW := Lib.hid hw
  have HF := Lib.hid hF
  have HG := Lib.hid hG
  have HHAS := Lib.hid ht
  have hwN : N ≤ w.heap.size := by have := hw.size; omega
  clear hi hz0 hz1 hz2 gi gz0 gz1 gz2 hL hn hok hnb hnl hln ht hw hres hLh
  go_enter Tryz.func46, Tryz.ntmps46
  obtain ⟨⟨c0, c1, c2, c3, c4⟩, f0, f1, f2, f3, f4⟩ := cells5 _ _ _ _ _ _ _ _ HF.out
  go_wp2_with (at_make; refine wpList_make_full _ rfl _ _ 25 rfl w.heap.size 3 i1 (.int .i64 0) 1 Tryz.underlying25 GI.out G0.out G1.out _ _ _ _ ln rfl rfl rfl rfl gb8 (by unfold maxLen; omega) (Nat.le_refl _) ?_)
  intro w1 hp1 hg1
  have hb1 : Below w.heap.size w w1 := (Below.refl _ w).grown hg1 (Nat.le_refl _) (fun g hg => by cases hg)
  have hF1 := FrT.heap (N := N) (Ts := []) (FrT.of_below hb1) HF.out (by simp)
  have hp1' : w1.ownsRow w.heap.size 3 1 (.slice (some ⟨w.heap.size, 0, none⟩) ln ln) ln ((numRow L 0).map (Value.int .i64)) := by
    rw [numRow_zero, HLN.out, List.map_replicate, ← toList_madeCells_one]
    exact hp1
  clear c0 c1 c2 c3 c4 f0 f1 f2 f3 f4 hg1 hp1
  obtain ⟨⟨c0, c1, c2, c3, c4⟩, f0, f1, f2, f3, f4⟩ := cells5 _ _ _ _ _ _ _ _ hF1
  have hF2 := heap_setCell_same w1 F 3 _ _ (.slice (some ⟨w.heap.size, 0, none⟩) ln ln) hF1
  have hf2 : FrT N [100] w (w1.setCell ⟨F, 3, none⟩ (.slice (some ⟨w.heap.size, 0, none⟩) ln ln)) := (FrT.of_below hb1).trans (FrT.set hF1 (by simp) hNF _)
  have hp2 := (FrT.set (N := N) (Ts := [100]) (i := 3) hF1 (by simp) hNF (.slice (some ⟨w.heap.size, 0, none⟩) ln ln)).owns hp1' (by decide)
  have hs2 : w.heap.size + 1 ≤ (w1.setCell ⟨F, 3, none⟩ (.slice (some ⟨w.heap.size, 0, none⟩) ln ln)).heap.size := by
    have := (hp2.lt w.heap.size rfl).2
    omega
  have HF2 : Hid ((w1.setCell ⟨F, 3, none⟩ (.slice (some ⟨w.heap.size, 0, none⟩) ln ln)).heap[F]? = some (.cells #[.slice bp l.length bc, .slice hp ln hc, .slice (some ⟨ng, 0, none⟩) ln nc, .slice (some ⟨w.heap.size, 0, none⟩) ln ln, .int .i64 sy] 100 (0, 0))) := Lib.hid hF2
  have HR2 := Lib.hid hf2
  have HP2 := Lib.hid hp2
  clear hF1 hp1' hF2 hf2 hp2 hb1
  go_upto_region 3 with fail
  generalize w1.setCell ⟨F, 3, none⟩ (.slice (some ⟨w.heap.size, 0, none⟩) ln ln) = W2 at *
  clear c0 c1 c2 c3 c4 f0 f1 f2 f3 f4
  obtain ⟨⟨c0, c1, c2, c3, c4⟩, f0, f1, f2, f3, f4⟩ := cells5 _ _ _ _ _ _ _ _ HF2.out
  have HS0 := Lib.hid (rfl : w.heap.size = w.heap.size)
  generalize hn0 : w.heap.size = n0 at *
  go_wp2_with fail
  go_loopw [5, 26] (fun r5 r26 wr => ∃ (k : Nat), k ≤ ln ∧ r26 = .int .i64 (k : Int) ∧ r5 = .int .i64 ((cntS (L.take k) : Nat) : Int) ∧ wr.ownsRow n0 3 1 (.slice (some ⟨n0, 0, none⟩) ln ln) ln ((numRow L k).map (Value.int .i64)) ∧
    wr.heap[F]? = some (.cells #[.slice bp l.length bc, .slice hp ln hc, .slice (some ⟨ng, 0, none⟩) ln nc, .slice (some ⟨n0, 0, none⟩) ln ln, .int .i64 sy] 100 (0, 0)) ∧ FrT N [100] w wr ∧ n0 + 1 ≤ wr.heap.size) (fun _ r26 _ => ln - (intOf r26).toNat)
  case atStart => exact ⟨0, Nat.zero_le _, rfl, rfl, HP2.out, HF2.out, HR2.out, hs2⟩
  case round =>
    obtain ⟨k, hk, rfl, rfl, hpl, hFr, hfr, hsr⟩ := hrel
    have HFR := Lib.hid hfr
    have HFr := Lib.hid hFr
    have HPL := Lib.hid hpl
    clear c0 c1 c2 c3 c4 f0 f1 f2 f3 f4 hpl hfr
    by_cases hlt : k < ln
    · obtain ⟨x, hx⟩ : ∃ x, L[k]? = some x := ⟨_, List.getElem?_eq_getElem (by rw [HLN.out]; exact hlt)⟩
      obtain ⟨p', c2, e, _, _, _, hh⟩ := tens_has (by rw [HLN.out]; exact HFR.out.owns HL.out (by decide))
      rw [HLN.out] at e
      cases e
      obtain ⟨b, off, rfl, hE⟩ := hh k x hx
      obtain ⟨d0, d1, d2, d3, d4, d5, d6, d7, d8, d9⟩ := hE
      have hba : Below wr.heap.size wr (wr.alloc (.cells #[.int .i64 x.a, .int .i64 x.b, .int .i64 x.c, .int .i64 x.d, .int .i64 x.e, .int .i64 x.f, .int .i64 x.g, .int .i64 x.h, .int .i64 x.i, .int .i64 x.j] 104)) := (Below.refl _ wr).alloc (Nat.le_refl _) _
      have hha := heap_new wr (.cells #[.int .i64 x.a, .int .i64 x.b, .int .i64 x.c, .int .i64 x.d, .int .i64 x.e, .int .i64 x.f, .int .i64 x.g, .int .i64 x.h, .int .i64 x.i, .int .i64 x.j] 104)
      have hJ : (k : Int) < (ln : Int) := by omega
      have k2 : (0 : Int) ≤ (k : Int) := by omega
      have hcl : cntS (L.take k) ≤ k := Nat.le_trans (cntS_le _) (by rw [List.length_take]; omega)
      have hcs : cntS (L.take (k + 1)) = cntS (L.take k) + (bif isSecT x then 1 else 0) := by rw [take_snoc hx, cntS_snoc]
      have hyes := fun h => numRow_yes hx h
      have hno := fun h => numRow_no hx h
      have HCS := Lib.hid hcs
      have HYES := Lib.hid hyes
      have HNO := Lib.hid hno
      generalize cntS (L.take k) = ct at *
      have k3 : IntKind.i64.wrap ((ct : Int) + 1) = ((ct + 1 : Nat) : Int) := by rw [show (ct : Int) + 1 = ((ct + 1 : Nat) : Int) by omega]; exact IntWalk.i64_in _ (by omega)
      clear hx hh hcs hyes hno
      go_upto_region 6 with fail
      have hFs2 := FrT.heap (N := N) (Ts := []) (FrT.of_below hba) hFr (by simp)
      have hown2 := owns_belowN HPL.out hba
      have hfr2 := HFR.out.trans (FrT.of_below (N := N) (Ts := [100]) hba)
      have hsz2 := Nat.le_trans hsr hba.size
      generalize wr.alloc (.cells #[.int .i64 x.a, .int .i64 x.b, .int .i64 x.c, .int .i64 x.d, .int .i64 x.e, .int .i64 x.f, .int .i64 x.g, .int .i64 x.h, .int .i64 x.i, .int .i64 x.j] 104) = ws at *
      obtain ⟨_, s1, _⟩ := cells_ten _ _ _ _ _ _ _ _ _ _ _ _ _ hha
      obtain ⟨⟨c0, c1, c2', c3, c4⟩, f0, f1, f2, f3, f4⟩ := cells5 _ _ _ _ _ _ _ _ hFs2
      have hfz := hown2.frozenAt k
      have hrl : ((numRow L k).map (Value.int .i64)).length = ln := by rw [List.length_map, numRow_len L (by rw [HLN.out]; exact hk), HLN.out]
      obtain ⟨u, hu⟩ : ∃ u, ((numRow L k).map (Value.int .i64))[k]? = some u := ⟨_, List.getElem?_eq_getElem (by rw [hrl]; exact hlt)⟩
      have hcu : ws.cell? ⟨n0, k, none⟩ = some u := (hown2.cellAt k (by omega)).trans hu
      have HO2 := Lib.hid hown2
      have HF3 := Lib.hid hFs2
      have HFR2 := Lib.hid hfr2
      clear hown2 hFs2 hfr2 hu hrl hba hha d0 d1 d2 d3 d4 d5 d6 d7 d8 d9 hFr HPL HFR HFr
      cases hq : isSecT x with
      | true =>
        have hst := HO2.out.stored k (.int .i64 ((ct + 1 : Nat) : Int))
        have hset : ((numRow L k).map (Value.int .i64)).set k (.int .i64 ((ct + 1 : Nat) : Int)) = (numRow L (k + 1)).map (Value.int .i64) := by rw [← HYES.out hq, List.map_set]
        rw [hset] at hst
        have hct : cntS (L.take (k + 1)) = ct + 1 := by rw [HCS.out, hq]; rfl
        have HST := Lib.hid hst.1
        have HCT := Lib.hid hct
        have HFN : Hid (FrT N [100] w (ws.setCell ⟨n0, k, none⟩ (.int .i64 ((ct + 1 : Nat) : Int)))) := Lib.hid (HFR2.out.setNew (by omega) _)
        have HFF : Hid ((ws.setCell ⟨n0, k, none⟩ (.int .i64 ((ct + 1 : Nat) : Int))).heap[F]? = some (.cells #[.slice bp l.length bc, .slice (some ⟨b, off, none⟩) ln hc, .slice (some ⟨ng, 0, none⟩) ln nc, .slice (some ⟨n0, 0, none⟩) ln ln, .int .i64 sy] 100 (0, 0))) := Lib.hid (by rw [heap_setCell_other _ _ _ _ (by simp; omega)]; exact HF3.out)
        have hor : x.b = 1 ∨ x.b = 8 := by
          unfold isSecT at hq
          simpa using hq
        clear hst hset hct hq
        rcases hor with h1 | h8
        · have e1 : (x.b == 1) = true := by simpa using h1
          clear h1
          go_wp2_with fail
          go_roundw
          case rel => exact ⟨k + 1, hlt, by go_num, by rw [HCT.out]; go_num, HST.out, HFF.out, HFN.out, by simpa using hsz2⟩
          case measure => simp [intOf]; omega
        · have e1 : (x.b == 1) = false := by simp [h8]
          have e8 : (x.b == 8) = true := by simpa using h8
          clear h8
          go_wp2_with fail
          go_roundw
          case rel => exact ⟨k + 1, hlt, by go_num, by rw [HCT.out]; go_num, HST.out, HFF.out, HFN.out, by simpa using hsz2⟩
          case measure => simp [intOf]; omega
      | false =>
        have hct : cntS (L.take (k + 1)) = ct := by rw [HCS.out, hq]; rfl
        have HNR := Lib.hid (HNO.out hq)
        have HCT := Lib.hid hct
        have hand : (x.b == 1) = false ∧ (x.b == 8) = false := by
          unfold isSecT at hq
          simpa only [Bool.or_eq_false_iff] using hq
        obtain ⟨e1, e8⟩ := hand
        clear hct hq
        go_wp2_with fail
        go_roundw
        case rel => exact ⟨k + 1, hlt, by go_num, by rw [HCT.out], by rw [HNR.out]; exact HO2.out, HF3.out, HFR2.out, hsz2⟩
        case measure => simp [intOf]; omega
    · obtain rfl : k = ln := by omega
      have hJ : ¬ (k : Int) < (k : Int) := by omega
      have hall : numRow L k = numGo 0 L := by have := numRow_all L; rw [HLN.out] at this; exact this
      rw [hall] at HPL
      obtain ⟨⟨c0, c1, c2, c3, c4⟩, f0, f1, f2, f3, f4⟩ := cells5 _ _ _ _ _ _ _ _ hFr
      have hns : (numGo 0 L).length = k := by rw [numGo_length]; exact HLN.out
      have hnb2 := numGo_bd (L := L) 0
      rw [HLN.out, Nat.zero_add] at hnb2
      generalize hnse : numGo 0 L = ns at *
      have HNSE := Lib.hid hnse
      clear hnse
      have HNSL := Lib.hid hns
      have HNSB := Lib.hid hnb2
      have HGW := Lib.hid (HFR.out.heap HG.out (by decide))
      have HFW := Lib.hid HFr.out
      have HRW := HFR
      have HRW2 : Hid (FrT N [100, 27] w wr) := Lib.hid (HFR.out.mono (by simp))
      clear HFr HF2 HP2 HR2 HFR hns hnb2
      generalize wr = W3 at *
      go_wp2_with fail
      go_loopw [54] (fun r54 wr => ∃ (j : Nat) (v0 : Value) (svs : List SecV), j ≤ k ∧ r54 = .int .i64 (j : Int) ∧ res = secGo l ns names j (L.drop j) (svs.map SecV.s) ∧ wr.heap[G]? = some (.cells #[v0, v1, v2, v3, v4] 27 (0, 0)) ∧ wr.ownsRow W3.heap.size 48 9 v0 svs.length (svs.flatMap SecV.cells) ∧
        (∀ x ∈ svs, x.ok W3.heap.size wr ∧ x.r = .slice none 0 0 ∧ x.s.rels = []) ∧ FrT N [27] W3 wr ∧ svs.length ≤ j) (fun r54 _ => k - (intOf r54).toNat)
      case atStart => exact ⟨0, _, [], Nat.zero_le _, rfl, HRES.out, HGW.out, World.ownsRow_nil _ _ _ _, (fun x h => by cases h), FrT.refl _ _ _, Nat.le_refl _⟩
      case round =>
        obtain ⟨j, v0, svs, hj, rfl, hgo, hGr, hown, hall2, hfr, hsl⟩ := hrel
        have HGO := Lib.hid hgo
        have HFR := Lib.hid hfr
        have HGr := Lib.hid hGr
        have HOWN := Lib.hid hown
        have HALL := Lib.hid hall2
        have hsz := hfr.size
        clear c0 c1 c2 c3 c4 f0 f1 f2 f3 f4 hgo hfr hGr hown hall2
        by_cases hlt : j < k
        · obtain ⟨x, hx⟩ : ∃ x, L[j]? = some x := ⟨_, List.getElem?_eq_getElem (by rw [HLN.out]; exact hlt)⟩
          obtain ⟨nm, hnm⟩ : ∃ nm, names[j]? = some nm := ⟨_, List.getElem?_eq_getElem (by rw [HNL.out]; exact hlt)⟩
          obtain ⟨nj, hnj⟩ : ∃ nj, ns[j]? = some nj := ⟨_, List.getElem?_eq_getElem (by rw [HNSL.out]; exact hlt)⟩
          obtain ⟨p', c2, e, _, _, _, hh⟩ := tens_has (by rw [HLN.out]; exact HFR.out.owns (HRW.out.owns HL.out (by decide)) (by decide))
          rw [HLN.out] at e
          cases e
          obtain ⟨b, off, rfl, hE⟩ := hh j x hx
          obtain ⟨d0, d1, d2, d3, d4, d5, d6, d7, d8, d9⟩ := hE
          have hFr := HFR.out.heap HFW.out (by decide)
          have hnr := HFR.out.owns HPL.out (by decide)
          have cn : wr.cell? ⟨n0, j, none⟩ = some (.int .i64 nj) := (hnr.cellAt j (by omega)).trans (by rw [List.getElem?_map, hnj]; rfl)
          have cm : wr.cell? ⟨ng, j, none⟩ = some (.string nm) := ((HFR.out.owns (HRW.out.owns HNM.out (by decide)) (by decide)).cellAt j (by omega)).trans (by rw [List.getElem?_map, hnm]; rfl)
          have hgs : Hid (res = bif nj == 0 then secGo l ns names (j + 1) (L.drop (j + 1)) (svs.map SecV.s) else match secB l ns x with
            | none => none
            | some s => secGo l ns names (j + 1) (L.drop (j + 1)) (svs.map SecV.s ++ [{ s with name := nm }])) := Lib.hid (by rw [HGO.out, secGo_step hx, hnj, hnm]; rfl)
          have hfw : FrT N [100, 27] w wr := HRW2.out.trans (HFR.out.mono (by simp))
          have hbN : Below N w0 wr := HW.out.trans (hfw.below (by rw [hn0]; exact hwN))
          have hin := fun h8 => heads_in HOK.out hx h8
          have hmx : x.may := (HOK.out j x hx).1
          have hbd := fun s (h : secB l ns x = some s) => secB_bd (nm := nm) hmx (fun n hn => by have := HNSB.out n hn; omega) (HNB.out nm (List.mem_of_getElem? hnm)) h
          have hba : Below wr.heap.size wr (wr.alloc (.cells #[.int .i64 x.a, .int .i64 x.b, .int .i64 x.c, .int .i64 x.d, .int .i64 x.e, .int .i64 x.f, .int .i64 x.g, .int .i64 x.h, .int .i64 x.i, .int .i64 x.j] 104)) := (Below.refl _ wr).alloc (Nat.le_refl _) _
          have hha := heap_new wr (.cells #[.int .i64 x.a, .int .i64 x.b, .int .i64 x.c, .int .i64 x.d, .int .i64 x.e, .int .i64 x.f, .int .i64 x.g, .int .i64 x.h, .int .i64 x.i, .int .i64 x.j] 104)
          have hsc : ∀ W, Below wr.heap.size wr W → Calls Tryz.prog 88 #[filP F, x.v] W (GivesSec (secB l ns x) W) := fun W hW => by
            obtain ⟨⟨q0, _, _, q3, _⟩, _⟩ := cells5 _ _ _ _ _ _ _ _ ((hW.block F (Array.getElem?_eq_some_iff.1 hFr).1).trans hFr)
            obtain ⟨pp, cc, e, _, _, _, hil⟩ := isL_ints (by rw [HNSL.out]; exact owns_belowN hnr hW) (fun n hn => by have := HNSB.out n hn; exact ⟨by omega, by omega⟩)
            injection e with e1 e2 e3
            rw [← e1] at hil
            exact gotSec_any N F w0 x bp bc l (some ⟨n0, 0, none⟩) k ns W hN (hbN.trans (hW.mono (by have := hbN.size; omega))) HHAS.out h1 h2 h3 hbig q0 (by rw [HNSL.out]; exact q3) hil hmx (fun hb => hin (by rw [hb]; decide))
          have hJ : (j : Int) < (k : Int) := by omega
          have k2 : (0 : Int) ≤ (j : Int) := by omega
          obtain ⟨⟨c0, c1, c2', c3, c4⟩, f0, f1, f2, f3, f4⟩ := cells5 _ _ _ _ _ _ _ _ hFr
          have HFr := Lib.hid hFr
          have HBD := Lib.hid hbd
          have HSC := Lib.hid hsc
          have HFW2 := Lib.hid hfw
          have HMX := Lib.hid hmx
          generalize secB l ns x = sb at *
          have CM := Lib.hid cm
          clear hx hnm hnj hh hFr hnr hfw hbN hin hmx hbd hsc hall
          go_upto_region 13 with fail
          have c0 := cell_later hba c0
          have c1 := cell_later hba c1
          have c2' := cell_later hba c2'
          have c3 := cell_later hba c3
          have cn := cell_later hba cn
          have cm := cell_later hba cm
          generalize wr.alloc (.cells #[.int .i64 x.a, .int .i64 x.b, .int .i64 x.c, .int .i64 x.d, .int .i64 x.e, .int .i64 x.f, .int .i64 x.g, .int .i64 x.h, .int .i64 x.i, .int .i64 x.j] 104) = ws at *
          obtain ⟨s0, s1, s2, s3, s4, s5, s6, s7, s8, s9⟩ := cells_ten _ _ _ _ _ _ _ _ _ _ _ _ _ hha
          have HBA := Lib.hid hba
          clear d0 d1 d2 d3 d4 d5 d6 d7 d8 d9 hba hha
          by_cases hz : nj = 0
          · subst hz
            have hg2 : Hid (res = secGo l ns names (j + 1) (L.drop (j + 1)) (svs.map SecV.s)) := Lib.hid hgs.out
            go_wp2_with fail
            go_roundw
            case rel => exact ⟨j + 1, v0, svs, hlt, by go_num, hg2.out, FrT.heap (N := N) (Ts := []) (FrT.of_below HBA.out) HGr.out (by simp), owns_belowN HOWN.out HBA.out, (fun y hy => ⟨(HALL.out y hy).1.fr (FrT.of_below (N := N) (Ts := []) HBA.out) (by simp) (by simp), (HALL.out y hy).2⟩), HFR.out.trans (FrT.of_below HBA.out), by omega⟩
            case measure => simp [intOf]; omega
          · have hz0 : (nj == 0) = false := by simpa using hz
            have HZ0 := Lib.hid hz0
            clear hz
            go_wp2_with fail
            refine (HSC.out _ HBA.out).mono ?_
            rintro e w2 ⟨hb2, hm2⟩
            cases sb with
            | none =>
              obtain ⟨s, q, m, c, rfl⟩ := hm2
              have hE : Hid (res = none) := Lib.hid (by rw [hgs.out, HZ0.out]; rfl)
              go_wp2_with fail
              go_ret
              refine ⟨by rw [hE.out]; rfl, (HFW2.out.trans (FrT.of_below HBA.out)).trans (FrT.of_below (hb2.alloc hb2.size _)), fun ss h => ?_⟩
              rw [hE.out] at h
              cases h
            | some s =>
              obtain ⟨q, c, rfl, hown2⟩ := hm2
              have hg2 : Hid (res = secGo l ns names (j + 1) (L.drop (j + 1)) (svs.map SecV.s ++ [{ s with name := nm }])) := Lib.hid (by rw [hgs.out, HZ0.out]; rfl)
              go_upto_region 17 with fail
              have hba : Below wr.heap.size wr (w2.alloc (.cells #[.string s.name, .int .i64 s.type, .int .i64 s.flags, .int .i64 s.align, .int .i64 s.ent, .int .i64 s.link, .int .i64 s.size, .slice q s.data.length c, .slice none 0 0] 48)) := (HBA.out.trans (hb2.mono HBA.out.size)).alloc (by have := hb2.size; have := HBA.out.size; omega) _
              have hxa := heap_alloc_new w2 (.cells #[.string s.name, .int .i64 s.type, .int .i64 s.flags, .int .i64 s.align, .int .i64 s.ent, .int .i64 s.link, .int .i64 s.size, .slice q s.data.length c, .slice none 0 0] 48)
              have hda := owns_lower (hown2.alloc (.cells #[.string s.name, .int .i64 s.type, .int .i64 s.flags, .int .i64 s.align, .int .i64 s.ent, .int .i64 s.link, .int .i64 s.size, .slice q s.data.length c, .slice none 0 0] 48)) (show W3.heap.size ≤ ws.heap.size by have := HBA.out.size; omega)
              have hgs2 : wr.heap.size ≤ w2.heap.size := by have := hb2.size; have := HBA.out.size; omega
              generalize w2.alloc (.cells #[.string s.name, .int .i64 s.type, .int .i64 s.flags, .int .i64 s.align, .int .i64 s.ent, .int .i64 s.link, .int .i64 s.size, .slice q s.data.length c, .slice none 0 0] 48) = wa at *
              generalize w2.heap.size = gs at *
              have hbw := cell_later hb2 cm
              clear c0 c1 c2' c3 cn s0 s1 s2 s3 s4 s5 s6 s7 s8 s9 cm hbw hown2 hb2 f0 f1 f2 f3 f4
              obtain ⟨⟨c0, c1, c2', c3, c4⟩, f0, f1, f2, f3, f4⟩ := cells5 _ _ _ _ _ _ _ _ ((hba.block F (Array.getElem?_eq_some_iff.1 HFr.out).1).trans HFr.out)
              have cm := cell_later hba CM.out
              obtain ⟨⟨s0, s1, s2, s3, s4, s5, s6, s7, s8⟩, r0, r1, r2, r3, r4, r5, r6, r7, r8⟩ := nine_cells _ _ _ _ _ _ _ _ _ _ _ _ hxa
              go_upto_region 18 with fail
              have hbb : Below wr.heap.size wr (wa.setCell ⟨gs, 0, none⟩ (.string nm)) := hba.setCell hgs2 _
              have hxb := heap_setCell_same wa gs 0 _ _ (.string nm) hxa
              have hdb := (FrT.set (N := 0) (Ts := [48]) (i := 0) hxa (by simp) (Nat.zero_le _) (.string nm)).owns hda (by decide)
              generalize wa.setCell ⟨gs, 0, none⟩ (.string nm) = wb at *
              clear c0 c1 c2' c3 c4 f0 f1 f2 f3 f4 cm s0 s1 s2 s3 s4 s5 s6 s7 s8 r0 r1 r2 r3 r4 r5 r6 r7 r8 hxa hda hba
              have hGb : wb.heap[G]? = _ := (hbb.block G (Array.getElem?_eq_some_iff.1 HGr.out).1).trans HGr.out
              have hob := owns_belowN HOWN.out hbb
              have hab : ∀ y ∈ svs, y.ok W3.heap.size wb ∧ y.r = .slice none 0 0 ∧ y.s.rels = [] := fun y hy => ⟨(HALL.out y hy).1.fr (FrT.of_below (N := N) (Ts := []) hbb) (by simp) (by simp), (HALL.out y hy).2⟩
              have hfb : FrT N [27] W3 wb := HFR.out.trans (FrT.of_below hbb)
              have hsb := hfb.size
              have hxo : SecV.ok ⟨{ s with name := nm }, .slice q s.data.length c, .slice none 0 0⟩ W3.heap.size wb ∧ s.rels = [] := by
                obtain ⟨h1, h2⟩ := HBD.out s rfl
                refine ⟨⟨hdb, ?_, h1⟩, h2⟩
                show wb.ownsRow _ _ 4 _ s.rels.length (s.rels.flatMap relC)
                rw [h2]
                exact World.ownsRow_nil _ _ _ _
              have HXO := Lib.hid hxo
              have HOB := Lib.hid hob
              have HAB := Lib.hid hab
              have HFB := Lib.hid hfb
              have HGB := Lib.hid hGb
              obtain ⟨⟨c0, c1, c2', c3, c4⟩, f0, f1, f2, f3, f4⟩ := cells5 _ _ _ _ _ _ _ _ hGb
              obtain ⟨⟨s0, s1, s2, s3, s4, s5, s6, s7, s8⟩, _⟩ := nine_cells _ _ _ _ _ _ _ _ _ _ _ _ hxb
              clear hxo hob hab hfb hGb hxb hdb hbb
              have c0a := cell_later ((Below.refl _ wb).alloc (Nat.le_refl _) (.cells #[.string nm, .int .i64 s.type, .int .i64 s.flags, .int .i64 s.align, .int .i64 s.ent, .int .i64 s.link, .int .i64 s.size, .slice q s.data.length c, .slice none 0 0] 48)) c0
              have hFA : FrT N [27] W3 ((wb.alloc (.cells #[.string nm, .int .i64 s.type, .int .i64 s.flags, .int .i64 s.align, .int .i64 s.ent, .int .i64 s.link, .int .i64 s.size, .slice q s.data.length c, .slice none 0 0] 48)).drew) := HFB.out.trans (FrT.of_below (((Below.refl _ wb).alloc (Nat.le_refl _) _).drew))
              have HFA := Lib.hid hFA
              have hGA := FrT.heap (N := N) (Ts := []) (FrT.of_below (((Below.refl _ wb).alloc (Nat.le_refl _) (.cells #[.string nm, .int .i64 s.type, .int .i64 s.flags, .int .i64 s.align, .int .i64 s.ent, .int .i64 s.link, .int .i64 s.size, .slice q s.data.length c, .slice none 0 0] 48)).drew)) HGB.out (by simp)
              have HGA := Lib.hid hGA
              clear hFA hGA
              go_region_law (first
                | (refine step_append_lies _ (by rfl) _ _ _ (by rfl) W3.heap.size 48 i0 _ 9 112 Tryz.underlying22 HI.out H0.out H1.out H2.out rfl (by decide) _ svs.length _ (by rfl) ((HOB.out.alloc _).drew) ⟨wb.heap.size, 0, none⟩ 1 1 (SecV.cells ⟨{ s with name := nm }, .slice q s.data.length c, .slice none 0 0⟩) (by rfl) (by rfl) (ten_cell_at wb #[.string nm, .int .i64 s.type, .int .i64 s.flags, .int .i64 s.align, .int .i64 s.ent, .int .i64 s.link, .int .i64 s.size, .slice q s.data.length c, .slice none 0 0] 48) (sec_cells_one _ (by rfl) (by rfl)) (by omega) (by unfold maxLen; omega) (by omega) (by simp; omega) _ rfl ?_
                   intro g3 cap3 w5 hown5 hgrow5 _ _
                   have hfg : FrT 0 [48] _ w5 := FrT.grown ((HOB.out.alloc _).drew) hgrow5 (by simp) (Nat.zero_le _)
                   have hG6 := hfg.heap HGA.out (by decide)
                   have hf6 : FrT N [27] W3 w5 := HFA.out.grownNew hgrow5 (fun g hg => (HOB.out.lt g hg).1)
                   obtain ⟨⟨e0, e1, e2, e3, e4⟩, z0, z1, z2, z3, z4⟩ := cells5 _ _ _ _ _ _ _ _ hG6
                   rw [← flat_snoc] at hown5)
                | fail)
              all_goals
                have hf7 : FrT N [27] w5 (w5.setCell ⟨G, 0, none⟩ (.slice (some ⟨g3, 0, none⟩) (svs.length + 1) cap3)) := FrT.set hG6 (by simp) hNG _
                have hG7 := heap_setCell_same w5 G 0 _ _ (.slice (some ⟨g3, 0, none⟩) (svs.length + 1) cap3) hG6
                have hown7 := hf7.owns hown5 (by decide)
                have hall7 : ∀ y ∈ svs ++ [(⟨{ s with name := nm }, .slice q s.data.length c, .slice none 0 0⟩ : SecV)], y.ok W3.heap.size (w5.setCell ⟨G, 0, none⟩ (.slice (some ⟨g3, 0, none⟩) (svs.length + 1) cap3)) ∧ y.r = .slice none 0 0 ∧ y.s.rels = [] := fun y hy => by
                  have hy2 : y.ok W3.heap.size wb ∧ y.r = .slice none 0 0 ∧ y.s.rels = [] := by
                    rcases List.mem_append.1 hy with h | h
                    · exact HAB.out y h
                    · obtain rfl := List.mem_singleton.1 h
                      exact ⟨HXO.out.1, rfl, HXO.out.2⟩
                  refine ⟨(((hy2.1.fr (FrT.of_below (N := N) (Ts := []) (((Below.refl _ wb).alloc (Nat.le_refl _) _).drew)) (by simp) (by simp)).fr hfg (by decide) (by decide)).fr hf7 (by decide) (by decide)), hy2.2⟩
                have HR7 : Hid (FrT N [27] W3 (w5.setCell ⟨G, 0, none⟩ (.slice (some ⟨g3, 0, none⟩) (svs.length + 1) cap3))) := Lib.hid (hf6.trans hf7)
                have HO7 := Lib.hid hown7
                have HG7 : Hid ((w5.setCell ⟨G, 0, none⟩ (.slice (some ⟨g3, 0, none⟩) (svs.length + 1) cap3)).heap[G]? = some (.cells #[.slice (some ⟨g3, 0, none⟩) (svs.length + 1) cap3, v1, v2, v3, v4] 27 (0, 0))) := Lib.hid hG7
                have HA7 := Lib.hid hall7
                clear c0a hfg hG6 hf6 hf7 hG7 hown7 hall7 hown5 hgrow5 c0 c1 c2' c3 c4 f0 f1 f2 f3 f4 s0 s1 s2 s3 s4 s5 s6 s7 s8 e0 e1 e2 e3 e4 z0 z1 z2 z3 z4
                go_wp2_with fail
                go_roundw
                case rel => exact ⟨j + 1, _, svs ++ [(⟨{ s with name := nm }, .slice q s.data.length c, .slice none 0 0⟩ : SecV)], hlt, by go_num, (by rw [hg2.out, List.map_append]; rfl), HG7.out, by rw [List.length_append]; exact HO7.out, HA7.out, HR7.out, by rw [List.length_append]; simp; omega⟩
                case measure => simp [intOf]; omega
        · obtain rfl : j = k := by omega
          have hJ : ¬ (j : Int) < (j : Int) := by omega
          have hE : Hid (res = some (svs.map SecV.s)) := Lib.hid (by rw [HGO.out, List.drop_eq_nil_of_le (by rw [HLN.out]; exact Nat.le_refl _)]; rfl)
          go_wp2_with fail
          go_ret
          refine ⟨by rw [hE.out]; rfl, HRW2.out.trans (HFR.out.mono (by simp)), fun ss h => ?_⟩
          rw [hE.out] at h
          cases h
          have hw3 : n0 ≤ W3.heap.size := by have := HRW2.out.size; omega
          refine ⟨_, HFR.out.heap HFW.out (by decide), ?_, v0, HGr.out, svs, owns_lower HOWN.out hw3, rfl, fun x hx => ⟨(HALL.out x hx).1.lower hw3, (HALL.out x hx).2⟩⟩
          rw [HNSE.out]
          exact HFR.out.owns HPL.out (by decide)
end Go.Proofs.YtenmcmnhiejbgaaGreat
