/-
  Contract of the reference's sections.
-/
import Derived.Test.YtenmcmnhiejbgaaGreatJg38
import Derived.Test.YtenmcmnhiejbgaaGreatShapeA
import Derived.Test.YtenmcmnhiejbgaaGreatJg19
import Derived.Test.YtenmcmnhiejbgaaGreatJg35
import Derived.Test.YtenmcmnhiejbgaaGreatJg33
namespace Go.Proofs.YtenmcmnhiejbgaaGreat
open Go.RowKit

theorem empty_owns (w : World) (B : Nat) (hB : B ≤ w.heap.size) : (w.alloc (.cells #[] 5)).ownsRow B 5 1 (.slice (some ⟨w.heap.size, 0, none⟩) 0 0) 0 (([] : List UInt8).map u8v) := by
  have := World.ownsRow_lit (base := B) (e := 5) (size := 1) w #[] 0 hB (by decide) rfl
  simpa using this
theorem empty_owns2 (w : World) (B : Nat) (hB : B ≤ w.heap.size) (o : Obj) : ((w.alloc o).alloc (.cells #[] 5)).ownsRow B 5 1 (.slice (some ⟨w.heap.size + 1, 0, none⟩) 0 0) 0 (([] : List UInt8).map u8v) := by
  have := empty_owns (w.alloc o) B (by simp; omega)
  simpa using this
theorem wraps_align {x : Int} (h : 0 ≤ x) : (if x < 1 then 1 else x) = if x = 0 then 1 else x := by
  by_cases h0 : x = 0
  · subst h0; rfl
  · rw [if_neg h0, if_neg (by omega)]

set_option maxRecDepth 100000 in
set_option maxHeartbeats 8000000 in
theorem rSecs_any (F n : Nat) (bp : Option Addr) (bc : Nat) (l : List UInt8) (hp : Option Addr) (hc : Nat) (L : List Ten) (w : World) (hf : RFile w F bp bc l hp hc L) (hn : w.cell? ⟨F, 2, none⟩ = some (.int .i64 (n : Int))) (hnl : n < L.length) :
    Calls Tryz.prog 25 #[filP F] w (GivesRSecs (refSecs l L n) w) := by
  obtain ⟨i0, hi, hz0, hz1, hz2⟩ := info_parts Tryz.infoSec
  have HI := Lib.hid hi
  have H0 := Lib.hid hz0
  have H1 := Lib.hid hz1
  have H2 := Lib.hid hz2
  obtain ⟨i8, hi8, hz8, hs8, hb8⟩ := info_parts Tryz.infoU8
  have HI8 := Lib.hid hi8
  have HZ8 := Lib.hid hz8
  have HS8 := Lib.hid hs8
  have HB8 := Lib.hid hb8
  have hLl := hf.hl
  have hbig := hf.big
  have HRF := Lib.hid fun W (hW : Below w.heap.size w W) => hf.below hW
  have HC2 := Lib.hid fun W (hW : Below w.heap.size w W) => cell_later hW hn
  have HTN := Lib.hid fun W (hW : Below w.heap.size w W) => rTold_any F n bp bc l hp hc L W (hf.below hW) hnl
  have HTI := Lib.hid fun W (hW : Below w.heap.size w W) (i : Nat) (h : i < L.length) => rTold_any F i bp bc l hp hc L W (hf.below hW) h
  have HAT := Lib.hid fun W (hW : Below w.heap.size w W) (a : Int) => refAt_any (toldP bp bc L n) (toldB l L n).length (toldC bc L n) (toldB l L n) a W (told_has (hf.below hW) n).1 rfl (told_has (hf.below hW) n).2.1 (by have := (told_has hf n).2.2.2.2; omega)
  have HNU := Lib.hid fun W (hW : Below w.heap.size w W) (i : Nat) => rNumber_any F i bp bc l hp hc L W (hf.below hW)
  have HOK := Lib.hid hf.ok
  have hres : refSecs l L n = secRest l (numGo 0 L) (toldB l L n) [str []] 1 (L.drop 1) [] := rfl
  generalize refSecs l L n = res at *
  have HRES := Lib.hid hres
  have HGR : Hid (GivesRSecs res w = fun e w' => Below w.heap.size w w' ∧ ((res = none ∧ e = .returned (.tuple #[.slice none 0 0, .bool false])) ∨
    ∃ (p : Option Addr) (c : Nat) (svs : List SecV), res = some (svs.map SecV.s) ∧ e = .returned (.tuple #[.slice p svs.length c, .bool true]) ∧ w'.ownsRow w.heap.size 48 9 (.slice p svs.length c) svs.length (svs.flatMap SecV.cells) ∧ ∀ x ∈ svs, x.ok w.heap.size w' ∧ x.r = .slice none 0 0 ∧ x.s.rels = [])) := Lib.hid rfl
  rw [HGR.out]
  clear HGR
  generalize hln : L.length = ln at *
  have HLN := Lib.hid hln
  generalize htb : toldB l L n = tb at *
  generalize toldP bp bc L n = tp at *
  generalize toldC bc L n = tc at *
  generalize htl : tb.length = tl at *
  clear hi hz0 hz1 hz2 hi8 hz8 hs8 hb8 hres hf hn hln htb htl
  go_enter Tryz.func25, Tryz.ntmps25
  generalize hB : w.heap.size = B at *
  have HB := Lib.hid hB
  go_wp2_with fail
  go_loopw [4, 5, 6, 7, 8, 9, 10] (fun r4 r5 _ _ _ _ _ wr => ∃ (i : Nat) (nacc : List ByteArray) (svs : List SecV) (p : Option Addr) (c : Nat), 1 ≤ i ∧ i ≤ ln ∧ r5 = .int .i64 (i : Int) ∧ r4 = .slice p svs.length c ∧ res = secRest l (numGo 0 L) tb nacc i (L.drop i) (svs.map SecV.s) ∧ nacc.length = i ∧ svs.length ≤ i ∧ wr.ownsRow B 48 9 (.slice p svs.length c) svs.length (svs.flatMap SecV.cells) ∧ (∀ x ∈ svs, x.ok B wr ∧ x.r = .slice none 0 0 ∧ x.s.rels = []) ∧ Below B w wr) (fun _ r5 _ _ _ _ _ _ => ln - (intOf r5).toNat)
  case atStart => exact ⟨1, [str []], [], none, 0, Nat.le_refl _, by omega, rfl, rfl, HRES.out, rfl, Nat.zero_le _, World.ownsRow_nil _ _ _ _, (fun x hx => by cases hx), by rw [← hB]; exact Below.refl _ _⟩
  case round =>
    obtain ⟨i, nacc, svs, p, c, hi1, hi2, rfl, rfl, hgo, hnl2, hsl, hown, hall, hbr⟩ := hrel
    have HGO := Lib.hid hgo
    have HOWN := Lib.hid hown
    have HALL := Lib.hid hall
    have hBr : B ≤ wr.heap.size := by rw [← hB]; have := hbr.size; omega
    clear hgo hown hall HRES
    by_cases hlt : i < ln
    · have hrf := HRF.out wr hbr
      obtain ⟨b, off, t, rfl, ht, e0, e1, e2, e3, e4, e5, e6, e7, e8, e9⟩ := hrf.h.at_ (i := i) (by rw [HLN.out]; exact hlt)
      have c1 := hrf.c1
      rw [HLN.out] at c1
      have HTT := Lib.hid ht
      have hJ : (i : Int) < (ln : Int) := by omega
      have hJ0 : (0 : Int) ≤ (i : Int) := by omega
      clear hrf ht
      go_upto_region 6 with fail
      have hb4 : Below wr.heap.size wr (wr.alloc (.cells #[.int .i64 t.a, .int .i64 t.b, .int .i64 t.c, .int .i64 t.d, .int .i64 t.e, .int .i64 t.f, .int .i64 t.g, .int .i64 t.h, .int .i64 t.i, .int .i64 t.j] 54)) := (Below.refl _ wr).alloc (Nat.le_refl _) _
      have hgh := heap_alloc_new wr (.cells #[.int .i64 t.a, .int .i64 t.b, .int .i64 t.c, .int .i64 t.d, .int .i64 t.e, .int .i64 t.f, .int .i64 t.g, .int .i64 t.h, .int .i64 t.i, .int .i64 t.j] 54)
      have hown4 := owns_belowN HOWN.out hb4
      have hall4 : ∀ x ∈ svs, x.ok B _ ∧ x.r = .slice none 0 0 ∧ x.s.rels = [] := fun x hx => ⟨(HALL.out x hx).1.fr (FrT.of_below (N := 0) (Ts := []) hb4) (by simp) (by simp), (HALL.out x hx).2⟩
      have hbr4 : Below B w _ := hbr.trans (hb4.mono hBr)
      have hBr4 : B ≤ _ := Nat.le_trans hBr hb4.size
      generalize wr.alloc (.cells #[.int .i64 t.a, .int .i64 t.b, .int .i64 t.c, .int .i64 t.d, .int .i64 t.e, .int .i64 t.f, .int .i64 t.g, .int .i64 t.h, .int .i64 t.i, .int .i64 t.j] 54) = w4 at *
      generalize wr.heap.size = g at *
      have HGH := Lib.hid hgh
      have HO4 := Lib.hid hown4
      have HA4 := Lib.hid hall4
      obtain ⟨x0, x1, x2, x3, x4, x5, x6, x7, x8, x9⟩ := cells_ten _ _ _ _ _ _ _ _ _ _ _ _ _ hgh
      have c2 := HC2.out w4 hbr4
      clear hb4 hgh hown4 hall4 hbr c1 e0 e1 e2 e3 e4 e5 e6 e7 e8 e9 HOWN HALL
      have hat : ∀ W, Below B w W → Calls Tryz.prog 58 #[.slice tp tl tc, .int .i64 t.a] W fun e w' => e = .returned (.tuple #[.string (str ((strAt tb t.a).getD [])), .bool (strAt tb t.a).isSome]) ∧ W = w' := fun W hW => by
        have := HAT.out W hW t.a
        rw [atAny_eq] at this
        exact this
      have HSO := Lib.hid (show strAt tb t.a = strAt tb t.a from rfl)
      obtain ⟨so, hso⟩ : ∃ so, so = strAt tb t.a := ⟨_, rfl⟩
      rw [← hso] at hat
      have HAT2 := Lib.hid hat
      have HSO := Lib.hid hso
      clear hat hso
      go_cut [7, 8] (fun s7 s8 wx => s7 = .string (str (so.getD [])) ∧ s8 = .bool so.isSome ∧ Below w4.heap.size w4 wx)
      case first =>
        refine wp_region_below (by kernel_rfl) (by kernel_rfl) ?_
        repeat (go_big_quiet_step (first
          | (intro hWq; go_at_call 31; refine (HTN.out _ (hbr4.trans (hWq.mono hBr4))).mono ?_; rintro e w' ⟨rfl, hb⟩; exact ⟨rfl, hWq.trans (hb.mono hWq.size)⟩)
          | (intro hWq; go_at_call 58; refine (HAT2.out _ (hbr4.trans (hWq.mono hBr4))).mono ?_; rintro e w' ⟨rfl, rfl⟩; exact ⟨rfl, hWq⟩)
          | (intro hWq; have z0 := cell_later hWq x0; have z2 := cell_later hWq c2; go_simp; first | done | rfl | exact ⟨rfl, rfl⟩ | fail)
          | fail))
        refine wpQuiet_nil ?_
        intro wx hwx
        go_wp2_with fail
        go_meet
        exact ⟨rfl, rfl, hwx⟩
      case rest =>
        obtain ⟨rfl, rfl, hbx⟩ := hcut
        have hbx4 : Below B w wc := hbr4.trans (hbx.mono hBr4)
        have hBc : B ≤ wc.heap.size := Nat.le_trans hBr4 hbx.size
        have y0 := cell_later hbx x0
        have y1 := cell_later hbx x1
        have y2 := cell_later hbx x2
        have y5 := cell_later hbx x5
        have y6 := cell_later hbx x6
        have y7 := cell_later hbx x7
        have y8 := cell_later hbx x8
        have y9 := cell_later hbx x9
        have HOX := Lib.hid (owns_belowN HO4.out hbx)
        have HAX : Hid (∀ x ∈ svs, x.ok B wc ∧ x.r = .slice none 0 0 ∧ x.s.rels = []) := Lib.hid fun x hx => ⟨(HA4.out x hx).1.fr (FrT.of_below (N := 0) (Ts := []) hbx) (by simp) (by simp), (HA4.out x hx).2⟩
        clear x0 x1 x2 x3 x4 x5 x6 x7 x8 x9 c2 hbx hbr4 HO4 HA4 HGH
        cases so with
        | none =>
          have hE : Hid (res = none) := Lib.hid (by rw [HGO.out]; exact secRest_noname HTT.out HSO.out.symm)
          go_wp2_with fail
          exact bodyPost_ret (v := .tuple #[.slice none 0 0, .bool false]) (by simp [results, Tryz.results25, go_sem]) rfl ⟨by first | exact hbx4 | (rw [hB]; exact hbx4), .inl ⟨hE.out, rfl⟩⟩
        | some nm =>
          have HNM : Hid (strAt tb t.a = some nm) := Lib.hid HSO.out.symm
          have hNU := HNU.out wc hbx4 i
          obtain ⟨nv, hnv⟩ : ∃ nv, nv = (numGo 0 L)[i]?.getD 0 := ⟨_, rfl⟩
          rw [← hnv] at hNU
          have HNV := Lib.hid hnv
          have HNU2 := Lib.hid hNU
          have hstr : str ((some nm : Option Nm).getD []) = str nm := rfl
          rw [hstr]
          clear hNU hnv hstr
          cases hz : (nv == 0) with
          | true =>
            have hz0 : nv = 0 := by simpa using hz
            have hE : Hid (res = secRest l (numGo 0 L) tb (nacc ++ [str nm]) (i + 1) (L.drop (i + 1)) (svs.map SecV.s)) := Lib.hid (by rw [HGO.out]; exact secRest_skip HTT.out HNM.out (by rw [← HNV.out]; exact hz0))
            go_wp2_with fail
            refine HNU2.out.mono ?_
            rintro e w6 ⟨rfl, rfl⟩
            go_wp2_with fail
            go_roundw
            case rel => exact ⟨i + 1, nacc ++ [str nm], svs, p, c, by omega, hlt, by go_num, rfl, hE.out, by rw [List.length_append, hnl2]; rfl, by omega, HOX.out, HAX.out, hbx4⟩
            case measure => simp [intOf]; omega
          | false =>
            have hit : isSecT t = true := by
              cases hs : isSecT t with
              | true => rfl
              | false =>
                have := HNV.out
                rw [numGo_at HTT.out, hs] at this
                rw [this] at hz
                cases hz
            have hty : t.b = 1 ∨ t.b = 8 := by
              unfold isSecT at hit
              simpa using hit
            have HDA : Hid (toldB l L i = dataB l t) := Lib.hid (toldB_data HTT.out hi1 hit)
            obtain ⟨hm, _⟩ := HOK.out i t HTT.out
            have hfl := (fitsB_iff _).1 (hm t.c (by simp [Ten.l]))
            have hai := (fitsB_iff _).1 (hm t.i (by simp [Ten.l]))
            have hgi := (fitsB_iff _).1 (hm t.g (by simp [Ten.l]))
            have htd := told_has (HRF.out wc hbx4) i
            have hTI := HTI.out wc hbx4 i hlt
            rw [HDA.out] at htd
            have HTW : Hid (∀ W, Below wc.heap.size wc W → Calls Tryz.prog 31 #[filP F, .int .i64 (i : Int)] W fun e w' => e = .returned (.slice (toldP bp bc L i) (dataB l t).length (toldC bc L i)) ∧ Below W.heap.size W w') := Lib.hid fun W hW => by
              have := HTI.out W (hbx4.trans (hW.mono hBc)) i hlt
              rw [HDA.out] at this
              exact this
            have HMT := Lib.hid hm
            clear hTI hit hm HSO
            generalize toldP bp bc L i = dp at *
            generalize toldC bc L i = dc at *
            generalize hdd : dataB l t = dd at *
            have HDD := Lib.hid hdd
            generalize hdl : dd.length = dl at *
            have HDL := Lib.hid hdl
            obtain ⟨htd1, htd2, htd3, htd4, htd5⟩ := htd
            have HT1 := Lib.hid htd1
            have HT4 := Lib.hid htd4
            have hdl2 : dl ≤ 16384 := by omega
            clear htd1 htd4 hdd hdl htd5
            go_wp2_with fail
            refine HNU2.out.mono ?_
            rintro e w6 ⟨rfl, rfl⟩
            generalize wc = wo at *
            go_upto_region 10 with fail
            go_cut [9] (fun s9 wx => ∃ (g9 : Nat) (q : Option Addr) (c9 : Nat), s9 = .pointer (some ⟨g9, 0, none⟩) ∧ wx.heap[g9]? = some (.cells #[.string (str nm), .int .i64 t.b, .int .i64 t.c, .int .i64 t.i, .int .i64 t.j, .int .i64 0, .int .i64 t.f, .slice q dl c9, .slice none 0 0] 48 (0, 0)) ∧ Below wo.heap.size wo wx ∧ wo.heap.size ≤ g9 ∧ wx.ownsRow B 5 1 (.slice q dl c9) dl (dd.map u8v))
            case first =>
              go_region_held3 (fun W => W.cell? ⟨g, 1, none⟩ = some (.int .i64 t.b) ∧ W.cell? ⟨g, 2, none⟩ = some (.int .i64 t.c) ∧ W.cell? ⟨g, 5, none⟩ = some (.int .i64 t.f) ∧ W.cell? ⟨g, 8, none⟩ = some (.int .i64 t.i) ∧ W.cell? ⟨g, 9, none⟩ = some (.int .i64 t.j)) (first | go_keep | with_reducible exact ⟨y1, y2, y5, y8, y9⟩ | with_reducible exact ⟨u1, u2, u5, u8, u9⟩ | with_reducible exact ⟨v1, v2, v5, v8, v9⟩ | with_reducible exact ⟨q1, q2, q5, q8, q9⟩ | fail)
                ((first
                  | (go_at_call 31
                     (first
                      | (with_reducible refine (HTW.out _ (Below.refl _ wo).drew).mono ?_
                         rintro e w2 ⟨rfl, hb2⟩
                         have hbT : Below wo.heap.size wo w2 := ((Below.refl _ wo).drew).trans (hb2.mono (by simp <;> omega))
                         have u1 := cell_later hbT y1
                         have u2 := cell_later hbT y2
                         have u5 := cell_later hbT y5
                         have u8 := cell_later hbT y8
                         have u9 := cell_later hbT y9
                         have hBT : B ≤ w2.heap.size := Nat.le_trans hBc hbT.size
                         have HHT : Hid (∀ W, Below w2.heap.size w2 W → Has W dp dd) := Lib.hid fun W hW => (HT1.out.below hbT).below hW
                         have HFT : Hid (w2.heap.size = w2.heap.size) := Lib.hid rfl)
                      | (with_reducible refine (HTW.out _ ((Below.refl _ wo).alloc (Nat.le_refl _) (.cells #[] 5)).drew).mono ?_
                         rintro e w2 ⟨rfl, hb2⟩
                         have hbT : Below wo.heap.size wo w2 := (((Below.refl _ wo).alloc (Nat.le_refl _) (.cells #[] 5)).drew).trans (hb2.mono (by simp <;> omega))
                         have hE2 : w2.ownsRow B 5 1 (.slice (some ⟨wo.heap.size, 0, none⟩) 0 0) 0 (([] : List UInt8).map u8v) := owns_belowN ((empty_owns wo B hBc).drew) hb2
                         have u1 := cell_later hbT y1
                         have u2 := cell_later hbT y2
                         have u5 := cell_later hbT y5
                         have u8 := cell_later hbT y8
                         have u9 := cell_later hbT y9
                         have hBT : B ≤ w2.heap.size := Nat.le_trans hBc hbT.size
                         have HHT : Hid (∀ W, Below w2.heap.size w2 W → Has W dp dd) := Lib.hid fun W hW => (HT1.out.below hbT).below hW
                         have HFT : Hid (w2.heap.size = w2.heap.size) := Lib.hid rfl)
                      | (with_reducible refine (HTW.out _ ((Below.refl _ wo).alloc (Nat.le_refl _) (.cells #[.string ⟨#[]⟩, .int .i64 0, .int .i64 0, .int .i64 0, .int .i64 0, .int .i64 0, .int .i64 0, .slice none 0 0, .slice none 0 0] 48)).drew).mono ?_
                         rintro e w2 ⟨rfl, hb2⟩
                         have hbT : Below wo.heap.size wo w2 := (((Below.refl _ wo).alloc (Nat.le_refl _) (.cells #[.string ⟨#[]⟩, .int .i64 0, .int .i64 0, .int .i64 0, .int .i64 0, .int .i64 0, .int .i64 0, .slice none 0 0, .slice none 0 0] 48)).drew).trans (hb2.mono (by simp <;> omega))
                         have hZ2 : w2.heap[wo.heap.size]? = some (.cells #[.string ⟨#[]⟩, .int .i64 0, .int .i64 0, .int .i64 0, .int .i64 0, .int .i64 0, .int .i64 0, .slice none 0 0, .slice none 0 0] 48 (0, 0)) := by
                           rw [hb2.block _ (by simp <;> omega)]
                           exact heap_alloc_new wo _
                         have u1 := cell_later hbT y1
                         have u2 := cell_later hbT y2
                         have u5 := cell_later hbT y5
                         have u8 := cell_later hbT y8
                         have u9 := cell_later hbT y9
                         have hBT : B ≤ w2.heap.size := Nat.le_trans hBc hbT.size
                         have HHT : Hid (∀ W, Below w2.heap.size w2 W → Has W dp dd) := Lib.hid fun W hW => (HT1.out.below hbT).below hW
                         have HFT : Hid (w2.heap.size = w2.heap.size) := Lib.hid rfl)
                      | (with_reducible refine (HTW.out _ (((Below.refl _ wo).alloc (Nat.le_refl _) (.cells #[] 5)).alloc (by simp <;> omega) (.cells #[.string ⟨#[]⟩, .int .i64 0, .int .i64 0, .int .i64 0, .int .i64 0, .int .i64 0, .int .i64 0, .slice none 0 0, .slice none 0 0] 48)).drew).mono ?_
                         rintro e w2 ⟨rfl, hb2⟩
                         have hbT : Below wo.heap.size wo w2 := ((((Below.refl _ wo).alloc (Nat.le_refl _) (.cells #[] 5)).alloc (by simp <;> omega) (.cells #[.string ⟨#[]⟩, .int .i64 0, .int .i64 0, .int .i64 0, .int .i64 0, .int .i64 0, .int .i64 0, .slice none 0 0, .slice none 0 0] 48)).drew).trans (hb2.mono (by simp <;> omega))
                         have hE2 : w2.ownsRow B 5 1 (.slice (some ⟨wo.heap.size, 0, none⟩) 0 0) 0 (([] : List UInt8).map u8v) := owns_belowN (((empty_owns wo B hBc).alloc _).drew) hb2
                         have hZ2 : w2.heap[wo.heap.size + 1]? = some (.cells #[.string ⟨#[]⟩, .int .i64 0, .int .i64 0, .int .i64 0, .int .i64 0, .int .i64 0, .int .i64 0, .slice none 0 0, .slice none 0 0] 48 (0, 0)) := by
                           rw [hb2.block _ (by simp <;> omega)]
                           exact (two_in wo _ _).2.1
                         have u1 := cell_later hbT y1
                         have u2 := cell_later hbT y2
                         have u5 := cell_later hbT y5
                         have u8 := cell_later hbT y8
                         have u9 := cell_later hbT y9
                         have hBT : B ≤ w2.heap.size := Nat.le_trans hBc hbT.size
                         have HHT : Hid (∀ W, Below w2.heap.size w2 W → Has W dp dd) := Lib.hid fun W hW => (HT1.out.below hbT).below hW
                         have HFT : Hid (w2.heap.size = w2.heap.size) := Lib.hid rfl)
                      | (with_reducible refine (HTW.out _ (((Below.refl _ wo).alloc (Nat.le_refl _) (.cells #[.string ⟨#[]⟩, .int .i64 0, .int .i64 0, .int .i64 0, .int .i64 0, .int .i64 0, .int .i64 0, .slice none 0 0, .slice none 0 0] 48)).alloc (by simp <;> omega) (.cells #[] 5)).drew).mono ?_
                         rintro e w2 ⟨rfl, hb2⟩
                         have hbT : Below wo.heap.size wo w2 := ((((Below.refl _ wo).alloc (Nat.le_refl _) (.cells #[.string ⟨#[]⟩, .int .i64 0, .int .i64 0, .int .i64 0, .int .i64 0, .int .i64 0, .int .i64 0, .slice none 0 0, .slice none 0 0] 48)).alloc (by simp <;> omega) (.cells #[] 5)).drew).trans (hb2.mono (by simp <;> omega))
                         have hE2 : w2.ownsRow B 5 1 (.slice (some ⟨wo.heap.size + 1, 0, none⟩) 0 0) 0 (([] : List UInt8).map u8v) := owns_belowN ((empty_owns2 wo B hBc _).drew) hb2
                         have hZ2 : w2.heap[wo.heap.size]? = some (.cells #[.string ⟨#[]⟩, .int .i64 0, .int .i64 0, .int .i64 0, .int .i64 0, .int .i64 0, .int .i64 0, .slice none 0 0, .slice none 0 0] 48 (0, 0)) := by
                           rw [hb2.block _ (by simp <;> omega)]
                           exact (two_in wo _ _).1
                         have u1 := cell_later hbT y1
                         have u2 := cell_later hbT y2
                         have u5 := cell_later hbT y5
                         have u8 := cell_later hbT y8
                         have u9 := cell_later hbT y9
                         have hBT : B ≤ w2.heap.size := Nat.le_trans hBc hbT.size
                         have HHT : Hid (∀ W, Below w2.heap.size w2 W → Has W dp dd) := Lib.hid fun W hW => (HT1.out.below hbT).below hW
                         have HFT : Hid (w2.heap.size = w2.heap.size) := Lib.hid rfl)
                      | fail))
                  | (refine step_append_bytes (by rfl) _ _ _ (by rfl) B 5 i8 (by rfl) HI8.out HZ8.out HS8.out HB8.out _ 0 [] (by rfl) (by first | exact hE2 | exact hE2.alloc _ | exact empty_owns w2 B hBT | exact (empty_owns w2 B hBT).alloc _ | exact empty_owns2 w2 B hBT _ | fail) _ dl dc dd (by rfl) (HHT.out _ (by first | with_reducible exact Below.refl _ _ | with_reducible exact (Below.refl _ w2).alloc (Nat.le_refl _) _ | with_reducible exact ((Below.refl _ w2).alloc (Nat.le_refl _) _).alloc (by simp) _ | fail)) HDL.out HT4.out (by omega) (by first | exact hBT | (simp; omega) | fail) ?_
                     intro v5 w5 hown5 hgrow5
                     have hbA : Below wo.heap.size wo w5 := (show Below wo.heap.size wo _ from by first | with_reducible exact hbT | with_reducible exact hbT.alloc hbT.size _ | with_reducible exact (hbT.alloc hbT.size _).alloc (by have := hbT.size; simp; omega) _ | fail).grown hgrow5 (by have := hbT.size; first | exact this | (simp; omega) | fail) (fun k hk => by have hs2 := hbT.size; cases hk; first | with_reducible exact Nat.le_refl _ | with_reducible exact Nat.le_succ _ | with_reducible exact hs2 | (simp; omega) | fail)
                     have hgr5 := hgrow5
                     rw [List.nil_append, Nat.zero_add] at hown5
                     obtain ⟨q, c9, rfl, _, _, _⟩ := slice_form hown5
                     (first
                      | (with_reducible have hZ5 := (FrT.grown (N := 0) (Ts := [5]) hE2 hgrow5 (by simp) (Nat.zero_le _)).heap hZ2 (by decide)
                         obtain ⟨⟨z0, z1, z2, z3, z4, z5, z6, z7, z8⟩, p0, p1, p2, p3, p4, p5, p6, p7, p8⟩ := nine_cells _ _ _ _ _ _ _ _ _ _ _ _ hZ5
                         have hN9 := nine_set (.string (str nm)) (.int .i64 t.b) (.int .i64 t.c) (.int .i64 t.i) (.int .i64 t.j) (.int .i64 0) (.int .i64 t.f) (.slice q dl c9) (.slice none 0 0) (N := wo.heap.size) (by have hs2 := hbT.size; first | with_reducible exact Nat.le_refl _ | with_reducible exact Nat.le_succ _ | with_reducible exact hs2 | (simp; omega) | fail) hZ5
                         have hbz := hbA.trans (hN9.2.below hbA.size)
                         have q1 := cell_later hbz y1
                         have q2 := cell_later hbz y2
                         have q5 := cell_later hbz y5
                         have q8 := cell_later hbz y8
                         have q9 := cell_later hbz y9
                         have HN9 := Lib.hid hN9
                         have HBZ := Lib.hid hbz
                         clear hN9 hbz)
                      | (with_reducible have hZ5 := (FrT.grown (N := 0) (Ts := [5]) (empty_owns w2 B hBT) hgrow5 (by simp) (Nat.zero_le _)).heap (block_new hZ2) (by decide)
                         obtain ⟨⟨z0, z1, z2, z3, z4, z5, z6, z7, z8⟩, p0, p1, p2, p3, p4, p5, p6, p7, p8⟩ := nine_cells _ _ _ _ _ _ _ _ _ _ _ _ hZ5
                         have hN9 := nine_set (.string (str nm)) (.int .i64 t.b) (.int .i64 t.c) (.int .i64 t.i) (.int .i64 t.j) (.int .i64 0) (.int .i64 t.f) (.slice q dl c9) (.slice none 0 0) (N := wo.heap.size) (by have hs2 := hbT.size; first | with_reducible exact Nat.le_refl _ | with_reducible exact Nat.le_succ _ | with_reducible exact hs2 | (simp; omega) | fail) hZ5
                         have hbz := hbA.trans (hN9.2.below hbA.size)
                         have q1 := cell_later hbz y1
                         have q2 := cell_later hbz y2
                         have q5 := cell_later hbz y5
                         have q8 := cell_later hbz y8
                         have q9 := cell_later hbz y9
                         have HN9 := Lib.hid hN9
                         have HBZ := Lib.hid hbz
                         clear hN9 hbz)
                      | (with_reducible have hZ5 := (FrT.grown (N := 0) (Ts := [5]) (hE2.alloc _) hgrow5 (by simp) (Nat.zero_le _)).heap (heap_alloc_new w2 _) (by decide)
                         obtain ⟨⟨z0, z1, z2, z3, z4, z5, z6, z7, z8⟩, p0, p1, p2, p3, p4, p5, p6, p7, p8⟩ := nine_cells _ _ _ _ _ _ _ _ _ _ _ _ hZ5
                         have hN9 := nine_set (.string (str nm)) (.int .i64 t.b) (.int .i64 t.c) (.int .i64 t.i) (.int .i64 t.j) (.int .i64 0) (.int .i64 t.f) (.slice q dl c9) (.slice none 0 0) (N := wo.heap.size) (by have hs2 := hbT.size; first | with_reducible exact Nat.le_refl _ | with_reducible exact Nat.le_succ _ | with_reducible exact hs2 | (simp; omega) | fail) hZ5
                         have hbz := hbA.trans (hN9.2.below hbA.size)
                         have q1 := cell_later hbz y1
                         have q2 := cell_later hbz y2
                         have q5 := cell_later hbz y5
                         have q8 := cell_later hbz y8
                         have q9 := cell_later hbz y9
                         have HN9 := Lib.hid hN9
                         have HBZ := Lib.hid hbz
                         clear hN9 hbz)
                      | (with_reducible have hZ5 := (FrT.grown (N := 0) (Ts := [5]) ((empty_owns w2 B hBT).alloc _) hgrow5 (by simp) (Nat.zero_le _)).heap (two_in w2 _ _).2.1 (by decide)
                         obtain ⟨⟨z0, z1, z2, z3, z4, z5, z6, z7, z8⟩, p0, p1, p2, p3, p4, p5, p6, p7, p8⟩ := nine_cells _ _ _ _ _ _ _ _ _ _ _ _ hZ5
                         have hN9 := nine_set (.string (str nm)) (.int .i64 t.b) (.int .i64 t.c) (.int .i64 t.i) (.int .i64 t.j) (.int .i64 0) (.int .i64 t.f) (.slice q dl c9) (.slice none 0 0) (N := wo.heap.size) (by have hs2 := hbT.size; first | with_reducible exact Nat.le_refl _ | with_reducible exact Nat.le_succ _ | with_reducible exact hs2 | (simp; omega) | fail) hZ5
                         have hbz := hbA.trans (hN9.2.below hbA.size)
                         have q1 := cell_later hbz y1
                         have q2 := cell_later hbz y2
                         have q5 := cell_later hbz y5
                         have q8 := cell_later hbz y8
                         have q9 := cell_later hbz y9
                         have HN9 := Lib.hid hN9
                         have HBZ := Lib.hid hbz
                         clear hN9 hbz)
                      | (with_reducible have hZ5 := (FrT.grown (N := 0) (Ts := [5]) (empty_owns2 w2 B hBT _) hgrow5 (by simp) (Nat.zero_le _)).heap (two_in w2 _ _).1 (by decide)
                         obtain ⟨⟨z0, z1, z2, z3, z4, z5, z6, z7, z8⟩, p0, p1, p2, p3, p4, p5, p6, p7, p8⟩ := nine_cells _ _ _ _ _ _ _ _ _ _ _ _ hZ5
                         have hN9 := nine_set (.string (str nm)) (.int .i64 t.b) (.int .i64 t.c) (.int .i64 t.i) (.int .i64 t.j) (.int .i64 0) (.int .i64 t.f) (.slice q dl c9) (.slice none 0 0) (N := wo.heap.size) (by have hs2 := hbT.size; first | with_reducible exact Nat.le_refl _ | with_reducible exact Nat.le_succ _ | with_reducible exact hs2 | (simp; omega) | fail) hZ5
                         have hbz := hbA.trans (hN9.2.below hbA.size)
                         have q1 := cell_later hbz y1
                         have q2 := cell_later hbz y2
                         have q5 := cell_later hbz y5
                         have q8 := cell_later hbz y8
                         have q9 := cell_later hbz y9
                         have HN9 := Lib.hid hN9
                         have HBZ := Lib.hid hbz
                         clear hN9 hbz)
                      | skip)
                     have v1 := cell_later hbA y1
                     have v2 := cell_later hbA y2
                     have v5 := cell_later hbA y5
                     have v8 := cell_later hbA y8
                     have v9 := cell_later hbA y9)
                  | fail))
              all_goals go_wp2_with fail
              all_goals go_meet
              all_goals first
                | exact ⟨_, q, c9, rfl, HN9.out.1, HBZ.out, by have hs2 := hbT.size; first | with_reducible exact Nat.le_refl _ | with_reducible exact Nat.le_succ _ | with_reducible exact hs2 | (simp; omega) | fail, HN9.out.2.owns hown5 (by decide)⟩
                | exact ⟨_, q, c9, rfl, heap_alloc_new w5 _, hbA.alloc hbA.size _, hbA.size, hown5.alloc _⟩
                | trace_state
            case rest =>
              obtain ⟨g9, q, c9, rfl, hx9, hb9, hg9, ho9⟩ := hcut
              obtain ⟨al, hal⟩ : ∃ al, al = if t.i = 0 then 1 else t.i := ⟨_, rfl⟩
              have HX9 := Lib.hid hx9
              have HO9 := Lib.hid ho9
              have HB9 := Lib.hid hb9
              have k8 := cell_later hb9 y8
              have HAL := Lib.hid hal
              have HY6 := Lib.hid y6
              have HY7 := Lib.hid y7
              clear y0 y1 y2 y5 y6 y7 y8 y9 hx9 ho9 hb9 hal
              go_upto_if 64 with fail
              go_cut [] (fun wx => wx.heap[g9]? = some (.cells #[.string (str nm), .int .i64 t.b, .int .i64 t.c, .int .i64 al, .int .i64 t.j, .int .i64 0, .int .i64 t.f, .slice q dl c9, .slice none 0 0] 48 (0, 0)) ∧ Below wo.heap.size wo wx ∧ wx.ownsRow B 5 1 (.slice q dl c9) dl (dd.map u8v))
              case first =>
                by_cases h0 : t.i = 0
                · have hE : Hid (al = 1) := Lib.hid (by rw [HAL.out, if_pos h0])
                  obtain ⟨⟨s0, s1, s2, s3, s4, s5, s6, s7, s8⟩, f0, f1, f2, f3, f4, f5, f6, f7, f8⟩ := nine_cells _ _ _ _ _ _ _ _ _ _ _ _ HX9.out
                  go_wp2_with fail
                  go_meet
                  rw [hE.out]
                  exact ⟨heap_setCell_same _ g9 3 _ _ (.int .i64 1) HX9.out, below_setNew HB9.out hg9 _, (FrT.set (N := 0) (Ts := [48]) (i := 3) HX9.out (by simp) (Nat.zero_le _) _).owns HO9.out (by decide)⟩
                · have hE : Hid (al = t.i) := Lib.hid (by rw [HAL.out, if_neg h0])
                  go_wp2_with fail
                  go_meet
                  rw [hE.out]
                  exact ⟨HX9.out, HB9.out, HO9.out⟩
              case rest =>
                obtain ⟨hxa, hba, hoa⟩ := hcut
                generalize wc = wa at *
                have HXA := Lib.hid hxa
                have HOA := Lib.hid hoa
                have HBA := Lib.hid hba
                obtain ⟨⟨s0, s1, s2, s3, s4, s5, s6, s7, s8⟩, _⟩ := nine_cells _ _ _ _ _ _ _ _ _ _ _ _ hxa
                have HHS := Lib.hid (has_any (str nm) t.b t.c al t.j 0 t.f (.slice q dl c9) (.slice none 0 0) 128 wa (by decide) (by decide) ⟨by omega, by omega⟩)
                unfold secV at HHS
                obtain ⟨od, hod⟩ : ∃ od, od = hasF t.c 128 := ⟨_, rfl⟩
                rw [← hod] at HHS
                obtain ⟨tg, htg⟩ := Int.eq_ofNat_of_zero_le hgi.1
                have HTG := Lib.hid htg
                obtain ⟨nl, hnlk⟩ : ∃ nl, nl = (numGo 0 L)[tg]?.getD 0 := ⟨_, rfl⟩
                have hsb : secB l (numGo 0 L) t = bif t.h != 0 then none else bif od then (bif nl != 0 then some ⟨ByteArray.empty, t.b, t.c, al, t.j, nl, t.f, dd, []⟩ else none) else (bif (tg : Int) == 0 then some ⟨ByteArray.empty, t.b, t.c, al, t.j, 0, t.f, dd, []⟩ else none) := by
                  unfold secB
                  rw [wraps_align hai.1, ← HAL.out, HDD.out, htg, Int.toNat_natCast, ← hnlk, ← hod]
                have HSB := Lib.hid hsb
                have hnu : ∀ W, Below wo.heap.size wo W → Calls Tryz.prog 28 #[filP F, .int .i64 (tg : Int)] W fun e w' => e = .returned (.int .i64 nl) ∧ W = w' := fun W hW => by
                  have := HNU.out W (hbx4.trans (hW.mono hBc)) tg
                  rw [← hnlk] at this
                  exact this
                have HNL := Lib.hid hnu
                have HOD := Lib.hid hod
                clear hxa hoa hod htg hnlk hsb hnu k8 HX9 HO9 HB9 HAL
                go_upto_if 68 with (first | (go_at_call 59; refine HHS.out.mono ?_; rintro e wh ⟨rfl, hbh⟩) | fail)
                have hxh := (hbh.block _ (Array.getElem?_eq_some_iff.1 HXA.out).1).trans HXA.out
                have hbo : Below wo.heap.size wo wh := HBA.out.trans (hbh.mono HBA.out.size)
                have hoh := owns_belowN HOA.out hbh
                have HXH := Lib.hid hxh
                have HBO := Lib.hid hbo
                have HOH := Lib.hid hoh
                have h6 := cell_later hbo HY6.out
                rw [HTG.out] at h6
                clear hxh hbo hoh s0 s1 s2 s3 s4 s5 s6 s7 s8 hba hbh HHS HXA HOA HBA
                obtain ⟨lk, hlk⟩ : ∃ lk, lk = bif od then nl else 0 := ⟨_, rfl⟩
                have HLK := Lib.hid hlk
                clear hlk
                go_cut [] (fun wx => wx.heap[g9]? = some (.cells #[.string (str nm), .int .i64 t.b, .int .i64 t.c, .int .i64 al, .int .i64 t.j, .int .i64 lk, .int .i64 t.f, .slice q dl c9, .slice none 0 0] 48 (0, 0)) ∧ Below wo.heap.size wo wx ∧ wx.ownsRow B 5 1 (.slice q dl c9) dl (dd.map u8v))
                case first =>
                  cases od with
                  | true =>
                    have hE : Hid (lk = nl) := Lib.hid HLK.out
                    have HN3 := Lib.hid (HNL.out wh HBO.out)
                    obtain ⟨⟨s0, s1, s2, s3, s4, s5, s6, s7, s8⟩, f0, f1, f2, f3, f4, f5, f6, f7, f8⟩ := nine_cells _ _ _ _ _ _ _ _ _ _ _ _ HXH.out
                    go_wp2_with fail
                    refine HN3.out.mono ?_
                    rintro e w7 ⟨rfl, rfl⟩
                    go_wp2_with fail
                    go_meet
                    rw [hE.out]
                    exact ⟨heap_setCell_same _ g9 5 _ _ (.int .i64 nl) HXH.out, below_setNew HBO.out hg9 _, (FrT.set (N := 0) (Ts := [48]) (i := 5) HXH.out (by simp) (Nat.zero_le _) _).owns HOH.out (by decide)⟩
                  | false =>
                    have hE : Hid (lk = 0) := Lib.hid HLK.out
                    go_wp2_with fail
                    go_meet
                    rw [hE.out]
                    exact ⟨HXH.out, HBO.out, HOH.out⟩
                case rest =>
                  obtain ⟨hxz, hbz, hoz⟩ := hcut
                  generalize wc = wz at *
                  obtain ⟨⟨s0, s1, s2, s3, s4, s5, s6, s7, s8⟩, _⟩ := nine_cells _ _ _ _ _ _ _ _ _ _ _ _ hxz
                  have z6 := cell_later hbz HY6.out
                  rw [HTG.out] at z6
                  have z7 := cell_later hbz HY7.out
                  have HOZ := Lib.hid hoz
                  have HBZ := Lib.hid hbz
                  obtain ⟨bad, hbad⟩ : ∃ bad, bad = ((t.h != 0) || ((od && (lk == 0)) || (!od && ((tg : Int) != 0)))) := ⟨_, rfl⟩
                  have HBAD := Lib.hid hbad
                  clear hxz hbz hoz hbad h6 HXH HBO HOH HNL
                  go_upto_region 16 with fail
                  go_cut [93] (fun s93 wx => s93 = .bool bad ∧ wz = wx)
                  case first =>
                    cases hth : (t.h != 0) with
                    | true =>
                      obtain rfl : bad = true := by rw [HBAD.out, hth]; rfl
                      go_wp2_with fail
                      go_meet
                      exact ⟨rfl, rfl⟩
                    | false =>
                      have hb2 : bad = ((od && (lk == 0)) || (!od && ((tg : Int) != 0))) := by rw [HBAD.out, hth]; rfl
                      have HB2 := Lib.hid hb2
                      clear hb2 HBAD
                      cases od with
                      | true =>
                        have hb3 : bad = (lk == 0) := by rw [HB2.out]; simp
                        have HB3 := Lib.hid hb3
                        clear hb3 HB2
                        cases hl0 : (lk == 0) with
                        | true =>
                          obtain rfl : bad = true := by rw [HB3.out, hl0]
                          go_wp2_with fail
                          go_meet
                          exact ⟨rfl, rfl⟩
                        | false =>
                          obtain rfl : bad = false := by rw [HB3.out, hl0]
                          go_wp2_with fail
                          go_meet
                          exact ⟨rfl, rfl⟩
                      | false =>
                        have hb3 : bad = ((tg : Int) != 0) := by rw [HB2.out]; simp
                        have HB3 := Lib.hid hb3
                        clear hb3 HB2
                        cases hl0 : ((tg : Int) != 0) with
                        | true =>
                          obtain rfl : bad = true := by rw [HB3.out, hl0]
                          go_wp2_with fail
                          go_meet
                          exact ⟨by simp, rfl⟩
                        | false =>
                          obtain rfl : bad = false := by rw [HB3.out, hl0]
                          go_wp2_with fail
                          go_meet
                          exact ⟨by simp, rfl⟩
                  case rest =>
                    obtain ⟨rfl, rfl⟩ := hcut
                    have hwz : Below B w wz := hbx4.trans (HBZ.out.mono hBc)
                    have hnz : ((numGo 0 L)[i]?.getD 0 == 0) = false := by rw [← HNV.out]; exact hz
                    have HNZ := Lib.hid hnz
                    have HSV : Hid (bad = true → secB l (numGo 0 L) t = none) := Lib.hid fun hb => by
                      have hb1 := HBAD.out
                      rw [hb] at hb1
                      rw [HSB.out]
                      cases hth : (t.h != 0) with
                      | true => rfl
                      | false =>
                        rw [hth] at hb1
                        rw [HLK.out] at hb1
                        cases od with
                        | true =>
                          have hb2 : (nl == 0) = true := by simpa using hb1.symm
                          have hb3 : nl = 0 := by simpa using hb2
                          rw [hb3]
                          rfl
                        | false =>
                          have hb2 : ((tg : Int) == 0) = false := by simpa [bne] using hb1.symm
                          rw [hb2]
                          rfl
                    have HSY : Hid (bad = false → secB l (numGo 0 L) t = some ⟨ByteArray.empty, t.b, t.c, al, t.j, lk, t.f, dd, []⟩) := Lib.hid fun hb => by
                      have hb1 := HBAD.out
                      rw [hb] at hb1
                      rw [HSB.out]
                      cases hth : (t.h != 0) with
                      | true => rw [hth] at hb1; simp at hb1
                      | false =>
                        rw [hth] at hb1
                        rw [HLK.out] at hb1 ⊢
                        cases od with
                        | true =>
                          have hb2 : (nl != 0) = true := by simpa [bne] using hb1.symm
                          rw [hb2]
                          rfl
                        | false =>
                          have hb2 : ((tg : Int) == 0) = true := by simpa [bne] using hb1.symm
                          rw [hb2]
                          rfl
                    clear hnz z6 z7
                    cases bad with
                    | true =>
                      have hE : Hid (res = none) := Lib.hid (by rw [HGO.out]; exact secRest_bad HTT.out HNZ.out (HSV.out rfl))
                      go_wp2_with fail
                      exact bodyPost_ret (v := .tuple #[.slice none 0 0, .bool false]) (by simp [results, Tryz.results25, go_sem]) rfl ⟨by first | exact hwz | (rw [hB]; exact hwz), .inl ⟨hE.out, rfl⟩⟩
                    | false =>
                      have hsb := HSY.out rfl
                      have hE : Hid (res = secRest l (numGo 0 L) tb (nacc ++ [str nm]) (i + 1) (L.drop (i + 1)) (svs.map SecV.s ++ [⟨str nm, t.b, t.c, al, t.j, lk, t.f, dd, []⟩])) := Lib.hid (by rw [HGO.out]; exact secRest_more HTT.out HNM.out HNZ.out hsb hnl2)
                      have hnsz : (str nm).size ≤ maxLen := by
                        have h1 : nmGo tb [] [t] = some [str nm] := by
                          unfold nmGo
                          rw [HNM.out]
                          rfl
                        exact nmGo_size (fun x hx => by cases hx) h1 (str nm) (List.mem_singleton.2 rfl)
                      have hbd := (secB_bd (nm := str nm) HMT.out (fun x hx => by have := numGo_bd 0 x hx; rw [HLN.out] at this; omega) hnsz hsb).1
                      have hok : SecV.ok ⟨⟨str nm, t.b, t.c, al, t.j, lk, t.f, dd, []⟩, .slice q dl c9, .slice none 0 0⟩ B wz := ⟨by show wz.ownsRow B _ 1 (.slice q dl c9) dd.length _; rw [HDL.out]; exact HOZ.out, World.ownsRow_nil _ _ _ _, hbd⟩
                      have HOKX := Lib.hid hok
                      have hoxz := owns_belowN HOX.out HBZ.out
                      have haxz : ∀ x ∈ svs, x.ok B wz ∧ x.r = .slice none 0 0 ∧ x.s.rels = [] := fun x hx => ⟨(HAX.out x hx).1.fr (FrT.of_below (N := 0) (Ts := []) HBZ.out) (by simp) (by simp), (HAX.out x hx).2⟩
                      have HOXZ := Lib.hid hoxz
                      have HAXZ := Lib.hid haxz
                      have hBz : B ≤ wz.heap.size := Nat.le_trans hBc HBZ.out.size
                      clear hsb hnsz hbd hok hoxz haxz HSV HSY HSB HLK
                      go_wp2_with (at_builtin; refine wpList_append_own _ rfl (.tmp 94) (.tmp 96) 22 rfl B 48 i0 _ 9 112 Tryz.underlying22 HI.out H0.out H1.out H2.out rfl (by decide) _ svs.length _ rfl (HOXZ.out.alloc _) ⟨wz.heap.size, 0, none⟩ 1 1 (SecV.cells ⟨⟨str nm, t.b, t.c, al, t.j, lk, t.f, dd, []⟩, .slice q dl c9, .slice none 0 0⟩) rfl rfl (ten_cell_at wz #[.string (str nm), .int .i64 t.b, .int .i64 t.c, .int .i64 al, .int .i64 t.j, .int .i64 lk, .int .i64 t.f, .slice q dl c9, .slice none 0 0] 48) (sec_cells_one _ rfl rfl) (by unfold maxLen; omega) (by omega) (by simp; omega) ?_)
                      intro v6 w6 hown6 hg6 _
                      obtain ⟨p6, c6, rfl, _, _, _⟩ := slice_form hown6
                      have hfg : FrT 0 [48] _ w6 := FrT.grown (HOXZ.out.alloc _) hg6 (by simp) (Nat.zero_le _)
                      rw [← flat_snoc] at hown6
                      have hb6 : Below B w w6 := (hwz.alloc hBz _).grown hg6 (by simp; omega) (fun k hk => (HOXZ.out.lt k hk).1)
                      have hall6 : ∀ y ∈ svs ++ [(⟨⟨str nm, t.b, t.c, al, t.j, lk, t.f, dd, []⟩, .slice q dl c9, .slice none 0 0⟩ : SecV)], y.ok B w6 ∧ y.r = .slice none 0 0 ∧ y.s.rels = [] := fun y hy => by
                        have hy2 : y.ok B wz ∧ y.r = .slice none 0 0 ∧ y.s.rels = [] := by
                          rcases List.mem_append.1 hy with h | h
                          · exact HAXZ.out y h
                          · obtain rfl := List.mem_singleton.1 h
                            exact ⟨HOKX.out, rfl, rfl⟩
                        exact ⟨((hy2.1.fr (FrT.of_below (N := 0) (Ts := []) ((Below.refl _ wz).alloc (Nat.le_refl _) _)) (by simp) (by simp)).fr hfg (by decide) (by decide)), hy2.2⟩
                      have HA6 := Lib.hid hall6
                      have HO6 := Lib.hid hown6
                      have HB6 := Lib.hid hb6
                      clear hg6 hfg hown6 hb6 hall6
                      go_wp2_with fail
                      go_roundw
                      case rel => exact ⟨i + 1, nacc ++ [str nm], svs ++ [(⟨⟨str nm, t.b, t.c, al, t.j, lk, t.f, dd, []⟩, .slice q dl c9, .slice none 0 0⟩ : SecV)], p6, c6, by omega, hlt, by go_num, by rw [List.length_append]; rfl, by rw [hE.out, List.map_append]; rfl, by rw [List.length_append, hnl2]; rfl, by rw [List.length_append]; simp; omega, by rw [List.length_append]; exact HO6.out, HA6.out, HB6.out⟩
                      case measure => simp [intOf]; omega
    · obtain rfl : i = ln := by omega
      have hJ : ¬ (i : Int) < (i : Int) := by omega
      have hrf := HRF.out wr hbr
      have c1 := hrf.c1
      rw [HLN.out] at c1
      have hE : Hid (res = some (svs.map SecV.s)) := Lib.hid (by rw [HGO.out, List.drop_eq_nil_of_le (by rw [HLN.out]; exact Nat.le_refl _)]; rfl)
      clear hrf
      go_wp2_with fail
      exact bodyPost_ret (v := .tuple #[.slice p svs.length c, .bool true]) (by simp [results, Tryz.results25, go_sem]) rfl ⟨by first | exact hbr | (rw [hB]; exact hbr), .inr ⟨p, c, svs, hE.out, rfl, by first | exact HOWN.out | (rw [hB]; exact HOWN.out), fun x hx => by first | exact HALL.out x hx | (rw [hB]; exact HALL.out x hx)⟩⟩
end Go.Proofs.YtenmcmnhiejbgaaGreat
