/-
  Contract of the project's readSyms.
-/
import Derived.Test.YtenmcmnhiejbgaaGreatJg15
import Derived.Test.YtenmcmnhiejbgaaGreatJg16
import Derived.StillTailTactics
namespace Go.Proofs.YtenmcmnhiejbgaaGreat
open Go.RowKit

theorem file_sy {N F : Nat} {vb vh vn vs : Value} {sy : Int} {w : World} (hF : w.heap[F]? = some (.cells #[vb, vh, vn, vs, .int .i64 sy] 100 (0, 0))) (hNF : N ≤ F) (v : Value) :
    (w.setCell ⟨F, 4, none⟩ v).heap[F]? = some (.cells #[vb, vh, vn, vs, v] 100 (0, 0)) ∧ FrT N [100] w (w.setCell ⟨F, 4, none⟩ v) :=
  ⟨heap_setCell_same w F 4 _ _ v hF, FrT.set hF (by simp) hNF v⟩
set_option maxRecDepth 100000 in
set_option maxHeartbeats 4000000 in
theorem readSyms_any (N F G B B2 : Nat) (w0 : World) (l : List UInt8) (bp : Option Addr) (bc : Nat) (vh vn vs v0 v2 v3 v4 : Value) (L : List Ten) (ns : List Int) (w : World) (hN : w0.heap.size = N) (hw : Below N w0 w) (hNF : N ≤ F) (hNG : N ≤ G)
    (hF : w.heap[F]? = some (.cells #[.slice bp l.length bc, vh, vn, vs, .int .i64 0] 100 (0, 0))) (hG : w.heap[G]? = some (.cells #[v0, .slice none 0 0, v2, v3, v4] 27 (0, 0)))
    (hL : w.ownsRow B 104 10 vh L.length (tensV L)) (hn : w.ownsRow B2 3 1 vs ns.length (ns.map (Value.int .i64))) (hok : HeadsOK l.length L) (hnb : ∀ n ∈ ns, 0 ≤ n ∧ n ≤ 100000) (hL1 : 1 ≤ L.length) (hL2 : L.length ≤ 65535)
    (ht : Has w0 bp l) (h1 : l.length ≤ bc) (h2 : bc ≤ maxLen) (hbig : l.length ≤ 100000) :
    Calls Tryz.prog 47 #[filP F, filP G] w (GivesSyms F G N (.slice bp l.length bc) vh vn vs v0 v2 v3 v4 l L ns w) := by
  obtain ⟨i0, hi, hz0, hz1, hz2⟩ := info_parts Tryz.infoSym
  have HI := Lib.hid hi
  have H0 := Lib.hid hz0
  have H1 := Lib.hid hz1
  have H2 := Lib.hid hz2
  have hgv : GivesSyms F G N (.slice bp l.length bc) vh vn vs v0 v2 v3 v4 l L ns w = fun e w' => e = .returned (.bool (symsB l L ns).isSome) ∧ FrT N [100, 27] w w' ∧ ∀ ys, symsB l L ns = some ys → ∃ v1,
    w'.heap[F]? = some (.cells #[.slice bp l.length bc, vh, vn, vs, .int .i64 ((last2 L L.length : Nat) : Int)] 100 (0, 0)) ∧
    w'.heap[G]? = some (.cells #[v0, v1, v2, v3, v4] 27 (0, 0)) ∧ w'.ownsRow w.heap.size 45 6 v1 ys.length (ys.flatMap symC) ∧ ∀ y ∈ ys, y.bd := rfl
  rw [hgv]
  have hres : symsB l L ns = bif cnt2 L L.length == 1 then (match L[last2 L L.length]? with
    | none => none
    | some h => symsAt l L ns h) else none := rfl
  clear hgv
  generalize symsB l L ns = res at *
  obtain ⟨hp, hc, rfl, l1, l2, l3, hLh⟩ := tens_has hL
  have HL := Lib.hid hL
  have HNM := Lib.hid hn
  have HOK := Lib.hid hok
  have HNB := Lib.hid hnb
  generalize hln : L.length = ln at *
  have HLN := Lib.hid hln
  have HRES := Lib.hid hres
  have HW := Lib.hid hw
  have HF := Lib.hid hF
  have HG := Lib.hid hG
  have HHAS := Lib.hid ht
  have hwN : N ≤ w.heap.size := by have := hw.size; omega
  clear hi hz0 hz1 hz2 hL hn hok hnb hln ht hw hres hLh
  go_enter Tryz.func47, Tryz.ntmps47
  obtain ⟨⟨c0, c1, c2, c3, c4⟩, f0, f1, f2, f3, f4⟩ := cells5 _ _ _ _ _ _ _ _ HF.out
  go_wp2_with fail
  go_loopw [5, 19] (fun r5 r19 wr => ∃ (k : Nat), k ≤ ln ∧ r19 = .int .i64 (k : Int) ∧ r5 = .int .i64 ((cnt2 L k : Nat) : Int) ∧
    wr.heap[F]? = some (.cells #[.slice bp l.length bc, .slice hp ln hc, vn, vs, .int .i64 ((last2 L k : Nat) : Int)] 100 (0, 0)) ∧ FrT N [100] w wr) (fun _ r19 _ => ln - (intOf r19).toNat)
  case atStart => exact ⟨0, Nat.zero_le _, rfl, rfl, HF.out, FrT.refl _ _ _⟩
  case round =>
    obtain ⟨k, hk, rfl, rfl, hFr, hfr⟩ := hrel
    have HFR := Lib.hid hfr
    have HFr := Lib.hid hFr
    clear c0 c1 c2 c3 c4 f0 f1 f2 f3 f4 hfr
    by_cases hlt : k < ln
    · obtain ⟨x, hx⟩ : ∃ x, L[k]? = some x := ⟨_, List.getElem?_eq_getElem (by rw [HLN.out]; exact hlt)⟩
      obtain ⟨p', c2, e, _, _, _, hh⟩ := tens_has (by rw [HLN.out]; exact HFR.out.owns HL.out (by decide))
      rw [HLN.out] at e
      cases e
      obtain ⟨b, off, rfl, hE⟩ := hh k x hx
      obtain ⟨d0, d1, d2, d3, d4, d5, d6, d7, d8, d9⟩ := hE
      have hba : Below wr.heap.size wr (wr.alloc (.cells #[.int .i64 x.a, .int .i64 x.b, .int .i64 x.c, .int .i64 x.d, .int .i64 x.e, .int .i64 x.f, .int .i64 x.g, .int .i64 x.h, .int .i64 x.i, .int .i64 x.j] 104)) := (Below.refl _ wr).alloc (Nat.le_refl _) _
      have hha := heap_new wr (.cells #[.int .i64 x.a, .int .i64 x.b, .int .i64 x.c, .int .i64 x.d, .int .i64 x.e, .int .i64 x.f, .int .i64 x.g, .int .i64 x.h, .int .i64 x.i, .int .i64 x.j] 104)
      have hJ : (k : Int) < (ln : Int) := by omega
      have k2 : (0 : Int) ≤ (k : Int) := by omega
      have hcl := cnt2_le L k
      have HCS := Lib.hid (cnt2_step hx)
      have HLS := Lib.hid (last2_step hx)
      generalize cnt2 L k = ct at *
      generalize last2 L k = lt at *
      have k3 : IntKind.i64.wrap ((ct : Int) + 1) = ((ct + 1 : Nat) : Int) := by rw [show (ct : Int) + 1 = ((ct + 1 : Nat) : Int) by omega]; exact IntWalk.i64_in _ (by omega)
      clear hx hh hcl
      go_upto_region 5 with fail
      have hFs2 := FrT.heap (N := N) (Ts := []) (FrT.of_below hba) hFr (by simp)
      have hfr2 := HFR.out.trans (FrT.of_below (N := N) (Ts := [100]) hba)
      generalize wr.alloc (.cells #[.int .i64 x.a, .int .i64 x.b, .int .i64 x.c, .int .i64 x.d, .int .i64 x.e, .int .i64 x.f, .int .i64 x.g, .int .i64 x.h, .int .i64 x.i, .int .i64 x.j] 104) = ws at *
      obtain ⟨_, s1, _⟩ := cells_ten _ _ _ _ _ _ _ _ _ _ _ _ _ hha
      obtain ⟨⟨c0, c1, c2', c3, c4⟩, f0, f1, f2, f3, f4⟩ := cells5 _ _ _ _ _ _ _ _ hFs2
      have HF3 := Lib.hid hFs2
      have HFR2 := Lib.hid hfr2
      clear hFs2 hfr2 hba hha d0 d1 d2 d3 d4 d5 d6 d7 d8 d9 hFr HFR HFr
      cases hq : (x.b == 2) with
      | true =>
        have hfs := file_sy (N := N) HF3.out hNF (.int .i64 (k : Int))
        have HFS := Lib.hid hfs
        have HCT : Hid (cnt2 L (k + 1) = ct + 1) := Lib.hid (by rw [HCS.out, hq]; rfl)
        have HLT : Hid (last2 L (k + 1) = k) := Lib.hid (by rw [HLS.out, hq]; rfl)
        clear hfs
        go_wp2_with fail
        go_roundw
        case rel => exact ⟨k + 1, hlt, by go_num, by rw [HCT.out]; go_num, by rw [HLT.out]; exact HFS.out.1, HFR2.out.trans HFS.out.2⟩
        case measure => simp [intOf]; omega
      | false =>
        have HCT : Hid (cnt2 L (k + 1) = ct) := Lib.hid (by rw [HCS.out, hq]; rfl)
        have HLT : Hid (last2 L (k + 1) = lt) := Lib.hid (by rw [HLS.out, hq]; rfl)
        go_wp2_with fail
        go_roundw
        case rel => exact ⟨k + 1, hlt, by go_num, by rw [HCT.out], by rw [HLT.out]; exact HF3.out, HFR2.out⟩
        case measure => simp [intOf]; omega
    · obtain rfl : k = ln := by omega
      have hJ : ¬ (k : Int) < (k : Int) := by omega
      have hl2 := last2_lt L k hL1
      obtain ⟨h, hh⟩ : ∃ h, L[last2 L k]? = some h := ⟨_, List.getElem?_eq_getElem (by rw [HLN.out]; exact hl2)⟩
      have hR := HRES.out
      rw [hh] at hR
      have hR2 : res = bif cnt2 L k == 1 then symsAt l L ns h else none := hR
      have HR2 := Lib.hid hR2
      obtain ⟨p', c2, e, _, _, _, hte⟩ := tens_has (by rw [HLN.out]; exact HFR.out.owns HL.out (by decide))
      rw [HLN.out] at e
      cases e
      obtain ⟨b, off, rfl, hE⟩ := hte _ h hh
      obtain ⟨d0, d1, d2, d3, d4, d5, d6, d7, d8, d9⟩ := hE
      have HHH := Lib.hid hh
      generalize hsye : last2 L k = sy at *
      have HSYE := Lib.hid hsye
      clear hsye
      generalize cnt2 L k = ct at *
      obtain ⟨⟨c0, c1, c2', c3, c4⟩, f0, f1, f2, f3, f4⟩ := cells5 _ _ _ _ _ _ _ _ hFr
      have k2 : (0 : Int) ≤ (sy : Int) := by omega
      have k3 : (sy : Int) < (k : Int) := by omega
      clear hR hR2 hh hFr hte
      go_upto_region 9 with fail
      go_cut [8] (fun s8 wx => ∃ g, s8 = .pointer (some ⟨g, 0, none⟩) ∧ wx.heap[g]? = some (.cells #[.int .i64 h.a, .int .i64 h.b, .int .i64 h.c, .int .i64 h.d, .int .i64 h.e, .int .i64 h.f, .int .i64 h.g, .int .i64 h.h, .int .i64 h.i, .int .i64 h.j] 104 (0, 0)) ∧ wr.heap.size ≤ g ∧ Below wr.heap.size wr wx)
      case first =>
        have hbz : Below wr.heap.size wr (wr.alloc (.cells #[.int .i64 0, .int .i64 0, .int .i64 0, .int .i64 0, .int .i64 0, .int .i64 0, .int .i64 0, .int .i64 0, .int .i64 0, .int .i64 0] 104)).drew := ((Below.refl _ wr).alloc (Nat.le_refl _) _).drew
        have c1z := cell_later hbz c1
        have c4z := cell_later hbz c4
        have d0z := cell_later hbz d0
        have d1z := cell_later hbz d1
        have d2z := cell_later hbz d2
        have d3z := cell_later hbz d3
        have d4z := cell_later hbz d4
        have d5z := cell_later hbz d5
        have d6z := cell_later hbz d6
        have d7z := cell_later hbz d7
        have d8z := cell_later hbz d8
        have d9z := cell_later hbz d9
        go_region
        go_wp2_with fail
        go_meet
        exact ⟨_, rfl, (heap_new wr (.cells #[.int .i64 h.a, .int .i64 h.b, .int .i64 h.c, .int .i64 h.d, .int .i64 h.e, .int .i64 h.f, .int .i64 h.g, .int .i64 h.h, .int .i64 h.i, .int .i64 h.j] 104)), Nat.le_refl _, ((Below.refl _ wr).alloc (Nat.le_refl _) _).drew⟩
      case rest =>
        obtain ⟨g, rfl, hgh, hgs, hbx⟩ := hcut
        have hmh := (HOK.out sy h HHH.out).1
        have HMH := Lib.hid hmh
        have hth := (fitsB_iff _).1 (hmh h.h (by simp [Ten.l]))
        have htg := (fitsB_iff _).1 (hmh h.g (by simp [Ten.l]))
        have hte := (fitsB_iff _).1 (hmh h.e (by simp [Ten.l]))
        have htf := (fitsB_iff _).1 (hmh h.f (by simp [Ten.l]))
        obtain ⟨tg, htg2⟩ := Int.eq_ofNat_of_zero_le htg.1
        obtain ⟨te, hte2⟩ := Int.eq_ofNat_of_zero_le hte.1
        obtain ⟨tf, htf2⟩ := Int.eq_ofNat_of_zero_le htf.1
        have hR3 : res = bif ct == 1 then (bif (h.j == 24) && (h.f.tmod 24 == 0) then
          bif isTy L tg 3 then (match L[tg]? with
            | none => none
            | some t => match symGo l ns (win l t.e.toNat t.f.toNat) (te : Int) 0 (tf / 24) [] with
              | none => none
              | some ys => bif ((cntL ys : Nat) : Int) == h.h then some ys else none) else none
          else none) else none := by
          rw [HR2.out]
          unfold symsAt
          rw [htg2, hte2, htf2]
          rfl
        have HR3 := Lib.hid hR3
        have hFx := FrT.heap (N := N) (Ts := []) (FrT.of_below hbx) HFr.out (by simp)
        have hfx := HFR.out.trans (FrT.of_below (N := N) (Ts := [100]) hbx)
        have hbN : Below N w0 wc := HW.out.trans (hfx.below hwN)
        rw [hte2, htf2, htg2] at hgh
        clear d0 d1 d2 d3 d4 d5 d6 d7 d8 d9 c0 c1 c2' c3 c4 f0 f1 f2 f3 f4 hR3 HR2 hmh hbx HFr HFR
        obtain ⟨d0, d1, d2, d3, d4, d5, d6, d7, d8, d9⟩ := cells_ten _ _ _ _ _ _ _ _ _ _ _ _ _ hgh
        obtain ⟨⟨c0, c1, c2', c3, c4⟩, f0, f1, f2, f3, f4⟩ := cells5 _ _ _ _ _ _ _ _ hFx
        have HTE := Lib.hid hte2
        have HTF := Lib.hid htf2
        have HTG := Lib.hid htg2
        have HFX := Lib.hid hFx
        have HRX := Lib.hid hfx
        have HBN := Lib.hid hbN
        have HGH := Lib.hid hgh
        have hil : ∀ W, Calls Tryz.prog 89 #[.agg #[.int .i64 h.a, .int .i64 h.b, .int .i64 h.c, .int .i64 h.d, .int .i64 (te : Int), .int .i64 (tf : Int), .int .i64 (tg : Int), .int .i64 h.h, .int .i64 h.i, .int .i64 h.j], .int .i64 24] W fun e w' => e = .returned (.bool ((h.j == 24) && (h.f.tmod 24 == 0))) ∧ Below W.heap.size W w' := fun W => by
          have := isListOf_any h 24 W (by decide) (by decide)
          rw [show h.v = .agg #[.int .i64 h.a, .int .i64 h.b, .int .i64 h.c, .int .i64 h.d, .int .i64 (te : Int), .int .i64 (tf : Int), .int .i64 (tg : Int), .int .i64 h.h, .int .i64 h.i, .int .i64 h.j] by rw [← hte2, ← htf2, ← htg2]] at this
          exact this
        have HIL := Lib.hid hil
        have HHOK := Lib.hid (HFX.out)
        have hLx := HRX.out.owns HL.out (by decide)
        have HLX := Lib.hid hLx
        have hty : ∀ W, Below wc.heap.size wc W → Calls Tryz.prog 85 #[filP F, .int .i64 (tg : Int), .int .i64 3] W fun e w' => e = .returned (.bool (isTy L tg 3)) ∧ W = w' := fun W hW => by
          obtain ⟨⟨_, q1, _⟩, _⟩ := cells5 _ _ _ _ _ _ _ _ ((hW.block F (Array.getElem?_eq_some_iff.1 HFX.out).1).trans HFX.out)
          obtain ⟨p', c2, e, _, _, _, hte⟩ := tens_has (by rw [HLN.out]; exact owns_belowN hLx hW)
          rw [HLN.out] at e
          injection e with e1 e2 e3
          exact (isType_any F tg 3 _ _ L W (by rw [HLN.out, ← e1]; exact q1) hte).mono fun e w' h => ⟨h.1, h.2.symm⟩
        have HTY := Lib.hid hty
        clear hil hty hLx hte htf htg hte2 htf2 htg2 hFx hfx hbN hgh
        cases hct : (ct == 1) with
        | false =>
          have hE : Hid (res = none) := Lib.hid (by rw [HR3.out, hct]; rfl)
          have hi1 : ((ct : Int) != 1) = true := by simp at hct ⊢; omega
          clear hct
          go_wp2_with fail
          go_ret
          refine ⟨by rw [hE.out]; rfl, HRX.out.mono (by simp), fun ys hy => ?_⟩
          rw [hE.out] at hy
          cases hy
        | true =>
          have hi1 : ((ct : Int) != 1) = false := by simp at hct ⊢; omega
          obtain ⟨bl, hbl⟩ : ∃ bl, bl = ((h.j == 24) && (h.f.tmod 24 == 0)) := ⟨_, rfl⟩
          have hR4 := HR3.out
          rw [hct, ← hbl] at hR4
          rw [← hbl] at HIL
          have HBL := Lib.hid hbl
          have HR4 := Lib.hid hR4
          clear hct hbl hR4 HR3
          cases bl with
          | false =>
            have hE : Hid (res = none) := Lib.hid HR4.out
            go_wp2_with (first | (go_at_call 89; refine (HIL.out _).mono ?_; rintro e w5 ⟨rfl, hb5⟩) | fail)
            go_ret
            refine ⟨by rw [hE.out]; rfl, (HRX.out.mono (by simp)).trans (FrT.of_below hb5), fun ys hy => ?_⟩
            rw [hE.out] at hy
            cases hy
          | true =>
            obtain ⟨cl, hcl⟩ : ∃ cl, cl = isTy L tg 3 := ⟨_, rfl⟩
            have hR5 : res = bif isTy L tg 3 then (match L[tg]? with
              | none => none
              | some t => match symGo l ns (win l t.e.toNat t.f.toNat) (te : Int) 0 (tf / 24) [] with
                | none => none
                | some ys => bif ((cntL ys : Nat) : Int) == h.h then some ys else none) else none := HR4.out
            rw [← hcl] at hR5 HTY
            have HCL := Lib.hid hcl
            have HR5 := Lib.hid hR5
            clear hcl hR5 HR4
            cases cl with
            | false =>
              have hE : Hid (res = none) := Lib.hid HR5.out
              go_wp2_with (first | (go_at_call 89; refine (HIL.out _).mono ?_; rintro e w5 ⟨rfl, hb5⟩; have d0 := cell_later hb5 d0; have d1 := cell_later hb5 d1; have d2 := cell_later hb5 d2; have d3 := cell_later hb5 d3; have d4 := cell_later hb5 d4; have d5 := cell_later hb5 d5; have d6 := cell_later hb5 d6; have d7 := cell_later hb5 d7; have d8 := cell_later hb5 d8; have d9 := cell_later hb5 d9) | (go_at_call 85; refine (HTY.out _ hb5).mono ?_; rintro e w6 ⟨rfl, rfl⟩) | fail)
              go_ret
              refine ⟨by rw [hE.out]; rfl, (HRX.out.mono (by simp)).trans (FrT.of_below hb5), fun ys hy => ?_⟩
              rw [hE.out] at hy
              cases hy
            | true =>
              obtain ⟨t, ht, hb3⟩ : ∃ t, L[tg]? = some t ∧ t.b = 3 := by
                have h := HCL.out
                unfold isTy at h
                cases hq : L[tg]? with
                | none => rw [hq] at h; cases h
                | some t => rw [hq] at h; exact ⟨t, rfl, by simpa using h.symm⟩
              go_upto_region 12 with (first | (go_at_call 89; refine (HIL.out _).mono ?_; rintro e w5 ⟨rfl, hb5⟩; have d0 := cell_later hb5 d0; have d1 := cell_later hb5 d1; have d2 := cell_later hb5 d2; have d3 := cell_later hb5 d3; have d4 := cell_later hb5 d4; have d5 := cell_later hb5 d5; have d6 := cell_later hb5 d6; have d7 := cell_later hb5 d7; have d8 := cell_later hb5 d8; have d9 := cell_later hb5 d9) | (go_at_call 85; refine (HTY.out _ hb5).mono ?_; rintro e w6 ⟨rfl, rfl⟩) | fail)
              have hmt := (HOK.out tg t ht).1
              have hin := heads_in HOK.out ht (by rw [hb3]; decide)
              obtain ⟨te2, hte2⟩ := Int.eq_ofNat_of_zero_le ((fitsB_iff _).1 (hmt t.e (by simp [Ten.l]))).1
              obtain ⟨tf2, htf2⟩ := Int.eq_ofNat_of_zero_le ((fitsB_iff _).1 (hmt t.f (by simp [Ten.l]))).1
              have hl2 : te2 + tf2 ≤ l.length := by omega
              have hwl := win_length l te2 tf2 hl2
              obtain ⟨m, hm⟩ : ∃ m, tf = 24 * m := by
                have hb := HBL.out
                have h2 : (tf : Int).tmod 24 = 0 := by
                  have h3 := hb.symm
                  simp only [Bool.and_eq_true, beq_iff_eq] at h3
                  rw [← HTF.out]
                  exact h3.2
                exact ⟨tf / 24, by have h5 : ((tf % 24 : Nat) : Int) = 0 := h2; omega⟩
              have hR6 : res = match symGo l ns (win l te2 tf2) (te : Int) 0 m [] with
                | none => none
                | some ys => bif ((cntL ys : Nat) : Int) == h.h then some ys else none := by
                rw [HR5.out, ht, hm, Nat.mul_div_cancel_left m (by decide)]
                show (match symGo l ns (win l t.e.toNat t.f.toNat) (te : Int) 0 m [] with | none => none | some ys => bif ((cntL ys : Nat) : Int) == h.h then some ys else none) = _
                rw [hte2, htf2]
                rfl
              have hfin := (fitsB_iff _).1 (HMH.out h.f (by simp [Ten.l]))
              have hein := (fitsB_iff _).1 (HMH.out h.e (by simp [Ten.l]))
              have hhin := heads_in HOK.out HHH.out
              have HR6 := Lib.hid hR6
              have HWL := Lib.hid hwl
              have HTE2 := Lib.hid hte2
              have HTF2 := Lib.hid htf2
              have HMT := Lib.hid hmt
              have htec : te ≤ 2147483647 ∧ tf ≤ 2147483647 := ⟨by have := HTE.out; omega, by have := HTF.out; omega⟩
              have hlt : tg < k := by have := (List.getElem?_eq_some_iff.1 ht).1; rw [HLN.out] at this; exact this
              have hF5 := FrT.heap (N := N) (Ts := []) (FrT.of_below hb5) HFX.out (by simp)
              have hR5' := HRX.out.trans (FrT.of_below (N := N) (Ts := [100]) hb5)
              have hb5N : Below N w0 w5 := HW.out.trans (hR5'.below hwN)
              have hL5 := owns_belowN HLX.out hb5
              have hg5 := FrT.heap (N := N) (Ts := []) (FrT.of_below hb5) HGH.out (by simp)
              obtain ⟨p', c2, e, _, _, _, hte3⟩ := tens_has (by rw [HLN.out]; exact hL5)
              rw [HLN.out] at e
              injection e with e1 e2 e3
              subst e1
              obtain ⟨b', off', e, x0, x1, x2, x3, x4, x5, x6, x7, x8, x9⟩ := hte3 tg t ht
              injection e with e
              injection e with e1 e2
              subst e1
              subst e2
              clear c0 c1 c2' c3 c4 f0 f1 f2 f3 f4 d0 d1 d2 d3 d4 d5 d6 d7 d8 d9
              obtain ⟨d0, d1, d2, d3, d4, d5, d6, d7, d8, d9⟩ := cells_ten _ _ _ _ _ _ _ _ _ _ _ _ _ hg5
              obtain ⟨⟨c0, c1, c2', c3, c4⟩, f0, f1, f2, f3, f4⟩ := cells5 _ _ _ _ _ _ _ _ hF5
              have HTO := Lib.hid fun (W : World) (hW : Below w5.heap.size w5 W) => told_any F t bp bc l.length te2 tf2 W (cell_later hW c0) h1 h2 hte2 htf2 hl2 (by omega)
              have HF5 := Lib.hid hF5
              have HR5' := Lib.hid hR5'
              have HG5 := Lib.hid hg5
              have HB5N := Lib.hid hb5N
              have k5 : (0 : Int) ≤ (tg : Int) := by omega
              have k6 : (tg : Int) < (k : Int) := by omega
              clear hte2 htf2 hmt hR6 hwl hF5 hR5' hg5 hb5N hL5 hte3 hfin hein hb3 hin hhin ht e3
              go_cut [9] (fun s9 wx => s9 = .slice (tolP bp bc te2) tf2 (bc - te2) ∧ Below w5.heap.size w5 wx)
              case first =>
                go_still_tail 9, (by kernel_rfl)
                go_wp2_with (first | (go_at_call 87; refine (HTO.out _ (Below.refl _ w5).drew).mono ?_; rintro e w6 ⟨rfl, hb6⟩) | fail)
                go_meet
                exact ⟨rfl, below_drew (w := w5) hb6 rfl⟩
              case rest =>
                obtain ⟨rfl, hbc⟩ := hcut
                have hF6 := FrT.heap (N := N) (Ts := []) (FrT.of_below hbc) HF5.out (by simp)
                have hR6 : FrT N [100] w wc := HR5'.out.trans (FrT.of_below (N := N) (Ts := [100]) hbc)
                have hg6 := FrT.heap (N := N) (Ts := []) (FrT.of_below hbc) HG5.out (by simp)
                have hn6 := hR6.owns HNM.out (by decide)
                have hG6 := hR6.heap HG.out (by decide)
                have hbN6 : Below N w0 wc := HW.out.trans (hR6.below hwN)
                clear x0 x1 x2 x3 x4 x5 x6 x7 x8 x9 d0 d1 d2 d3 d4 d5 d6 d7 d8 d9 c0 c1 c2' c3 c4 f0 f1 f2 f3 f4 HTO HIL HTY HF5 HR5' HG5 HLX
                have hsy : ∀ W (p : Nat), FrT N [27] wc W → p ≤ 100000000000 → Calls Tryz.prog 90 #[filP F, .int .i64 (p : Int), .slice (tolP bp bc te2) tf2 (bc - te2)] W (GivesSym (symB l ns (win l te2 tf2) (p : Int)) W) := fun W p hW hp => by
                  obtain ⟨⟨q0, _, _, q3, _⟩, _⟩ := cells5 _ _ _ _ _ _ _ _ (hW.heap hF6 (by decide))
                  obtain ⟨pp, cc, e, _, _, _, hil⟩ := isL_ints (hW.owns hn6 (by decide)) (fun n hn => by have := HNB.out n hn; exact ⟨by omega, by omega⟩)
                  rw [e] at q3
                  have hbW : Below w0.heap.size w0 W := by
                    rw [hN]
                    exact hbN6.trans (hW.below (by have := hbN6.size; omega))
                  have hfin := gotSym_any F (p : Int) bp (tolP bp bc te2) bc (bc - te2) l (win l te2 tf2) pp cc ns W (HHAS.out.below hbW) h1 h2 hbig ((tol_has HHAS.out h1 hl2).below hbW) (by rw [HWL.out]; omega) (by rw [HWL.out]; omega) q0 q3 hil (by omega) (by omega)
                  rw [HWL.out] at hfin
                  exact hfin
                have HSY := Lib.hid hsy
                have HF6 := Lib.hid hF6
                have HR6' := Lib.hid hR6
                have HG6 := Lib.hid hg6
                have HGO6 := Lib.hid hG6
                have HTFM := Lib.hid hm
                obtain ⟨d0, d1, d2, d3, d4, d5, d6, d7, d8, d9⟩ := cells_ten _ _ _ _ _ _ _ _ _ _ _ _ _ hg6
                have hws : N ≤ wc.heap.size := by have := hbN6.size; omega
                clear hsy hF6 hR6 hg6 hG6 hn6 hbN6 hbc hm
                generalize win l te2 tf2 = tb at *
                generalize wc = W6 at *
                go_wp2_with fail
                go_loopw [10, 11] (fun r10 r11 wr => ∃ (i p : Nat) (acc : List SymD) (v1 : Value), i ≤ m ∧ r11 = .int .i64 (p : Int) ∧ p = te + 24 * i ∧ r10 = .int .i64 ((cntL acc : Nat) : Int) ∧ symGo l ns tb (te : Int) 0 m [] = symGo l ns tb (te : Int) i (m - i) acc ∧
                  wr.heap[G]? = some (.cells #[v0, v1, v2, v3, v4] 27 (0, 0)) ∧ wr.ownsRow W6.heap.size 45 6 v1 acc.length (acc.flatMap symC) ∧ (∀ y ∈ acc, y.bd) ∧ FrT N [27] W6 wr ∧ acc.length = i) (fun _ r11 _ => (te + tf) - (intOf r11).toNat)
                case atStart => exact ⟨0, te, [], _, Nat.zero_le _, rfl, rfl, rfl, rfl, HGO6.out, World.ownsRow_nil _ _ _ _, (fun y hy => by cases hy), FrT.refl _ _ _, rfl⟩
                case round =>
                  obtain ⟨i, p, acc, v1, hi, rfl, hp, rfl, hgo, hGr, hown, hall, hfr, hal⟩ := hrel
                  have HGO := Lib.hid hgo
                  have HFR := Lib.hid hfr
                  have HGr := Lib.hid hGr
                  have HOWN := Lib.hid hown
                  have HALL := Lib.hid hall
                  have HP := Lib.hid hp
                  have hsz := hfr.size
                  have htm := HTFM.out
                  have hg7 := hfr.heap HG6.out (by decide)
                  have hcl := cntL_le acc
                  have hpb : p ≤ 100000000000 := by omega
                  have hpp : p < te + tf ↔ i < m := by omega
                  clear d0 d1 d2 d3 d4 d5 d6 d7 d8 d9
                  obtain ⟨d0, d1, d2, d3, d4, d5, d6, d7, d8, d9⟩ := cells_ten _ _ _ _ _ _ _ _ _ _ _ _ _ hg7
                  have k7 : IntKind.i64.wrap ((te : Int) + (tf : Int)) = ((te + tf : Nat) : Int) := by rw [show (te : Int) + (tf : Int) = ((te + tf : Nat) : Int) by omega]; exact IntWalk.i64_in _ (by omega)
                  have k8 : IntKind.i64.wrap ((p : Int) + 24) = ((p + 24 : Nat) : Int) := by rw [show (p : Int) + 24 = ((p + 24 : Nat) : Int) by omega]; exact IntWalk.i64_in _ (by omega)
                  have k9 : IntKind.i64.wrap (((cntL acc : Nat) : Int) + 1) = ((cntL acc + 1 : Nat) : Int) := by rw [show ((cntL acc : Nat) : Int) + 1 = ((cntL acc + 1 : Nat) : Int) by omega]; exact IntWalk.i64_in _ (by omega)
                  have hcs := fun s => cntL_snoc acc s
                  have HCS := Lib.hid hcs
                  generalize hcc : cntL acc = cc at *
                  have HCC := Lib.hid hcc
                  generalize hsum : te + tf = sum at *
                  have HSUM := Lib.hid hsum
                  have HAL := Lib.hid hal
                  clear hgo hfr hGr hown hall hp hg7 htm hcl hcs hcc hsum hal
                  by_cases hlt : i < m
                  · have hJ : (p : Int) < (sum : Int) := by have := hpp.2 hlt; omega
                    have hst : Hid (symGo l ns tb (te : Int) 0 m [] = match symB l ns tb (p : Int) with
                      | none => none
                      | some s => symGo l ns tb (te : Int) (i + 1) (m - (i + 1)) (acc ++ [s])) := Lib.hid (by
                        rw [HGO.out, show m - i = (m - (i + 1)) + 1 by omega, symGo_step, show (te : Int) + 24 * (i : Int) = (p : Int) by have := HP.out; omega]
                        rfl)
                    have HS := Lib.hid (HSY.out wr p HFR.out hpb)
                    have hbd := fun s (h : symB l ns tb (p : Int) = some s) => symB_bd HNB.out h
                    generalize symB l ns tb (p : Int) = sb at *
                    have HBD := Lib.hid hbd
                    clear hbd hpp
                    go_upto_region 17 with fail
                    go_wp2_with fail
                    refine HS.out.mono ?_
                    rintro e w7 ⟨hb7, s, rfl, hor⟩
                    go_upto_region 18 with fail
                    have hb8 := hb7.alloc hb7.size (.cells #[.string s.name, .int .i64 s.bind, .int .i64 s.type, .int .i64 s.sec, .int .i64 s.value, .int .i64 s.size] 45)
                    have hx8 := heap_alloc_new w7 (.cells #[.string s.name, .int .i64 s.bind, .int .i64 s.type, .int .i64 s.sec, .int .i64 s.value, .int .i64 s.size] 45)
                    have hgs : wr.heap.size ≤ w7.heap.size := hb7.size
                    generalize w7.alloc (.cells #[.string s.name, .int .i64 s.bind, .int .i64 s.type, .int .i64 s.sec, .int .i64 s.value, .int .i64 s.size] 45) = w8 at *
                    generalize w7.heap.size = gs at *
                    have HB8 := Lib.hid hb8
                    have hd7 := cell_later hb8 d7
                    have hf8 := HFR.out.trans (FrT.of_below (N := N) (Ts := [27]) hb8)
                    have HF8 := Lib.hid hf8
                    obtain ⟨⟨s0, s1, s2, s3, s4, s5⟩, _⟩ := six_cells _ _ _ _ _ _ _ _ _ hx8
                    clear d0 d1 d2 d3 d4 d5 d6 d7 d8 d9 hd7 hb7 hf8
                    rcases hor with rfl | rfl
                    · have hE : Hid (res = none) := Lib.hid (by rw [HR6.out, hst.out])
                      go_wp2_with fail
                      go_ret
                      refine ⟨by rw [hE.out]; rfl, (HR6'.out.mono (by simp)).trans (HF8.out.mono (by simp)), fun ys hy => ?_⟩
                      rw [hE.out] at hy
                      cases hy
                    · have hst2 : Hid (symGo l ns tb (te : Int) 0 m [] = symGo l ns tb (te : Int) (i + 1) (m - (i + 1)) (acc ++ [s])) := Lib.hid hst.out
                      have hbs := HBD.out s rfl
                      have HBS := Lib.hid hbs
                      clear hbs
                      go_upto_if 90 with fail
                      go_cut [10] (fun s10 wx => s10 = .int .i64 ((cntL (acc ++ [s]) : Nat) : Int) ∧ w8 = wx)
                      case first =>
                        cases hq : (s.bind == 0) with
                        | true =>
                          have hcn : cntL (acc ++ [s]) = cc + 1 := by rw [HCS.out, hq]; rfl
                          have HCN := Lib.hid hcn
                          clear hcn
                          go_wp2_with fail
                          go_meet
                          exact ⟨by rw [HCN.out]; go_num, rfl⟩
                        | false =>
                          have hcn : cntL (acc ++ [s]) = cc := by rw [HCS.out, hq]; rfl
                          have HCN := Lib.hid hcn
                          clear hcn
                          go_wp2_with fail
                          go_meet
                          exact ⟨by rw [HCN.out], rfl⟩
                      case rest =>
                        obtain ⟨rfl, rfl⟩ := hcut
                        have hG8 : w8.heap[G]? = _ := (HB8.out.block G (Array.getElem?_eq_some_iff.1 HGr.out).1).trans HGr.out
                        have HG8 := Lib.hid hG8
                        have HO8 := Lib.hid (owns_belowN HOWN.out HB8.out)
                        have hs8 := HF8.out.size
                        have hab : acc.length ≤ 2147483647 := by have := HTFM.out; have := HAL.out; omega
                        obtain ⟨⟨c0, c1, c2', c3, c4⟩, f0, f1, f2, f3, f4⟩ := cells5 _ _ _ _ _ _ _ _ hG8
                        have c1a := cell_later ((Below.refl _ w8).alloc (Nat.le_refl _) (.cells #[.string s.name, .int .i64 s.bind, .int .i64 s.type, .int .i64 s.sec, .int .i64 s.value, .int .i64 s.size] 45)) c1
                        have HFA : Hid (FrT N [27] W6 ((w8.alloc (.cells #[.string s.name, .int .i64 s.bind, .int .i64 s.type, .int .i64 s.sec, .int .i64 s.value, .int .i64 s.size] 45)).drew)) := Lib.hid (HF8.out.trans (FrT.of_below (((Below.refl _ w8).alloc (Nat.le_refl _) _).drew)))
                        have HGA := Lib.hid (FrT.heap (N := N) (Ts := []) (FrT.of_below (((Below.refl _ w8).alloc (Nat.le_refl _) (.cells #[.string s.name, .int .i64 s.bind, .int .i64 s.type, .int .i64 s.sec, .int .i64 s.value, .int .i64 s.size] 45)).drew)) HG8.out (by simp))
                        clear hG8
                        go_upto_region 22 with fail
                        go_region_law (first
                          | (refine step_append_lies _ (by rfl) _ _ _ (by rfl) W6.heap.size 45 i0 _ 6 56 Tryz.underlying23 HI.out H0.out H1.out H2.out rfl (by decide) _ acc.length _ (by rfl) ((HO8.out.alloc _).drew) ⟨w8.heap.size, 0, none⟩ 1 1 (symC s) (by rfl) (by rfl) (ten_cell_at w8 #[.string s.name, .int .i64 s.bind, .int .i64 s.type, .int .i64 s.sec, .int .i64 s.value, .int .i64 s.size] 45) (sym_cells_one _) (by omega) (by unfold maxLen; omega) (by omega) (by simp; omega) _ rfl ?_
                             intro g3 cap3 w9 hown9 hgrow9 _ _
                             have hfg : FrT 0 [45] _ w9 := FrT.grown ((HO8.out.alloc _).drew) hgrow9 (by simp) (Nat.zero_le _)
                             have hG9 := hfg.heap HGA.out (by decide)
                             have hf9 : FrT N [27] W6 w9 := HFA.out.grownNew hgrow9 (fun g hg => (HO8.out.lt g hg).1)
                             obtain ⟨⟨e0, e1, e2, e3, e4⟩, z0, z1, z2, z3, z4⟩ := cells5 _ _ _ _ _ _ _ _ hG9
                             rw [← flat_snoc] at hown9)
                          | fail)
                        all_goals
                          have hf7 : FrT N [27] w9 (w9.setCell ⟨G, 1, none⟩ (.slice (some ⟨g3, 0, none⟩) (acc.length + 1) cap3)) := FrT.set hG9 (by simp) hNG _
                          have hG7 := heap_setCell_same w9 G 1 _ _ (.slice (some ⟨g3, 0, none⟩) (acc.length + 1) cap3) hG9
                          have hown7 := hf7.owns hown9 (by decide)
                          have HR7 : Hid (FrT N [27] W6 (w9.setCell ⟨G, 1, none⟩ (.slice (some ⟨g3, 0, none⟩) (acc.length + 1) cap3))) := Lib.hid (hf9.trans hf7)
                          have HO7 := Lib.hid hown7
                          have HG7 : Hid ((w9.setCell ⟨G, 1, none⟩ (.slice (some ⟨g3, 0, none⟩) (acc.length + 1) cap3)).heap[G]? = some (.cells #[v0, .slice (some ⟨g3, 0, none⟩) (acc.length + 1) cap3, v2, v3, v4] 27 (0, 0))) := Lib.hid hG7
                          clear hfg hG9 hf9 hf7 hG7 hown7 hown9 hgrow9 c1a c0 c1 c2' c3 c4 f0 f1 f2 f3 f4 s0 s1 s2 s3 s4 s5 e0 e1 e2 e3 e4 z0 z1 z2 z3 z4
                          go_wp2_with fail
                          go_roundw
                          case rel => exact ⟨i + 1, p + 24, acc ++ [s], _, hlt, by go_num, (by have := HP.out; omega), rfl, hst2.out, HG7.out, by rw [List.length_append]; exact HO7.out, (fun y hy => by
                            rcases List.mem_append.1 hy with h | h
                            · exact HALL.out y h
                            · obtain rfl := List.mem_singleton.1 h
                              exact HBS.out), HR7.out, by rw [List.length_append, HAL.out]; rfl⟩
                          case measure => simp [intOf]; omega
                  · have hJ : ¬ (p : Int) < (sum : Int) := by have := hpp.1; omega
                    obtain rfl : i = m := by omega
                    have hsg : symGo l ns tb (te : Int) 0 i [] = some acc := by rw [HGO.out, Nat.sub_self]; rfl
                    have hE : Hid (res = bif (cc : Int) == h.h then some acc else none) := Lib.hid (by
                      rw [HR6.out, hsg]
                      show (bif ((cntL acc : Nat) : Int) == h.h then some acc else none) = _
                      rw [HCC.out])
                    go_wp2_with fail
                    go_ret
                    have hfo : FrT N [100, 27] w wr := (HR6'.out.mono (by simp)).trans (HFR.out.mono (by simp))
                    have hw6 : w.heap.size ≤ W6.heap.size := HR6'.out.size
                    refine ⟨?_, hfo, fun ys hy => ?_⟩
                    · rw [hE.out]
                      cases (cc : Int) == h.h <;> rfl
                    · rw [hE.out] at hy
                      cases hq : ((cc : Int) == h.h) with
                      | false => rw [hq] at hy; cases hy
                      | true =>
                        rw [hq] at hy
                        cases hy
                        refine ⟨?_, v1, HGr.out, owns_lower HOWN.out hw6, HALL.out⟩
                        rw [HSYE.out]
                        exact HFR.out.heap HF6.out (by decide)
end Go.Proofs.YtenmcmnhiejbgaaGreat
