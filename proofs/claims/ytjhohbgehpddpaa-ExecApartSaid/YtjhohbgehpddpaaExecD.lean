/-
  Images that are read: contract of the project's readSegment.
-/
import Derived.Test.YtjhohbgehpddpaaExecC
import Derived.Deep.RegionWith
namespace Go.Proofs.Ytjhohbgehpddpaa
open Go.RowKit

set_option maxRecDepth 100000 in
set_option maxHeartbeats 4000000 in
theorem xseg_any (p : Option Addr) (len cap : Nat) (l : List UInt8) (j : Nat) (w : World) (h : Has w p l) (hlen : l.length = len) (hcap : len ≤ cap) (hm : cap ≤ maxLen) (hbig : len ≤ 100000) (hj : j + 56 ≤ len) :
    Calls Try.prog 34 #[.slice p len cap, .int .i64 (j : Int)] w (XSegIs l j w) := by
  have HN := Lib.hid fun (m : Nat) (hm6 : m < 6) (W : World) (hW : Below w.heap.size w W) => number_any p len cap l (j + 8 + 8 * m) W (h.below hW) hlen hcap hm (by omega)
  have hF1 : fitB len (j : Int) 4 = true := (fitB_iff _ _ _).2 ⟨by omega, by omega, by omega⟩
  have hG1 : getB l (j : Int) 4 = sFirst l j := by unfold getB; rw [hlen, if_pos hF1]; rfl
  have hF2 : fitB len ((j + 4 : Nat) : Int) 4 = true := (fitB_iff _ _ _).2 ⟨by omega, by omega, by omega⟩
  have hG2 : getB l ((j + 4 : Nat) : Int) 4 = sFlags l j := by unfold getB; rw [hlen, if_pos hF2]; rfl
  have HA := Lib.hid fun (W : World) (hW : Below w.heap.size w W) => get_any p len cap l (j : Int) 4 W (h.below hW) hlen hcap hm
  have HB := Lib.hid fun (W : World) (hW : Below w.heap.size w W) => get_any p len cap l ((j + 4 : Nat) : Int) 4 W (h.below hW) hlen hcap hm
  rw [hF1, hG1] at HA
  rw [hF2, hG2] at HB
  have HCL := Lib.hid fun (lo n : Nat) (hn : lo + n ≤ len) (W : World) (hW : Below w.heap.size w W) => clone_any (if cap = lo then p else p.map (·.add lo)) n (cap - lo) ((l.take (lo + n)).drop lo) W ((h.below hW).cut lo (lo + n) cap (by omega) (by omega)) (by simp; omega) (by omega) (fun e => by
    split at e
    · omega
    · rw [Option.map_eq_none_iff] at e
      subst e
      cases l with
      | nil => simp at hlen; omega
      | cons x r => obtain ⟨a, e, _⟩ := h 0 x rfl; cases e) (by omega)
  have hfst : sFirst l j < 4294967296 := by have := num_lt (win l j 4); rw [win_length l j 4 (by omega)] at this; exact this
  have hflg : sFlags l j < 4294967296 := by have := num_lt (win l (j + 4) 4); rw [win_length l (j + 4) 4 (by omega)] at this; exact this
  have k1 : IntKind.i64.wrap ((j : Int) + 4) = ((j + 4 : Nat) : Int) := by rw [IntWalk.i64_in _ (by omega)]; omega
  have HS0 : Hid (segOK l j = (sAll l j && (!sC1 l j && (!sC2 l j && !sC3 l j)))) := Lib.hid (by unfold segOK; rfl)
  have HALL : Hid (sAll l j = true ↔ ∀ m, m < 6 → nOK l (j + 8 + 8 * m) = true) := Lib.hid (by
    unfold sAll
    simp only [Bool.and_eq_true]
    exact ⟨fun ⟨h0, h1, h2, h3, h4, h5⟩ m hm => by
      match m, hm with
      | 0, _ => exact h0
      | 1, _ => exact h1
      | 2, _ => exact h2
      | 3, _ => exact h3
      | 4, _ => exact h4
      | 5, _ => exact h5, fun h => ⟨h 0 (by omega), h 1 (by omega), h 2 (by omega), h 3 (by omega), h 4 (by omega), h 5 (by omega)⟩⟩)
  have hf0 := heap_alloc_new w (.cells zSegC 48)
  have hb0 : Below w.heap.size w (w.alloc (.cells zSegC 48)) := (Below.refl _ w).alloc (Nat.le_refl _) _
  have hs0 : (w.alloc (.cells zSegC 48)).heap.size = w.heap.size + 1 := by simp
  have HLEN := Lib.hid hlen
  clear hF1 hG1 hF2 hG2 h hlen hm
  go_enter Try.func34, Try.ntmps34
  go_upto_region 1 with fail
  generalize w.alloc (.cells zSegC 48) = w1 at *
  generalize hgb : w.heap.size = gb at *
  have HGB := Lib.hid hgb
  clear hgb
  go_wp2_with fail
  refine (HA.out w1 (by first | exact hb0 | (rw [HGB.out]; exact hb0))).mono ?_
  rintro e w' ⟨rfl, rfl⟩
  go_wp2_with fail
  refine (HB.out w1 (by first | exact hb0 | (rw [HGB.out]; exact hb0))).mono ?_
  rintro e w' ⟨rfl, rfl⟩
  go_upto_region 4 with fail
  have hg1 := heap_alloc_new w1 (.cells #[.int .i64 0, .int .i64 0, .int .i64 0, .int .i64 0, .int .i64 0, .int .i64 0] 94)
  have hb1 : Below gb w (w1.alloc (.cells #[.int .i64 0, .int .i64 0, .int .i64 0, .int .i64 0, .int .i64 0, .int .i64 0] 94)) := hb0.alloc (by omega) _
  have hf1 := (Below.heap_alloc w1 (.cells #[.int .i64 0, .int .i64 0, .int .i64 0, .int .i64 0, .int .i64 0, .int .i64 0] 94) gb (by omega)).trans hf0
  rw [hs0] at hg1
  rw [← arrS_zero (sV l j)] at hg1 hb1 hf1
  rw [← arrS_zero (sV l j)]
  generalize w1.alloc (.cells (arrS (sV l j) 0) 94) = w2 at *
  clear hf0 hb0 hs0
  clear w1
  generalize hfst1 : sFirst l j = F at *
  generalize hflg1 : sFlags l j = G at *
  have HF := Lib.hid hfst1
  have HG := Lib.hid hflg1
  clear hfst1 hflg1 HA HB
  go_wp2_with fail
  go_loopw [33] (fun r33 wr => ∃ k : Nat, k ≤ 6 ∧ r33 = .int .i64 (k : Int) ∧ (∀ m, m < k → nOK l (j + 8 + 8 * m) = true) ∧ wr.heap[gb]? = some (.cells zSegC 48 (0, 0)) ∧ wr.heap[gb + 1]? = some (.cells (arrS (sV l j) k) 94 (0, 0)) ∧ Below gb w wr) (fun r33 _ => 6 - (intOf r33).toNat)
  case atStart => exact ⟨0, Nat.zero_le _, rfl, fun m hm => absurd hm (by omega), hf1, hg1, hb1⟩
  case round =>
    obtain ⟨k, hk, rfl, hok, hf, hg, hb⟩ := hrel
    have HOK := Lib.hid hok
    clear hok hf1 hg1 hb1
    by_cases hlt : k < 6
    · have hI : (k : Int) < 6 := by omega
      have k2 : IntKind.i64.wrap ((j : Int) + 8) = (j : Int) + 8 := IntWalk.i64_in _ (by omega)
      have k3 : IntKind.i64.wrap (8 * (k : Int)) = 8 * (k : Int) := IntWalk.i64_in _ (by omega)
      have k4 : IntKind.i64.wrap ((j : Int) + 8 + 8 * (k : Int)) = (j : Int) + 8 + 8 * (k : Int) := IntWalk.i64_in _ (by omega)
      have hn := HN.out k hlt wr (by first | exact hb | (rw [HGB.out]; exact hb))
      rw [show ((j + 8 + 8 * k : Nat) : Int) = (j : Int) + 8 + 8 * (k : Int) by omega] at hn
      cases ho : nOK l (j + 8 + 8 * k) with
      | false =>
        rw [ho] at hn
        have hst := set_four (.int .i64 0) (.int .i64 0) (.int .i64 0) (.slice none 0 0) (Nat.le_refl gb) hf
        have HST := Lib.hid hst
        have hsz : gb ≤ wr.heap.size := Nat.le_of_lt (Array.getElem?_eq_some_iff.1 hf).1
        have hE : Hid (segOK l j = false) := Lib.hid (by
          rw [HS0.out]
          cases ha : sAll l j with
          | false => rfl
          | true => rw [HALL.out.1 ha k hlt] at ho; cases ho)
        obtain ⟨⟨c0, c1, c2, c3⟩, z0, z1, z2, z3⟩ := cells4 _ _ _ _ _ _ _ hf
        clear ho hst
        go_wp2_with fail
        refine hn.mono ?_
        rintro e w' ⟨rfl, rfl⟩
        go_wp2_with fail
        exact bodyPost_ret (results_seg rfl _ _ _ _ _ _ _ _ (by rfl) (by rfl) HST.out.1) rfl ⟨_, _, _, _, _, rfl, by rw [HGB.out]; exact hb.trans (HST.out.2.below hsz), .inl ⟨rfl, hE.out, rfl, rfl, rfl, rfl⟩⟩
      | true =>
        rw [ho] at hn
        have hset := heap_setCell_same wr (gb + 1) k _ _ (.int .i64 (nV l (j + 8 + 8 * k) : Int)) hg
        rw [show nV l (j + 8 + 8 * k) = sV l j k from rfl, arrS_set _ k hlt] at hset
        have hf' : (wr.setCell ⟨gb + 1, k, none⟩ (.int .i64 (sV l j k : Int))).heap[gb]? = some (.cells zSegC 48 (0, 0)) := by
          rw [heap_setCell_other _ _ _ _ (by simp)]; exact hf
        have hok' : ∀ m, m < k + 1 → nOK l (j + 8 + 8 * m) = true := fun m hm => by
          by_cases hmk : m = k
          · subst hmk; exact ho
          · exact HOK.out m (by omega)
        have HOK' := Lib.hid hok'
        have hgs : gb ≤ wr.heap.size := Nat.le_of_lt (Array.getElem?_eq_some_iff.1 hf).1
        have hfz := frozen_of_row _ _ k _ _ hg
        have hck : wr.cell? ⟨gb + 1, k, none⟩ = some ((arrS (sV l j) k)[k]'(by rw [arrS_size]; exact hlt)) := by
          rw [cell_of_row _ _ k _ _ (0, 0) hg]
          exact Array.getElem?_eq_getElem _
        generalize (arrS (sV l j) k)[k]'(by rw [arrS_size]; exact hlt) = u0 at hck
        rw [show nV l (j + 8 + 8 * k) = sV l j k from rfl] at hn
        generalize sV l j k = V at *
        clear ho hok'
        go_wp2_with fail
        refine hn.mono ?_
        rintro e w' ⟨rfl, rfl⟩
        go_wp2_with fail
        go_roundw
        case rel => exact ⟨k + 1, hlt, by go_num, HOK'.out, hf', hset, hb.setCell (show gb ≤ gb + 1 by omega) _⟩
        case measure => simp [intOf]; omega
    · obtain rfl : k = 6 := by omega
      have hI : ¬ ((6 : Nat) : Int) < 6 := by omega
      have hall : sAll l j = true := HALL.out.2 HOK.out
      rw [arrS_six] at hg
      obtain ⟨a0, a1, a2, a3, a4, a5⟩ := cells6s _ _ _ _ _ _ _ _ _ hg
      have hsv := fun m => nV_le l (j + 8 + 8 * m)
      have hv0 : sV l j 0 ≤ 2147483648 := hsv 0
      have hv1 : sV l j 1 ≤ 2147483648 := hsv 1
      have hv2 : sV l j 2 ≤ 2147483648 := hsv 2
      have hv3 : sV l j 3 ≤ 2147483648 := hsv 3
      have hv4 : sV l j 4 ≤ 2147483648 := hsv 4
      have hv5 : sV l j 5 ≤ 2147483648 := hsv 5
      have HSEG : Hid (segOK l j = (!sC1 l j && (!sC2 l j && !sC3 l j))) := Lib.hid (by rw [HS0.out, hall, Bool.true_and])
      have HC1 : Hid (sC1 l j = (!(F == 1) || decide (G < 4) || decide (6 < G) || !(sV l j 2 == sV l j 1))) := Lib.hid (by unfold sC1; rw [HF.out, HG.out])
      have HC2 : Hid (sC2 l j = (decide (sV l j 4 < sV l j 3) || decide (len < sV l j 0 + sV l j 3) || decide (2147483648 < sV l j 1 + sV l j 4))) := Lib.hid (by unfold sC2; rw [HLEN.out])
      have HC3 : Hid (sC3 l j = (!(onesI (sV l j 5) == 1) || !(sV l j 0 % sV l j 5 == sV l j 1 % sV l j 5))) := Lib.hid (by unfold sC3; rfl)
      have HD : Hid (segD l j = ⟨sV l j 1, sV l j 4, G, (l.drop (sV l j 0)).take (sV l j 3)⟩) := Lib.hid (by unfold segD; rw [HG.out])
      generalize sV l j 0 = A0 at *
      generalize sV l j 1 = A1 at *
      generalize sV l j 2 = A2 at *
      generalize sV l j 3 = A3 at *
      generalize sV l j 4 = A4 at *
      generalize sV l j 5 = A5 at *
      generalize sC1 l j = C1 at *
      generalize sC2 l j = C2 at *
      generalize sC3 l j = C3 at *
      clear hall hsv HN HOK HALL HS0 HF HG
      go_upto_region 12 with fail
      refine wp_region_below (by kernel_rfl) (by kernel_rfl) ?_
      repeat (go_big_quiet_step (first
        | (intro hWq; have d0 := cell_later hWq a0; have d1 := cell_later hWq a1; have d2 := cell_later hWq a2; have d3 := cell_later hWq a3; have d4 := cell_later hWq a4; have d5 := cell_later hWq a5; go_simp; first | done | rfl | exact ⟨rfl, rfl⟩ | fail)
        | fail))
      refine wpQuiet_nil ?_
      intro wa hwa
      have hfa := (hwa.block gb (Array.getElem?_eq_some_iff.1 hf).1).trans hf
      have hba : Below gb w wa := hb.trans (hwa.mono (Nat.le_of_lt (Array.getElem?_eq_some_iff.1 hf).1))
      clear hwa hf hg hb a0 a1 a2 a3 a4 a5
      generalize hFI : ((F : Nat) : Int) = FI at *
      generalize hGI : ((G : Nat) : Int) = GI at *
      generalize hI0 : ((A0 : Nat) : Int) = B0 at *
      generalize hI1 : ((A1 : Nat) : Int) = B1 at *
      generalize hI2 : ((A2 : Nat) : Int) = B2 at *
      generalize hI3 : ((A3 : Nat) : Int) = B3 at *
      generalize hI4 : ((A4 : Nat) : Int) = B4 at *
      generalize hI5 : ((A5 : Nat) : Int) = B5 at *
      have IF := Lib.hid hFI
      have IG := Lib.hid hGI
      have I0 := Lib.hid hI0
      have I1 := Lib.hid hI1
      have I2 := Lib.hid hI2
      have I3 := Lib.hid hI3
      have I4 := Lib.hid hI4
      have I5 := Lib.hid hI5
      clear hFI hGI hI0 hI1 hI2 hI3 hI4 hI5
      have HFA := Lib.hid hfa
      have HBA := Lib.hid hba
      clear hfa hba
      go_upto_region 13 with fail
      go_cut [65] (fun s65 wx => s65 = .bool C1 ∧ wa = wx)
      case first =>
        by_cases h1 : FI = 1
        · have e1 : (F == 1) = true := by have := IF.out; simp; omega
          subst h1
          cases h2 : decide (GI < 4) with
          | true =>
            have hE : C1 = true := by rw [HC1.out, e1, show decide (G < 4) = true by have := IG.out; simp at h2 ⊢; omega]; rfl
            go_wp2_with fail
            go_meet
            exact ⟨by rw [hE], rfl⟩
          | false =>
            have e2 : decide (G < 4) = false := by have := IG.out; simp at h2 ⊢; omega
            cases h3 : decide (6 < GI) with
            | true =>
              have hE : C1 = true := by rw [HC1.out, e1, e2, show decide (6 < G) = true by have := IG.out; simp at h3 ⊢; omega]; rfl
              go_wp2_with fail
              go_meet
              exact ⟨by rw [hE], rfl⟩
            | false =>
              have e3 : decide (6 < G) = false := by have := IG.out; simp at h3 ⊢; omega
              by_cases h4 : B2 = B1
              · have hE : C1 = false := by rw [HC1.out, e1, e2, e3, show (A2 == A1) = true by have := I1.out; have := I2.out; simp; omega]; rfl
                subst h4
                go_wp2_with fail
                go_meet
                exact ⟨by rw [hE], rfl⟩
              · have hE : C1 = true := by rw [HC1.out, e1, e2, e3, show (A2 == A1) = false by have := I1.out; have := I2.out; simp; omega]; rfl
                have h5 : (B2 == B1) = false := by simpa using h4
                have h6 : (B2 != B1) = true := by simpa using h4
                clear h4
                go_wp2_with fail
                go_meet
                exact ⟨by rw [hE], rfl⟩
        · have hE : C1 = true := by rw [HC1.out, show (F == 1) = false by have := IF.out; simp; omega]; rfl
          have h5 : (FI == 1) = false := by simpa using h1
          have h6 : (FI != 1) = true := by simpa using h1
          clear h1
          go_wp2_with fail
          go_meet
          exact ⟨by rw [hE], rfl⟩
      case rest =>
        obtain ⟨rfl, rfl⟩ := hcut
        cases C1 with
        | true =>
          have HE : Hid (segOK l j = false) := Lib.hid (by rw [HSEG.out]; rfl)
          obtain ⟨⟨c0, c1, c2, c3⟩, z0, z1, z2, z3⟩ := cells4 _ _ _ _ _ _ _ HFA.out
          have hst := set_four (.int .i64 0) (.int .i64 0) (.int .i64 0) (.slice none 0 0) (Nat.le_refl gb) HFA.out
          have HST := Lib.hid hst
          have hsz : gb ≤ wa.heap.size := Nat.le_of_lt (Array.getElem?_eq_some_iff.1 HFA.out).1
          clear hst
          go_wp2_with fail
          exact bodyPost_ret (results_seg rfl _ _ _ _ _ _ _ _ (by rfl) (by rfl) HST.out.1) rfl ⟨_, _, _, _, _, rfl, by rw [HGB.out]; exact HBA.out.trans (HST.out.2.below hsz), .inl ⟨rfl, HE.out, rfl, rfl, rfl, rfl⟩⟩
        | false =>
          have q1 : IntKind.i64.wrap (B0 + B3) = B0 + B3 := IntWalk.i64_in _ (by have := I0.out; have := I3.out; omega)
          have q2 : IntKind.i64.wrap (B1 + B4) = B1 + B4 := IntWalk.i64_in _ (by have := I1.out; have := I4.out; omega)
          go_upto_region 15 with fail
          go_cut [82] (fun s82 wx => s82 = .bool C2 ∧ wa = wx)
          case first =>
            cases h1 : decide (B4 < B3) with
            | true =>
              have hE : C2 = true := by rw [HC2.out, show decide (A4 < A3) = true by have := I3.out; have := I4.out; simp at h1 ⊢; omega]; rfl
              go_wp2_with fail
              go_meet
              exact ⟨by rw [hE], rfl⟩
            | false =>
              have e1 : decide (A4 < A3) = false := by have := I3.out; have := I4.out; simp at h1 ⊢; omega
              cases h2 : decide ((len : Int) < B0 + B3) with
              | true =>
                have hE : C2 = true := by rw [HC2.out, e1, show decide (len < A0 + A3) = true by have := I3.out; have := I0.out; simp at h2 ⊢; omega]; rfl
                go_wp2_with fail
                go_meet
                exact ⟨by rw [hE], rfl⟩
              | false =>
                have e2 : decide (len < A0 + A3) = false := by have := I3.out; have := I0.out; simp at h2 ⊢; omega
                cases h3 : decide (2147483648 < B1 + B4) with
                | true =>
                  have hE : C2 = true := by rw [HC2.out, e1, e2, show decide (2147483648 < A1 + A4) = true by have := I1.out; have := I4.out; simp at h3 ⊢; omega]; rfl
                  go_wp2_with fail
                  go_meet
                  exact ⟨by rw [hE], rfl⟩
                | false =>
                  have hE : C2 = false := by rw [HC2.out, e1, e2, show decide (2147483648 < A1 + A4) = false by have := I1.out; have := I4.out; simp at h3 ⊢; omega]; rfl
                  go_wp2_with fail
                  go_meet
                  exact ⟨by rw [hE], rfl⟩
          case rest =>
            obtain ⟨rfl, rfl⟩ := hcut
            cases C2 with
            | true =>
              have HE : Hid (segOK l j = false) := Lib.hid (by rw [HSEG.out]; rfl)
              obtain ⟨⟨c0, c1, c2, c3⟩, z0, z1, z2, z3⟩ := cells4 _ _ _ _ _ _ _ HFA.out
              have hst := set_four (.int .i64 0) (.int .i64 0) (.int .i64 0) (.slice none 0 0) (Nat.le_refl gb) HFA.out
              have HST := Lib.hid hst
              have hsz : gb ≤ wa.heap.size := Nat.le_of_lt (Array.getElem?_eq_some_iff.1 HFA.out).1
              clear hst
              go_wp2_with fail
              exact bodyPost_ret (results_seg rfl _ _ _ _ _ _ _ _ (by rfl) (by rfl) HST.out.1) rfl ⟨_, _, _, _, _, rfl, by rw [HGB.out]; exact HBA.out.trans (HST.out.2.below hsz), .inl ⟨rfl, HE.out, rfl, rfl, rfl, rfl⟩⟩
            | false =>
              have hle : A0 + A3 ≤ len := by
                have h := HC2.out
                cases h2 : decide (len < A0 + A3) with
                | true => rw [h2, Bool.or_true, Bool.true_or] at h; cases h
                | false => simp at h2; omega
              have q3 : IntKind.u64.wrap B5 = B5 := by have := I5.out; rw [IntKind.wrap_u64]; omega
              have HON := Lib.hid (ones_any B5)
              have h50 : B5 = 0 → onesI B5 = 0 := fun h => by rw [h]; exact onesI_0
              have HC3' : Hid (C3 = (!(onesI B5 == 1) || !(A0 % A5 == A1 % A5))) := Lib.hid HC3.out
              generalize onesI B5 = O5 at *
              obtain ⟨R0, hr0⟩ : ∃ x, B0.tmod B5 = x := ⟨_, rfl⟩
              obtain ⟨R1, hr1⟩ : ∃ x, B1.tmod B5 = x := ⟨_, rfl⟩
              have HR0 : Hid (R0 = ((A0 % A5 : Nat) : Int)) := Lib.hid (by rw [← hr0, ← I0.out, ← I5.out]; exact (Int.ofNat_tmod A0 A5).symm)
              have HR1 : Hid (R1 = ((A1 % A5 : Nat) : Int)) := Lib.hid (by rw [← hr1, ← I1.out, ← I5.out]; exact (Int.ofNat_tmod A1 A5).symm)
              have w0 : IntKind.i64.wrap R0 = R0 := IntWalk.i64_in _ (by have := HR0.out; have := Nat.mod_le A0 A5; omega)
              have w1 : IntKind.i64.wrap R1 = R1 := IntWalk.i64_in _ (by have := HR1.out; have := Nat.mod_le A1 A5; omega)
              go_upto_region 17 with fail
              go_cut [101] (fun s101 wx => s101 = .bool C3 ∧ Below wa.heap.size wa wx)
              case first =>
                by_cases h1 : O5 = 1
                · have hz : ¬ B5 = 0 := fun h => by
                    have := h50 h
                    omega
                  clear h50
                  subst h1
                  by_cases h2 : R0 = R1
                  · have hE : C3 = false := by rw [HC3'.out, show (A0 % A5 == A1 % A5) = true by have := HR0.out; have := HR1.out; simp; omega]; rfl
                    subst h2
                    go_quiet (first | (go_at_call 41; refine Calls.quiet_of_same ((HON.out _).mono fun _ _ h => ⟨h.1, h.2.symm⟩)) | fail)
                    go_wp2_with fail
                    go_meet
                    exact ⟨by rw [hE], below_drewN (Below.refl _ _) _⟩
                  · have hE : C3 = true := by rw [HC3'.out, show (A0 % A5 == A1 % A5) = false by have := HR0.out; have := HR1.out; simp; omega]; rfl
                    have h5 : (R0 == R1) = false := by simpa using h2
                    have h6 : (R0 != R1) = true := by simpa using h2
                    clear h2
                    go_quiet (first | (go_at_call 41; refine Calls.quiet_of_same ((HON.out _).mono fun _ _ h => ⟨h.1, h.2.symm⟩)) | fail)
                    go_wp2_with fail
                    go_meet
                    exact ⟨by rw [hE], below_drewN (Below.refl _ _) _⟩
                · have hE : C3 = true := by rw [HC3'.out, show (O5 == 1) = false by simpa using h1]; rfl
                  have h5 : (O5 == 1) = false := by simpa using h1
                  have h6 : (O5 != 1) = true := by simpa using h1
                  clear h1 h50 hr0 hr1
                  go_quiet (first | (go_at_call 41; refine Calls.quiet_of_same ((HON.out _).mono fun _ _ h => ⟨h.1, h.2.symm⟩)) | fail)
                  go_wp2_with fail
                  go_meet
                  exact ⟨by rw [hE], below_drewN (Below.refl _ _) _⟩
              case rest =>
                obtain ⟨rfl, hbx⟩ := hcut
                have HF2 := Lib.hid ((hbx.block gb (Array.getElem?_eq_some_iff.1 HFA.out).1).trans HFA.out)
                have HB2 := Lib.hid (HBA.out.trans (hbx.mono (Nat.le_of_lt (Array.getElem?_eq_some_iff.1 HFA.out).1)))
                clear hbx HFA HBA hr0 hr1 h50
                cases C3 with
                | true =>
                  have HE : Hid (segOK l j = false) := Lib.hid (by rw [HSEG.out]; rfl)
                  obtain ⟨⟨c0, c1, c2, c3⟩, z0, z1, z2, z3⟩ := cells4 _ _ _ _ _ _ _ HF2.out
                  have hst := set_four (.int .i64 0) (.int .i64 0) (.int .i64 0) (.slice none 0 0) (Nat.le_refl gb) HF2.out
                  have HST := Lib.hid hst
                  have hsz : gb ≤ wc.heap.size := Nat.le_of_lt (Array.getElem?_eq_some_iff.1 HF2.out).1
                  clear hst
                  go_wp2_with fail
                  exact bodyPost_ret (results_seg rfl _ _ _ _ _ _ _ _ (by rfl) (by rfl) HST.out.1) rfl ⟨_, _, _, _, _, rfl, by rw [HGB.out]; exact HB2.out.trans (HST.out.2.below hsz), .inl ⟨rfl, HE.out, rfl, rfl, rfl, rfl⟩⟩
                | false =>
                  have HE : Hid (segOK l j = true) := Lib.hid (by rw [HSEG.out]; rfl)
                  obtain rfl := I0.out
                  obtain rfl := I3.out
                  have gq : IntKind.i64.wrap GI = GI := IntWalk.i64_in _ (by have := IG.out; omega)
                  have s1 : ((A0 : Int) + (A3 : Int)).toNat = A0 + A3 := by omega
                  have s2 : A0 + A3 - A0 = A3 := by omega
                  have s3 : (0 : Int) ≤ (A0 : Int) := by omega
                  have s4 : (A0 : Int) ≤ (A0 : Int) + (A3 : Int) := by omega
                  have s5 : (A0 : Int) + (A3 : Int) ≤ (cap : Int) := by omega
                  have s6 : A0 + A3 ≤ cap := by omega
                  have hcl := HCL.out A0 A3 hle wc (by first | exact HB2.out | (rw [HGB.out]; exact HB2.out))
                  clear HCL HSEG HC1 HC2 HC3 HC3' HON
                  have HDL : Hid ((l.take (A0 + A3)).drop A0 = (segD l j).data) := Lib.hid (by rw [HD.out, List.drop_take, Nat.add_sub_cancel_left])
                  obtain ⟨nn, hnn⟩ : ∃ n, n = (segD l j).data.length := ⟨_, rfl⟩
                  have HNN := Lib.hid hnn
                  clear hnn
                  by_cases hca : cap = A0
                  · rw [if_pos hca] at hcl
                    subst hca
                    rw [Nat.sub_self] at hcl
                    go_upto_region 19 with fail
                    go_wp2_with fail
                    refine hcl.mono ?_
                    rintro e w3 ⟨v3, rfl, hown3, hb3⟩
                    have hf3 := (hb3.block gb (Array.getElem?_eq_some_iff.1 HF2.out).1).trans HF2.out
                    have hbb : Below gb w w3 := HB2.out.trans (hb3.mono (Nat.le_of_lt (Array.getElem?_eq_some_iff.1 HF2.out).1))
                    rw [HDL.out, ← HNN.out] at hown3
                    have hown4 := owns_lower hown3 (Nat.le_of_lt (Array.getElem?_eq_some_iff.1 HF2.out).1)
                    obtain ⟨pv, cv, rfl, _⟩ := slice_form hown3
                    obtain ⟨⟨c0, c1, c2, c3⟩, z0, z1, z2, z3⟩ := cells4 _ _ _ _ _ _ _ hf3
                    skip
                    have hst := set_four (.int .i64 B1) (.int .i64 B4) (.int .i64 GI) (.slice pv nn cv) (Nat.le_refl gb) hf3
                    have hownF := hst.2.owns hown4 (by decide)
                    have HST := Lib.hid hst
                    have HOWN := Lib.hid hownF
                    have hsz : gb ≤ w3.heap.size := Nat.le_of_lt (Array.getElem?_eq_some_iff.1 hf3).1
                    have HBB := Lib.hid hbb
                    clear hst hownF hf3 hown3 hown4 hbb hb3 hcl
                    go_wp2_with fail
                    exact bodyPost_ret (results_seg rfl _ _ _ _ _ _ _ _ (by rfl) (by rfl) HST.out.1) rfl ⟨_, _, _, _, _, rfl, by rw [HGB.out]; exact HBB.out.trans (HST.out.2.below hsz), .inr ⟨rfl, HE.out, by rw [HD.out, ← I1.out], by rw [HD.out, ← I4.out], by rw [HD.out, ← IG.out], by rw [HGB.out, ← HNN.out]; exact HOWN.out⟩⟩
                  · rw [if_neg hca] at hcl
                    go_upto_region 19 with fail
                    go_wp2_with fail
                    refine hcl.mono ?_
                    rintro e w3 ⟨v3, rfl, hown3, hb3⟩
                    have hf3 := (hb3.block gb (Array.getElem?_eq_some_iff.1 HF2.out).1).trans HF2.out
                    have hbb : Below gb w w3 := HB2.out.trans (hb3.mono (Nat.le_of_lt (Array.getElem?_eq_some_iff.1 HF2.out).1))
                    rw [HDL.out, ← HNN.out] at hown3
                    have hown4 := owns_lower hown3 (Nat.le_of_lt (Array.getElem?_eq_some_iff.1 HF2.out).1)
                    obtain ⟨pv, cv, rfl, _⟩ := slice_form hown3
                    obtain ⟨⟨c0, c1, c2, c3⟩, z0, z1, z2, z3⟩ := cells4 _ _ _ _ _ _ _ hf3
                    skip
                    have hst := set_four (.int .i64 B1) (.int .i64 B4) (.int .i64 GI) (.slice pv nn cv) (Nat.le_refl gb) hf3
                    have hownF := hst.2.owns hown4 (by decide)
                    have HST := Lib.hid hst
                    have HOWN := Lib.hid hownF
                    have hsz : gb ≤ w3.heap.size := Nat.le_of_lt (Array.getElem?_eq_some_iff.1 hf3).1
                    have HBB := Lib.hid hbb
                    clear hst hownF hf3 hown3 hown4 hbb hb3 hcl
                    go_wp2_with fail
                    exact bodyPost_ret (results_seg rfl _ _ _ _ _ _ _ _ (by rfl) (by rfl) HST.out.1) rfl ⟨_, _, _, _, _, rfl, by rw [HGB.out]; exact HBB.out.trans (HST.out.2.below hsz), .inr ⟨rfl, HE.out, by rw [HD.out, ← I1.out], by rw [HD.out, ← I4.out], by rw [HD.out, ← IG.out], by rw [HGB.out, ← HNN.out]; exact HOWN.out⟩⟩
    
end Go.Proofs.Ytjhohbgehpddpaa
