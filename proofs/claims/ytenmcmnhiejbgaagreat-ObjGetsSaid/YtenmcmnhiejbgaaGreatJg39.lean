/-
  Contract of the reference's symbols.
-/
import Derived.Test.YtenmcmnhiejbgaaGreatJg38
import Derived.Test.YtenmcmnhiejbgaaGreatJg14
import Derived.Test.YtenmcmnhiejbgaaGreatJg15
namespace Go.Proofs.YtenmcmnhiejbgaaGreat
open Go.RowKit

def GivesRSyms (r : Option (List SymD)) (tbl : Nat) (w : World) (e : Ending) (w' : World) : Prop := Below w.heap.size w w' ∧ ((r = none ∧ e = .returned (.tuple #[.slice none 0 0, .int .i64 0])) ∨
  ∃ (p : Option Addr) (c : Nat) (ys : List SymD), r = some ys ∧ e = .returned (.tuple #[.slice p ys.length c, .int .i64 (tbl : Int)]) ∧ 1 ≤ tbl ∧ w'.ownsRow w.heap.size 45 6 (.slice p ys.length c) ys.length (ys.flatMap symC))
theorem cnt2_mono {L : List Ten} {i : Nat} : ∀ {j : Nat}, i ≤ j → cnt2 L i ≤ cnt2 L j
  | 0, h => by rw [Nat.le_zero.1 h]; exact Nat.le_refl _
  | j + 1, h => by
    rcases Nat.lt_or_ge j i with h1 | h1
    · rw [show i = j + 1 by omega]; exact Nat.le_refl _
    · have := cnt2_mono (L := L) h1
      show _ ≤ cnt2 L j + _
      omega
theorem symsB_two {l : List UInt8} {L : List Ten} {ns : List Int} (h : cnt2 L L.length ≠ 1) : symsB l L ns = none := by
  unfold symsB
  rw [show (cnt2 L L.length == 1) = false by simpa using h]
  rfl
theorem sym_let (o : Option Six) : ∃ (t : Six) (ok : Bool), symV o = (t.v, ok) ∧ (ok = true → o = some t) ∧ (ok = false → o = none ∧ t = ⟨0, 0, 0, 0, 0, 0⟩) := by
  cases o with
  | none => exact ⟨six0, false, rfl, (fun h => by cases h), fun _ => ⟨rfl, rfl⟩⟩
  | some t => exact ⟨t, true, rfl, (fun _ => rfl), fun h => by cases h⟩
theorem sym_call (p : Option Addr) (len cap : Nat) (l : List UInt8) (at_ : Int) (w : World) (h : Has w p l) (hlen : l.length = len) (hcap : len ≤ cap) (hbig : len ≤ 1000000000) (ha : at_ ≤ 9223372036854775807) (t : Six) (ok : Bool) (hsv : symV (symAt l at_) = (t.v, ok)) :
    Calls Tryz.prog 60 #[.slice p len cap, .int .i64 at_] w fun e w' => e = .returned (.tuple #[.agg #[.int .i64 t.a, .int .i64 t.b, .int .i64 t.c, .int .i64 t.d, .int .i64 t.e, .int .i64 t.f], .bool ok]) ∧ Below w.heap.size w w' := by
  have := symbol_any p len cap l at_ w h hlen hcap hbig ha
  rw [hsv] at this
  exact this

set_option maxRecDepth 100000 in
set_option maxHeartbeats 8000000 in
theorem rSyms_any (F : Nat) (bp : Option Addr) (bc : Nat) (l : List UInt8) (hp : Option Addr) (hc : Nat) (L : List Ten) (w : World) (hf : RFile w F bp bc l hp hc L) (hL1 : 1 ≤ L.length) :
    Calls Tryz.prog 26 #[filP F] w (GivesRSyms (symsB l L (numGo 0 L)) (last2 L L.length) w) := by
  obtain ⟨i0, hi, hz0, hz1, hz2⟩ := info_parts Tryz.infoSym
  have HI := Lib.hid hi
  have H0 := Lib.hid hz0
  have H1 := Lib.hid hz1
  have H2 := Lib.hid hz2
  have hbig := hf.big
  have hLl := hf.hl
  have HRF := Lib.hid fun W (hW : Below w.heap.size w W) => hf.below hW
  have HOK := Lib.hid hf.ok
  have HTWO := Lib.hid (symsB_two (l := l) (L := L) (ns := numGo 0 L))
  have hres : symsB l L (numGo 0 L) = bif cnt2 L L.length == 1 then (match L[last2 L L.length]? with
    | none => none
    | some h => symsAt l L (numGo 0 L) h) else none := rfl
  have HGV : Hid (GivesRSyms (symsB l L (numGo 0 L)) (last2 L L.length) w = fun e w' => Below w.heap.size w w' ∧ ((symsB l L (numGo 0 L) = none ∧ e = .returned (.tuple #[.slice none 0 0, .int .i64 0])) ∨
    ∃ (p : Option Addr) (c : Nat) (ys : List SymD), symsB l L (numGo 0 L) = some ys ∧ e = .returned (.tuple #[.slice p ys.length c, .int .i64 ((last2 L L.length : Nat) : Int)]) ∧ 1 ≤ last2 L L.length ∧ w'.ownsRow w.heap.size 45 6 (.slice p ys.length c) ys.length (ys.flatMap symC))) := Lib.hid rfl
  rw [HGV.out]
  clear HGV
  generalize symsB l L (numGo 0 L) = res at *
  have HRES := Lib.hid hres
  obtain ⟨tbl, htbl⟩ : ∃ tbl, tbl = last2 L L.length := ⟨_, rfl⟩
  rw [← htbl]
  have HTBL := Lib.hid htbl
  generalize hln : L.length = ln at *
  have HLN := Lib.hid hln
  clear hi hz0 hz1 hz2 hf hres htbl hln
  go_enter Tryz.func26, Tryz.ntmps26
  generalize hB : w.heap.size = B at *
  have HB := Lib.hid hB
  go_wp2_with fail
  go_loopw [4, 5] (fun r4 r5 wr => ∃ (i a : Nat), 1 ≤ i ∧ i ≤ ln ∧ r5 = .int .i64 (i : Int) ∧ r4 = .int .i64 (a : Int) ∧ ((cnt2 L i = 0 ∧ a = 0) ∨ (cnt2 L i = 1 ∧ a = last2 L i ∧ 1 ≤ a ∧ ∃ t, L[a]? = some t ∧ t.b = 2)) ∧ w = wr) (fun _ r5 _ => ln - (intOf r5).toNat)
  case atStart =>
    refine ⟨1, 0, Nat.le_refl _, hL1, rfl, rfl, .inl ⟨?_, rfl⟩, rfl⟩
    obtain ⟨t0, ht0⟩ : ∃ t0, L[0]? = some t0 := ⟨_, List.getElem?_eq_getElem (by rw [HLN.out]; omega)⟩
    rw [cnt2_step ht0, heads_zero HOK.out ht0]
    rfl
  case round =>
    obtain ⟨i, a, hi1, hi2, rfl, rfl, hca, rfl⟩ := hrel
    have HCA := Lib.hid hca
    clear hca
    have hbw0 : Below B w w := by rw [← hB]; exact Below.refl _ _
    have hrf := HRF.out w hbw0
    have c1 := hrf.c1
    rw [HLN.out] at c1
    by_cases hlt : i < ln
    · obtain ⟨b, off, u, hpe, hu, _, u1, _⟩ := hrf.h.at_ (i := i) (by rw [HLN.out]; exact hlt)
      subst hpe
      have HC := Lib.hid (cnt2_step hu)
      have HLS := Lib.hid (last2_step hu)
      have HU := Lib.hid hu
      have hK : (i : Int) < (ln : Int) := by omega
      have hK0 : (0 : Int) ≤ (i : Int) := by omega
      have hR0 : res = none ∨ True := .inr trivial
      clear hrf hu hR0
      cases hb2 : (u.b == 2) with
      | false =>
        have hca2 : Hid ((cnt2 L (i + 1) = 0 ∧ a = 0) ∨ (cnt2 L (i + 1) = 1 ∧ a = last2 L (i + 1) ∧ 1 ≤ a ∧ ∃ t, L[a]? = some t ∧ t.b = 2)) := Lib.hid (by
          rw [HC.out, HLS.out, hb2]
          exact HCA.out)
        go_wp2_with fail
        go_roundw
        case rel => exact ⟨i + 1, a, by omega, hlt, by go_num, rfl, hca2.out, by trivial⟩
        case measure => simp [intOf]; omega
      | true =>
        rcases Nat.eq_zero_or_pos a with h0 | h0
        · subst h0
          have hca2 : Hid ((cnt2 L (i + 1) = 0 ∧ i = 0) ∨ (cnt2 L (i + 1) = 1 ∧ i = last2 L (i + 1) ∧ 1 ≤ i ∧ ∃ t, L[i]? = some t ∧ t.b = 2)) := Lib.hid (by
            rw [HC.out, HLS.out, hb2]
            rcases HCA.out with ⟨h1, _⟩ | ⟨_, _, h1, _⟩
            · exact .inr ⟨by rw [h1]; rfl, rfl, hi1, u, HU.out, by simpa using hb2⟩
            · omega)
          go_wp2_with fail
          go_roundw
          case rel => exact ⟨i + 1, i, by omega, hlt, by go_num, rfl, hca2.out, by trivial⟩
          case measure => simp [intOf]; omega
        · have hE : Hid (res = none) := Lib.hid (HTWO.out (by
            have h1 := cnt2_mono (L := L) (i := i + 1) (j := ln) hlt
            rw [HC.out, hb2] at h1
            rcases HCA.out with ⟨_, h2⟩ | ⟨h2, _⟩
            · omega
            · rw [h2] at h1
              simp at h1
              omega))
          have ha0 : decide ((0 : Int) < (a : Int)) = true := decide_eq_true (by omega)
          go_wp2_with fail
          exact bodyPost_ret (v := .tuple #[.slice none 0 0, .int .i64 0]) (by simp [results, Tryz.results26, go_sem]) rfl ⟨by first | exact hbw0 | (rw [hB]; exact hbw0), .inl ⟨hE.out, rfl⟩⟩
    · obtain rfl : i = ln := by omega
      have hK : ¬ (i : Int) < (i : Int) := by omega
      rcases Nat.eq_zero_or_pos a with h0 | h0
      · subst h0
        have hE : Hid (res = none) := Lib.hid (HTWO.out (by
          rcases HCA.out with ⟨h1, _⟩ | ⟨_, _, h1, _⟩
          · omega
          · omega))
        clear hrf
        go_wp2_with fail
        exact bodyPost_ret (v := .tuple #[.slice none 0 0, .int .i64 0]) (by simp [results, Tryz.results26, go_sem]) rfl ⟨by first | exact hbw0 | (rw [hB]; exact hbw0), .inl ⟨hE.out, rfl⟩⟩
      · have hal : a = tbl ∧ cnt2 L i = 1 ∧ ∃ t, L[a]? = some t ∧ t.b = 2 := by
          rcases HCA.out with ⟨_, h1⟩ | ⟨h1, h2, _, h3⟩
          · omega
          · exact ⟨by rw [h2, HTBL.out], h1, h3⟩
        obtain ⟨rfl, hc1, th, hth, htb2⟩ := hal
        have hai : a < L.length := by
          have h1 := HTBL.out
          have h2 := last2_lt L i hL1
          rw [HLN.out]
          omega
        obtain ⟨b, off, h, hpe, hh, e0, e1, e2, e3, e4, e5, e6, e7, e8, e9⟩ := hrf.h.at_ (i := a) hai
        subst hpe
        have hR : Hid (res = symsAt l L (numGo 0 L) h) := Lib.hid (by
          rw [HRES.out, hc1, ← HTBL.out, hh]
          rfl)
        obtain rfl : th = h := by rw [hh] at hth; cases hth; rfl
        have ha0 : ((a : Int) == 0) = false := by simp; omega
        have hK1 : (a : Int) < (i : Int) := by rw [HLN.out] at hai; omega
        have hK0 : (0 : Int) ≤ (a : Int) := by omega
        have hm := (HOK.out a th hh).1
        have he := (fitsB_iff _).1 (hm th.e (by simp [Ten.l]))
        have hff := (fitsB_iff _).1 (hm th.f (by simp [Ten.l]))
        have hgg := (fitsB_iff _).1 (hm th.g (by simp [Ten.l]))
        have hin := heads_in HOK.out hh (by omega)
        obtain ⟨eo, heo⟩ := Int.eq_ofNat_of_zero_le he.1
        obtain ⟨fo, hfo⟩ := Int.eq_ofNat_of_zero_le hff.1
        obtain ⟨tg, htg⟩ := Int.eq_ofNat_of_zero_le hgg.1
        have hef : eo + fo ≤ l.length := by omega
        have htB : toldB l L a = win l eo fo := by
          unfold toldB
          rw [hh]
          simp only
          rw [htb2, heo, hfo, Int.toNat_natCast, Int.toNat_natCast, show ((2 : Int) == 8 || a == 0) = false by simp; omega]
          rfl
        have hwl := win_length l eo fo hef
        have htd := told_has hrf a
        rw [htB, hwl] at htd
        have htn := told_has hrf tg
        have HTA := Lib.hid fun W (hW : Below B w W) => (show Calls Tryz.prog 31 #[filP F, .int .i64 (a : Int)] W fun e w' => e = .returned (.slice (toldP bp bc L a) fo (toldC bc L a)) ∧ Below W.heap.size W w' by
          have := rTold_any F a bp bc l _ hc L W (HRF.out W hW) hai
          rw [htB, hwl] at this
          exact this)
        have HSA := Lib.hid fun W (hW : Below B w W) (k : Nat) (hk : k ≤ 100000) (t : Six) (ok : Bool) (hsv : symV (symAt (win l eo fo) (k : Int)) = (t.v, ok)) => sym_call (toldP bp bc L a) fo (toldC bc L a) (win l eo fo) (k : Int) W (htd.1.below (by rw [hB]; exact hW)) hwl htd.2.1 (by omega) (by omega) t ok hsv
        have HWN := Lib.hid fun (k : Nat) (hk : k + 24 ≤ fo) => symAt_win (l := l) hef hk
        have HTN := Lib.hid fun W (hW : Below B w W) (hg : tg < L.length) => rTold_any F tg bp bc l _ hc L W (HRF.out W hW) hg
        have HAT := Lib.hid fun W (hW : Below B w W) (x : Int) => refAt_any (toldP bp bc L tg) (toldB l L tg).length (toldC bc L tg) (toldB l L tg) x W (htn.1.below (by rw [hB]; exact hW)) rfl htn.2.1 (by have := htn.2.2.2.2; omega)
        have HNU := Lib.hid fun W (hW : Below B w W) (x : Nat) => rNumber_any F x bp bc l _ hc L W (HRF.out W hW)
        have HISW := Lib.hid fun W (hW : Below B w W) => rIs_any F tg 3 bp bc l _ hc L W (HRF.out W hW) (by decide)
        have hR2 : res = bif (th.j == 24) && ((fo : Int) % 24 == 0) then (bif isTy L tg 3 then (match symGo l (numGo 0 L) (toldB l L tg) (eo : Int) 0 (fo / 24) [] with
            | none => none
            | some ys => bif ((cntL ys : Nat) : Int) == th.h then some ys else none) else none) else none := by
          rw [hR.out]
          unfold symsAt
          rw [heo, hfo, htg, Int.toNat_natCast, Int.toNat_natCast, show ((fo : Int).tmod 24) = (fo : Int) % 24 from Int.tmod_eq_emod_of_nonneg (by omega)]
          cases hty : isTy L tg 3 with
          | false => rfl
          | true =>
            have h1 := hty
            unfold isTy at h1
            cases h2 : L[tg]? with
            | none => rw [h2] at h1; cases h1
            | some t =>
              rw [h2] at h1
              have h3 : t.b = 3 := by simpa using h1
              have h4 : toldB l L tg = win l t.e.toNat t.f.toNat := by
                unfold toldB
                rw [h2]
                simp only
                have h5 : tg ≠ 0 := fun h0 => by
                  subst h0
                  have := heads_zero HOK.out h2
                  omega
                rw [h3, show ((3 : Int) == 8 || tg == 0) = false by simpa using h5]
                rfl
              rw [h4]
              rfl
        have HR2 := Lib.hid hR2
        have HEO := Lib.hid heo
        have HFO := Lib.hid hfo
        have HTG := Lib.hid htg
        have HIL : Hid (isTy L tg 3 = true → tg < L.length) := Lib.hid fun h1 => by
          unfold isTy at h1
          cases h2 : L[tg]? with
          | none => rw [h2] at h1; cases h1
          | some _ => exact (List.getElem?_eq_some_iff.1 h2).1
        have hfl : fo ≤ 16384 := by omega
        obtain ⟨pr, hpr⟩ : ∃ pr, pr = isTy L tg 3 := ⟨_, rfl⟩
        rw [← hpr] at HISW HR2 HIL
        clear hrf hh hth hc1 HCA HRES HTWO hK hm he hff hgg hin heo hfo htg htB hwl htd htn hR2 hR htb2 hpr hef
        generalize toldP bp bc L a = dp at *
        generalize toldC bc L a = dc at *
        generalize toldP bp bc L tg = np at *
        generalize toldC bc L tg = nc at *
        generalize toldB l L tg = tb at *
        generalize tb.length = tl at *
        go_upto_region 12 with fail
        have hgh := heap_alloc_new w (.cells #[.int .i64 th.a, .int .i64 th.b, .int .i64 th.c, .int .i64 th.d, .int .i64 th.e, .int .i64 th.f, .int .i64 th.g, .int .i64 th.h, .int .i64 th.i, .int .i64 th.j] 54)
        have hb1 : Below B w (w.alloc (.cells #[.int .i64 th.a, .int .i64 th.b, .int .i64 th.c, .int .i64 th.d, .int .i64 th.e, .int .i64 th.f, .int .i64 th.g, .int .i64 th.h, .int .i64 th.i, .int .i64 th.j] 54)) := by rw [← hB]; exact (Below.refl _ w).alloc (Nat.le_refl _) _
        rw [hB] at hgh
        have hs1 : B < (w.alloc (.cells #[.int .i64 th.a, .int .i64 th.b, .int .i64 th.c, .int .i64 th.d, .int .i64 th.e, .int .i64 th.f, .int .i64 th.g, .int .i64 th.h, .int .i64 th.i, .int .i64 th.j] 54)).heap.size := by simp; omega
        generalize w.alloc (.cells #[.int .i64 th.a, .int .i64 th.b, .int .i64 th.c, .int .i64 th.d, .int .i64 th.e, .int .i64 th.f, .int .i64 th.g, .int .i64 th.h, .int .i64 th.i, .int .i64 th.j] 54) = w1 at *
        have hB1 : B ≤ w1.heap.size := Nat.le_of_lt hs1
        rw [HFO.out, HTG.out] at hgh
        have HGH := Lib.hid hgh
        obtain ⟨x0, x1, x2, x3, x4, x5, x6, x7, x8, x9⟩ := cells_ten _ _ _ _ _ _ _ _ _ _ _ _ _ hgh
        have HIS1 : Hid (Calls Tryz.prog 57 #[filP F, .int .i64 (tg : Int), .int .i64 3] w1 fun e w' => e = .returned (.bool pr) ∧ w1 = w') := Lib.hid (HISW.out w1 hb1)
        obtain ⟨bad, hbad⟩ : ∃ bad, bad = ((th.j != 24) || (((fo : Int) % 24 != 0) || !pr)) := ⟨_, rfl⟩
        have HBAD := Lib.hid hbad
        clear hgh e0 e1 e2 e3 e4 e5 e6 e7 e8 e9 c1 hbad HISW
        go_upto_region 13 with (first | (go_at_call 57; refine HIS1.out.mono ?_; rintro e w2 ⟨rfl, rfl⟩) | fail)
        go_cut [73] (fun s73 wx => s73 = .bool bad ∧ w1 = wx)
        case first =>
          cases hj : (th.j != 24) with
          | true =>
            obtain rfl : bad = true := by rw [HBAD.out, hj]; rfl
            go_wp2_with fail
            go_meet
            exact ⟨rfl, rfl⟩
          | false =>
            cases hmd : ((fo : Int) % 24 != 0) with
            | true =>
              obtain rfl : bad = true := by rw [HBAD.out, hj, hmd]; rfl
              go_wp2_with fail
              go_meet
              exact ⟨rfl, rfl⟩
            | false =>
              obtain rfl : bad = !pr := by rw [HBAD.out, hj, hmd]; rfl
              go_wp2_with fail
              go_meet
              exact ⟨rfl, rfl⟩
        case rest =>
          obtain ⟨rfl, rfl⟩ := hcut
          cases bad with
          | true =>
            have hE : Hid (res = none) := Lib.hid (by
              have hb := HBAD.out
              rw [HR2.out]
              cases hj : (th.j == 24) with
              | false => rfl
              | true =>
                cases hmd : ((fo : Int) % 24 == 0) with
                | false => rfl
                | true =>
                  rw [show (th.j != 24) = false by unfold bne; rw [hj]; rfl, show ((fo : Int) % 24 != 0) = false by unfold bne; rw [hmd]; rfl] at hb
                  have : pr = false := by simpa using hb.symm
                  rw [this]
                  rfl)
            go_wp2_with fail
            exact bodyPost_ret (v := .tuple #[.slice none 0 0, .int .i64 0]) (by simp [results, Tryz.results26, go_sem]) rfl ⟨by first | exact hb1 | (rw [hB]; exact hb1), .inl ⟨hE.out, rfl⟩⟩
          | false =>
            have hb3 : (th.j == 24) = true ∧ ((fo : Int) % 24 == 0) = true ∧ pr = true := by
              have hb := HBAD.out
              simp only [Bool.false_eq, Bool.or_eq_false_iff, Bool.not_eq_false'] at hb
              exact ⟨by simpa [bne] using hb.1, by simpa [bne] using hb.2.1, hb.2.2⟩
            have h24 : fo % 24 = 0 := by
              have h1 : (fo : Int) % 24 = 0 := by simpa using hb3.2.1
              omega
            have HR3 : Hid (res = match symGo l (numGo 0 L) tb (eo : Int) 0 (fo / 24) [] with
              | none => none
              | some ys => bif ((cntL ys : Nat) : Int) == th.h then some ys else none) := Lib.hid (by rw [HR2.out, hb3.1, hb3.2.1, hb3.2.2]; rfl)
            have htgl := HIL.out hb3.2.2
            have HTN2 := Lib.hid fun W (hW : Below B w W) => HTN.out W hW htgl
            clear HR2 HBAD hb3 htgl HTN HIL
            go_wp2_with fail
            go_loopw [8, 9, 10, 11, 12, 13, 14, 15] (fun r8 r9 r10 _ _ _ _ _ wr => ∃ (m : Nat) (acc : List SymD) (p : Option Addr) (c : Nat), 24 * m ≤ fo ∧ r10 = .int .i64 ((24 * m : Nat) : Int) ∧ r9 = .int .i64 ((cntL acc : Nat) : Int) ∧ r8 = .slice p acc.length c ∧ acc.length = m ∧ symGo l (numGo 0 L) tb (eo : Int) 0 (fo / 24) [] = symGo l (numGo 0 L) tb (eo : Int) m (fo / 24 - m) acc ∧ wr.ownsRow B 45 6 (.slice p acc.length c) acc.length (acc.flatMap symC) ∧ Below B w wr ∧ wr.heap[B]? = some (.cells #[.int .i64 th.a, .int .i64 th.b, .int .i64 th.c, .int .i64 th.d, .int .i64 th.e, .int .i64 (fo : Int), .int .i64 (tg : Int), .int .i64 th.h, .int .i64 th.i, .int .i64 th.j] 54 (0, 0))) (fun _ _ r10 _ _ _ _ _ _ => fo - (intOf r10).toNat)
            case atStart => exact ⟨0, [], none, 0, Nat.zero_le _, rfl, rfl, rfl, rfl, rfl, World.ownsRow_nil _ _ _ _, hb1, HGH.out⟩
            case round =>
              obtain ⟨m, acc, p, c, hm1, rfl, rfl, rfl, hal, hgo, hown, hbw, hgb⟩ := hrel
              have HGO := Lib.hid hgo
              have HOWN := Lib.hid hown
              have HGB := Lib.hid hgb
              have hBw : B < wr.heap.size := (Array.getElem?_eq_some_iff.1 hgb).1
              obtain ⟨z0, z1, z2, z3, z4, z5, z6, z7, z8, z9⟩ := cells_ten _ _ _ _ _ _ _ _ _ _ _ _ _ hgb
              have HAC := Lib.hid hal
              have hacl : acc.length ≤ 100000 := by omega
              have hcl := cntL_le acc
              clear hgo hown hal hgb x0 x1 x2 x3 x4 x5 x6 x7 x8 x9 z0 z1 z2 z3 z4 z8 z9
              by_cases hlt : 24 * m < fo
              · obtain ⟨t, ok, hsv, hok1, hok0⟩ := sym_let (symAt (win l eo fo) ((24 * m : Nat) : Int))
                have HTW := Lib.hid (HTA.out wr hbw)
                have HSW := Lib.hid fun W (hW : Below wr.heap.size wr W) => HSA.out W (hbw.trans (hW.mono (Nat.le_of_lt hBw))) (24 * m) (by omega) t ok hsv
                have hstep : symGo l (numGo 0 L) tb (eo : Int) m (fo / 24 - m) acc = match symB l (numGo 0 L) tb ((eo : Int) + 24 * (m : Int)) with
                  | none => none
                  | some s => symGo l (numGo 0 L) tb (eo : Int) (m + 1) (fo / 24 - (m + 1)) (acc ++ [s]) := by
                  rw [show fo / 24 - m = (fo / 24 - (m + 1)) + 1 by omega, symGo_step]
                  rfl
                have hsw : symAt l ((eo : Int) + 24 * (m : Int)) = symAt (win l eo fo) ((24 * m : Nat) : Int) := by
                  rw [HWN.out (24 * m) (by omega), show ((eo + 24 * m : Nat) : Int) = (eo : Int) + 24 * (m : Int) by omega]
                have HSTEP := Lib.hid hstep
                have HSWE := Lib.hid hsw
                have HOK1 := Lib.hid hok1
                have HOK0 := Lib.hid hok0
                have hK : ((24 * m : Nat) : Int) < (fo : Int) := by omega
                obtain ⟨mm, hmm⟩ : ∃ mm, mm = 24 * m := ⟨_, rfl⟩
                rw [← hmm] at HSW hK hlt ⊢
                have HMM := Lib.hid hmm
                clear hstep hsw hsv hok1 hok0 hmm hm1
                go_upto_region 21 with (first
                  | (go_at_call 31; refine HTW.out.mono ?_; rintro e w3 ⟨rfl, hb3⟩)
                  | (go_at_call 60; refine (HSW.out _ (by first | exact hb3 | exact Below.refl _ _ | fail)).mono ?_; rintro e w4 ⟨rfl, hb4⟩)
                  | fail)
                have hb34 := hb3.trans (hb4.mono hb3.size)
                have hb5 : Below wr.heap.size wr (w4.alloc (.cells #[.int .i64 t.a, .int .i64 t.b, .int .i64 t.c, .int .i64 t.d, .int .i64 t.e, .int .i64 t.f] 93)) := hb34.alloc hb34.size _
                have hbB : Below B w (w4.alloc (.cells #[.int .i64 t.a, .int .i64 t.b, .int .i64 t.c, .int .i64 t.d, .int .i64 t.e, .int .i64 t.f] 93)) := hbw.trans (hb5.mono (Nat.le_of_lt hBw))
                have hg4 := heap_alloc_new w4 (.cells #[.int .i64 t.a, .int .i64 t.b, .int .i64 t.c, .int .i64 t.d, .int .i64 t.e, .int .i64 t.f] 93)
                have hown5 := owns_belowN HOWN.out hb5
                have hgb5 := (hb5.block _ hBw).trans HGB.out
                have hB5 : B < (w4.alloc (.cells #[.int .i64 t.a, .int .i64 t.b, .int .i64 t.c, .int .i64 t.d, .int .i64 t.e, .int .i64 t.f] 93)).heap.size := Nat.lt_of_lt_of_le hBw hb5.size
                generalize w4.alloc (.cells #[.int .i64 t.a, .int .i64 t.b, .int .i64 t.c, .int .i64 t.d, .int .i64 t.e, .int .i64 t.f] 93) = w5 at *
                generalize w4.heap.size = g4 at *
                obtain ⟨⟨r0, r1, r2, r3, r4, r5⟩, _⟩ := six_cells _ _ _ _ _ _ _ _ _ hg4
                have z6 := (cells_ten _ _ _ _ _ _ _ _ _ _ _ _ _ hgb5).2.2.2.2.2.2.1
                have HO5 := Lib.hid hown5
                have HGB5 := Lib.hid hgb5
                have HBB := Lib.hid hbB
                have hdd : 0 ≤ t.d ∧ t.d ≤ 65535 := by
                  cases ok with
                  | true => have := symAt_may (HOK1.out rfl); exact ⟨this.2.2.2.2.2.2.2.1, this.2.2.2.2.2.2.2.2⟩
                  | false => rw [(HOK0.out rfl).2]; exact ⟨by decide, by decide⟩
                obtain ⟨ed, hed⟩ := Int.eq_ofNat_of_zero_le hdd.1
                have HED := Lib.hid hed
                clear hb3 hb4 hb34 hb5 hg4 hown5 hgb5 HTW HSW hed
                obtain ⟨so, hso⟩ : ∃ so, so = strAt tb t.a := ⟨_, rfl⟩
                have HAT2 : Hid (∀ W, Below w5.heap.size w5 W → Calls Tryz.prog 58 #[.slice np tl nc, .int .i64 t.a] W fun e w' => e = .returned (.tuple #[.string (str (so.getD [])), .bool so.isSome]) ∧ W = w') := Lib.hid fun W hW => by
                  have := HAT.out W (hbB.trans (hW.mono (Nat.le_of_lt hB5))) t.a
                  rw [atAny_eq, ← hso] at this
                  exact this
                have HTN3 := Lib.hid fun W (hW : Below w5.heap.size w5 W) => HTN2.out W (hbB.trans (hW.mono (Nat.le_of_lt hB5)))
                have HSO := Lib.hid hso
                clear hso hbB
                go_cut [13, 14] (fun s13 s14 wx => s13 = .string (str (so.getD [])) ∧ s14 = .bool so.isSome ∧ Below w5.heap.size w5 wx)
                case first =>
                  refine wp_region_below (by kernel_rfl) (by kernel_rfl) ?_
                  repeat (go_big_quiet_step (first
                    | (intro hWq; go_at_call 31; refine (HTN3.out _ hWq).mono ?_; rintro e w' ⟨rfl, hb⟩; exact ⟨rfl, hWq.trans (hb.mono hWq.size)⟩)
                    | (intro hWq; go_at_call 58; refine (HAT2.out _ hWq).mono ?_; rintro e w' ⟨rfl, rfl⟩; exact ⟨rfl, hWq⟩)
                    | (intro hWq; have y0 := cell_later hWq r0; have y6 := cell_later hWq z6; go_simp; first | done | rfl | exact ⟨rfl, rfl⟩ | fail)
                    | fail))
                  refine wpQuiet_nil ?_
                  intro wx hwx
                  go_wp2_with fail
                  go_meet
                  exact ⟨rfl, rfl, hwx⟩
                case rest =>
                  obtain ⟨rfl, rfl, hbx⟩ := hcut
                  generalize wc = wq at *
                  obtain ⟨si, hsi⟩ : ∃ si, si = so.isSome := ⟨_, rfl⟩
                  rw [← hsi]
                  have HSI := Lib.hid hsi
                  clear hsi
                  have hbq : Below B w wq := HBB.out.trans (hbx.mono (Nat.le_of_lt hB5))
                  have hBq : B < wq.heap.size := Nat.lt_of_lt_of_le hB5 hbx.size
                  have q1 := cell_later hbx r1
                  have q2 := cell_later hbx r2
                  have q3 := cell_later hbx r3
                  have q4 := cell_later hbx r4
                  have q5 := cell_later hbx r5
                  rw [HED.out] at q3
                  have HOQ := Lib.hid (owns_belowN HO5.out hbx)
                  have HGQ := Lib.hid ((hbx.block _ hB5).trans HGB5.out)
                  obtain ⟨nl, hnl⟩ : ∃ nl, nl = (numGo 0 L)[ed]?.getD 0 := ⟨_, rfl⟩
                  have HNQ : Hid (∀ W, Below wq.heap.size wq W → Calls Tryz.prog 28 #[filP F, .int .i64 (ed : Int)] W fun e w' => e = .returned (.int .i64 nl) ∧ W = w') := Lib.hid fun W hW => by
                    have := HNU.out W (hbq.trans (hW.mono (Nat.le_of_lt hBq))) ed
                    rw [← hnl] at this
                    exact this
                  have HNL := Lib.hid hnl
                  obtain ⟨nm, hnm⟩ : ∃ nm, nm = str (so.getD []) := ⟨_, rfl⟩
                  rw [← hnm]
                  have HNM := Lib.hid hnm
                  have HBQ := Lib.hid hbq
                  clear hnl hnm r0 r1 r2 r3 r4 r5 z6 hbx hbq HO5 HGB5 HBB HAT2 HTN3
                  have hzz : Below wq.heap.size wq ((wq.alloc (.cells #[.string ⟨#[]⟩, .int .i64 0, .int .i64 0, .int .i64 0, .int .i64 0, .int .i64 0] 45)).drew) := ((Below.refl _ wq).alloc (Nat.le_refl _) _).drew
                  have hzn : ((wq.alloc (.cells #[.string ⟨#[]⟩, .int .i64 0, .int .i64 0, .int .i64 0, .int .i64 0, .int .i64 0] 45)).drew).heap[wq.heap.size]? = some (.cells #[.string ⟨#[]⟩, .int .i64 0, .int .i64 0, .int .i64 0, .int .i64 0, .int .i64 0] 45 (0, 0)) := heap_alloc_new wq _
                  have HZN := Lib.hid hzn
                  have HZZ := Lib.hid hzz
                  clear hzz hzn
                  go_upto_region 22 with fail
                  go_cut [15] (fun s15 wx => ∃ g15, s15 = .pointer (some ⟨g15, 0, none⟩) ∧ wx.heap[g15]? = some (.cells #[.string nm, .int .i64 t.b, .int .i64 t.c, .int .i64 nl, .int .i64 t.e, .int .i64 t.f] 45 (0, 0)) ∧ Below wq.heap.size wq wx ∧ wq.heap.size ≤ g15)
                  case first =>
                    have hy := six_set (.string nm) (.int .i64 t.b) (.int .i64 t.c) (.int .i64 nl) (.int .i64 t.e) (.int .i64 t.f) (Nat.le_refl wq.heap.size) HZN.out
                    have hyb := HZZ.out.trans (hy.2.below HZZ.out.size)
                    have HY := Lib.hid hy
                    have HYB := Lib.hid hyb
                    have HQ1 := Lib.hid q1
                    have HQ2 := Lib.hid q2
                    have HQ3 := Lib.hid q3
                    have HQ4 := Lib.hid q4
                    have HQ5 := Lib.hid q5
                    clear hy hyb hdd hcl hacl hfl hK hlt hK0 hK1 ha0 hBq hBw hB5 hbw hb1 hB1 hi1 hi2 hs1 z5 z7 HGQ HOQ HSO HSTEP HSWE HAC HGO HOWN
                    go_region_held3 (fun W => W.cell? ⟨g4, 1, none⟩ = some (.int .i64 t.b) ∧ W.cell? ⟨g4, 2, none⟩ = some (.int .i64 t.c) ∧ W.cell? ⟨g4, 3, none⟩ = some (.int .i64 (ed : Int)) ∧ W.cell? ⟨g4, 4, none⟩ = some (.int .i64 t.e) ∧ W.cell? ⟨g4, 5, none⟩ = some (.int .i64 t.f)) (first | go_keep | with_reducible exact ⟨q1, q2, q3, q4, q5⟩ | with_reducible exact ⟨v1, v2, v3, v4, v5⟩ | fail)
                      ((first
                        | (go_at_call 28
                           (first
                            | (with_reducible refine (HNQ.out _ (Below.refl _ wq).drew).mono ?_
                               rintro e w6 ⟨rfl, rfl⟩)
                            | (with_reducible refine (HNQ.out _ HZZ.out).mono ?_
                               rintro e w6 ⟨rfl, rfl⟩
                               obtain ⟨⟨s0, s1, s2, s3, s4, s5⟩, f0, f1, f2, f3, f4, f5⟩ := six_cells _ _ _ _ _ _ _ _ _ HZN.out
                               have v1 := cell_later HYB.out HQ1.out
                               have v2 := cell_later HYB.out HQ2.out
                               have v3 := cell_later HYB.out HQ3.out
                               have v4 := cell_later HYB.out HQ4.out
                               have v5 := cell_later HYB.out HQ5.out)
                            | fail))
                        | fail))
                    all_goals go_wp2_with fail
                    all_goals go_meet
                    all_goals first
                      | (refine ⟨_, rfl, ?_, ?_, Nat.le_refl _⟩
                         · with_reducible exact HY.out.1
                         · with_reducible exact HYB.out)
                      | (refine ⟨_, rfl, ?_, ?_, Nat.le_refl _⟩
                         · with_reducible exact heap_alloc_new _ _
                         · with_reducible exact ((Below.refl _ wq).drew).alloc (by simp) _)
                      | (refine ⟨_, rfl, ?_, ?_, Nat.le_refl _⟩
                         · exact heap_alloc_new wq _
                         · with_reducible exact ((Below.refl _ wq).alloc (Nat.le_refl _) _).drew)
                      | trace_state
                  case rest =>
                    obtain ⟨g15, rfl, hx15, hb15, hg15⟩ := hcut
                    generalize wc = wy at *
                    obtain ⟨sc, hsc⟩ : ∃ sc : Int, sc = if ed = 65521 then -1 else nl := ⟨_, rfl⟩
                    have HSC := Lib.hid hsc
                    have HX15 := Lib.hid hx15
                    have HB15 := Lib.hid hb15
                    have HQ1 := Lib.hid q1
                    have HQ3 := Lib.hid q3
                    have k3 := cell_later hb15 q3
                    clear hsc hx15 hb15 q1 q2 q3 q4 q5 HZN HZZ
                    go_upto_if 114 with fail
                    go_cut [] (fun wx => wx.heap[g15]? = some (.cells #[.string nm, .int .i64 t.b, .int .i64 t.c, .int .i64 sc, .int .i64 t.e, .int .i64 t.f] 45 (0, 0)) ∧ Below wq.heap.size wq wx)
                    case first =>
                      by_cases h5 : ed = 65521
                      · have hE : Hid (sc = -1) := Lib.hid (by rw [HSC.out, if_pos h5])
                        have h5b : ((ed : Int) == 65521) = true := by simp; omega
                        obtain ⟨⟨s0, s1, s2, s3, s4, s5⟩, f0, f1, f2, f3, f4, f5⟩ := six_cells _ _ _ _ _ _ _ _ _ HX15.out
                        clear h5
                        go_wp2_with fail
                        go_meet
                        rw [hE.out]
                        exact ⟨heap_setCell_same _ g15 3 _ _ (.int .i64 (-1)) HX15.out, below_setNew HB15.out hg15 _⟩
                      · have hE : Hid (sc = nl) := Lib.hid (by rw [HSC.out, if_neg h5])
                        have h5b : ((ed : Int) == 65521) = false := by simp; omega
                        clear h5
                        go_wp2_with fail
                        go_meet
                        rw [hE.out]
                        exact ⟨HX15.out, HB15.out⟩
                    case rest =>
                      obtain ⟨hxz, hbz⟩ := hcut
                      generalize wc = wz at *
                      obtain ⟨⟨s0, s1, s2, s3, s4, s5⟩, _⟩ := six_cells _ _ _ _ _ _ _ _ _ hxz
                      have j1 := cell_later hbz HQ1.out
                      have j3 := cell_later hbz HQ3.out
                      have HBZ := Lib.hid hbz
                      obtain ⟨bad, hbad⟩ : ∃ bad, bad = (!ok || (!si || ((sc == 0) && ((ed : Int) != 0)))) := ⟨_, rfl⟩
                      have HBAD := Lib.hid hbad
                      clear hxz hbz hbad k3 HX15 HB15
                      go_upto_region 25 with fail
                      go_cut [131] (fun s131 wx => s131 = .bool bad ∧ wz = wx)
                      case first =>
                        cases ok with
                        | false =>
                          obtain rfl : bad = true := by rw [HBAD.out]; rfl
                          go_wp2_with fail
                          go_meet
                          exact ⟨rfl, rfl⟩
                        | true =>
                          cases si with
                          | false =>
                            obtain rfl : bad = true := by rw [HBAD.out]; rfl
                            go_wp2_with fail
                            go_meet
                            exact ⟨rfl, rfl⟩
                          | true =>
                            cases hs0 : (sc == 0) with
                            | false =>
                              obtain rfl : bad = false := by rw [HBAD.out, hs0]; rfl
                              go_wp2_with fail
                              go_meet
                              exact ⟨rfl, rfl⟩
                            | true =>
                              have hb2 : bad = ((ed : Int) != 0) := by rw [HBAD.out, hs0]; simp
                              have HB2 := Lib.hid hb2
                              clear hb2 HBAD
                              cases he0 : ((ed : Int) != 0) with
                              | true =>
                                obtain rfl : bad = true := by rw [HB2.out, he0]
                                go_wp2_with fail
                                go_meet
                                exact ⟨by first | rfl | simpa using he0 | fail, rfl⟩
                              | false =>
                                obtain rfl : bad = false := by rw [HB2.out, he0]
                                go_wp2_with fail
                                go_meet
                                exact ⟨by first | rfl | simpa using he0 | fail, rfl⟩
                      case rest =>
                        obtain ⟨rfl, rfl⟩ := hcut
                        have hwz : Below B w wz := HBQ.out.trans (HBZ.out.mono (Nat.le_of_lt hBq))
                        cases bad with
                        | true =>
                          have hE : Hid (res = none) := Lib.hid (by
                            have hb := HBAD.out
                            rw [HR3.out, HGO.out, HSTEP.out]
                            have hs : symB l (numGo 0 L) tb ((eo : Int) + 24 * (m : Int)) = none := by
                              unfold symB
                              rw [HSWE.out]
                              cases ok with
                              | false => rw [(HOK0.out rfl).1]
                              | true =>
                                rw [HOK1.out rfl]
                                simp only
                                rw [← HSO.out]
                                cases so with
                                | none => rfl
                                | some n =>
                                  rw [HSI.out] at hb
                                  simp only [Option.isSome_some, Bool.not_true, Bool.false_or] at hb
                                  have hb2 := hb.symm
                                  rw [Bool.and_eq_true] at hb2
                                  have h1 : sc = 0 := by simpa using hb2.1
                                  have h2 : ¬ ed = 0 := by have := hb2.2; simp at this; omega
                                  rw [HSC.out] at h1
                                  have h3 : ¬ ed = 65521 := fun h => by rw [if_pos h] at h1; omega
                                  rw [if_neg h3] at h1
                                  simp only [HED.out, Int.toNat_natCast, ← HNL.out, h1]
                                  rw [show ((ed : Int) == 0) = false by simp; omega, show ((ed : Int) == 65521) = false by simp; omega]
                                  rfl
                            rw [hs])
                          go_wp2_with fail
                          exact bodyPost_ret (v := .tuple #[.slice none 0 0, .int .i64 0]) (by simp [results, Tryz.results26, go_sem]) rfl ⟨by first | exact hwz | (rw [hB]; exact hwz), .inl ⟨hE.out, rfl⟩⟩
                        | false =>
                          have hsb : symB l (numGo 0 L) tb ((eo : Int) + 24 * (m : Int)) = some ⟨nm, t.b, t.c, sc, t.e, t.f⟩ := by
                            have hb := HBAD.out
                            unfold symB
                            rw [HSWE.out]
                            cases ok with
                            | false => simp at hb
                            | true =>
                              rw [HOK1.out rfl]
                              simp only
                              rw [← HSO.out]
                              cases so with
                              | none => rw [HSI.out] at hb; simp at hb
                              | some n =>
                                have hnm : nm = str n := HNM.out
                                rw [HSI.out] at hb
                                simp only [Option.isSome_some, Bool.not_true, Bool.false_or] at hb
                                simp only [HED.out, Int.toNat_natCast, ← HNL.out]
                                rw [← hnm]
                                by_cases h0e : ed = 0
                                · have hn0 : nl = 0 := by
                                    rw [HNL.out, h0e]
                                    obtain ⟨t0, ht0⟩ : ∃ t0, L[0]? = some t0 := ⟨_, List.getElem?_eq_getElem (by rw [HLN.out]; omega)⟩
                                    rw [numGo_at ht0]
                                    unfold isSecT
                                    rw [heads_zero HOK.out ht0]
                                    rfl
                                  have hs0 : sc = 0 := by rw [HSC.out, if_neg (by omega), hn0]
                                  rw [h0e, hs0]
                                  rfl
                                · have e1 : ((ed : Int) == 0) = false := by simp; omega
                                  rw [e1, cond_false]
                                  by_cases h5 : ed = 65521
                                  · have hs0 : sc = -1 := by rw [HSC.out, if_pos h5]
                                    rw [show ((ed : Int) == 65521) = true by simp; omega, hs0]
                                    rfl
                                  · have hs0 : sc = nl := by rw [HSC.out, if_neg h5]
                                    have e2 : ((ed : Int) != 0) = true := by unfold bne; rw [e1]; rfl
                                    rw [e2, Bool.and_true] at hb
                                    have e3 : (nl != 0) = true := by unfold bne; rw [← hs0, ← hb]; rfl
                                    rw [show ((ed : Int) == 65521) = false by simp; omega, cond_false, e3, hs0]
                                    rfl
                          have hgo2 : Hid (symGo l (numGo 0 L) tb (eo : Int) 0 (fo / 24) [] = symGo l (numGo 0 L) tb (eo : Int) (m + 1) (fo / 24 - (m + 1)) (acc ++ [⟨nm, t.b, t.c, sc, t.e, t.f⟩])) := Lib.hid (by rw [HGO.out, HSTEP.out, hsb])
                          have hcn : cntL (acc ++ [(⟨nm, t.b, t.c, sc, t.e, t.f⟩ : SymD)]) = cntL acc + bif t.b == 0 then 1 else 0 := cntL_snoc _ _
                          obtain ⟨ct, hct⟩ : ∃ ct, ct = cntL (acc ++ [(⟨nm, t.b, t.c, sc, t.e, t.f⟩ : SymD)]) := ⟨_, rfl⟩
                          rw [← hct] at hcn
                          have HCT := Lib.hid hct
                          have HCN := Lib.hid hcn
                          have k1 : IntKind.i64.wrap ((mm : Int) + 24) = ((mm + 24 : Nat) : Int) := by rw [show (mm : Int) + 24 = ((mm + 24 : Nat) : Int) by omega]; exact IntWalk.i64_in _ (by omega)
                          have hmd : mm + 24 = 24 * (m + 1) := by have := HMM.out; omega
                          have HMD := Lib.hid hmd
                          have hlt3 : 24 * (m + 1) ≤ fo := by have := HMM.out; omega
                          have HOZ := Lib.hid (owns_belowN HOQ.out HBZ.out)
                          have HGZ := Lib.hid ((HBZ.out.block _ hBq).trans HGQ.out)
                          have hBz : B < wz.heap.size := Nat.lt_of_lt_of_le hBq HBZ.out.size
                          clear hsb hct hcn hmd j3
                          go_upto_if 134 with fail
                          go_cut [9] (fun s9 wx => s9 = .int .i64 (ct : Int) ∧ wz = wx)
                          case first =>
                            cases hb0 : (t.b == 0) with
                            | true =>
                              have hE : Hid (ct = cntL acc + 1) := Lib.hid (by rw [HCN.out, hb0]; rfl)
                              have k2 : IntKind.i64.wrap (((cntL acc : Nat) : Int) + 1) = ((cntL acc + 1 : Nat) : Int) := by rw [show ((cntL acc : Nat) : Int) + 1 = ((cntL acc + 1 : Nat) : Int) by omega]; exact IntWalk.i64_in _ (by omega)
                              go_wp2_with fail
                              go_meet
                              rw [hE.out]
                              exact ⟨rfl, rfl⟩
                            | false =>
                              have hE : Hid (ct = cntL acc) := Lib.hid (by rw [HCN.out, hb0]; rfl)
                              go_wp2_with fail
                              go_meet
                              rw [hE.out]
                              exact ⟨rfl, rfl⟩
                          case rest =>
                            obtain ⟨rfl, rfl⟩ := hcut
                            go_wp2_with (at_builtin; refine wpList_append_own _ rfl (.tmp 137) (.tmp 139) 23 rfl B 45 i0 _ 6 56 Tryz.underlying23 HI.out H0.out H1.out H2.out rfl (by decide) _ acc.length _ rfl (HOZ.out.alloc _) ⟨wz.heap.size, 0, none⟩ 1 1 (symC ⟨nm, t.b, t.c, sc, t.e, t.f⟩) rfl rfl (ten_cell_at wz #[.string nm, .int .i64 t.b, .int .i64 t.c, .int .i64 sc, .int .i64 t.e, .int .i64 t.f] 45) (sym_cells_one _) (by unfold maxLen; omega) (by omega) (by simp; omega) ?_)
                            intro v6 w6 hown6 hg6 _
                            obtain ⟨p6, c6, rfl, _, _, _⟩ := slice_form hown6
                            have hfg : FrT 0 [45] _ w6 := FrT.grown (HOZ.out.alloc _) hg6 (by simp) (Nat.zero_le _)
                            rw [← flat_snoc] at hown6
                            have hb6 : Below B w w6 := (hwz.alloc (Nat.le_of_lt hBz) _).grown hg6 (by simp; omega) (fun k hk => (HOZ.out.lt k hk).1)
                            have h64 := hfg.heap (block_new HGZ.out) (by decide)
                            have HO6 := Lib.hid hown6
                            have HB6 := Lib.hid hb6
                            have HG6 := Lib.hid h64
                            clear hg6 hfg hown6 hb6 h64
                            go_wp2_with fail
                            go_roundw
                            case rel => exact ⟨m + 1, acc ++ [⟨nm, t.b, t.c, sc, t.e, t.f⟩], p6, c6, hlt3, by rw [← HMD.out]; go_num, by rw [HCT.out], by rw [List.length_append]; rfl, by rw [List.length_append, HAC.out]; rfl, hgo2.out, by rw [List.length_append]; exact HO6.out, HB6.out, HG6.out⟩
                            case measure => simp [intOf]; omega
              · have hm24 : 24 * m = fo := by omega
                have hK : ¬ ((24 * m : Nat) : Int) < (fo : Int) := by omega
                have hE : Hid (res = bif ((cntL acc : Nat) : Int) == th.h then some acc else none) := Lib.hid (by rw [HR3.out, HGO.out, show fo / 24 - m = 0 by omega]; rfl)
                have z7 := (cells_ten _ _ _ _ _ _ _ _ _ _ _ _ _ HGB.out).2.2.2.2.2.2.2.1
                clear hm24
                generalize 24 * m = mm at *
                generalize hct : cntL acc = ct at *
                cases hq : ((ct : Int) == th.h) with
                | true =>
                  have hq2 : ((ct : Int) != th.h) = false := by unfold bne; rw [hq]; rfl
                  have hE2 : Hid (res = some acc) := Lib.hid (by rw [hE.out, hq]; rfl)
                  go_wp2_with fail
                  exact bodyPost_ret (v := .tuple #[.slice p acc.length c, .int .i64 (a : Int)]) (by simp [results, Tryz.results26, go_sem]) rfl ⟨by first | exact hbw | (rw [hB]; exact hbw), .inr ⟨p, c, acc, hE2.out, rfl, h0, by first | exact HOWN.out | (rw [hB]; exact HOWN.out)⟩⟩
                | false =>
                  have hq2 : ((ct : Int) != th.h) = true := by unfold bne; rw [hq]; rfl
                  have hE2 : Hid (res = none) := Lib.hid (by rw [hE.out, hq]; rfl)
                  go_wp2_with fail
                  exact bodyPost_ret (v := .tuple #[.slice none 0 0, .int .i64 0]) (by simp [results, Tryz.results26, go_sem]) rfl ⟨by first | exact hbw | (rw [hB]; exact hbw), .inl ⟨hE2.out, rfl⟩⟩
end Go.Proofs.YtenmcmnhiejbgaaGreat
