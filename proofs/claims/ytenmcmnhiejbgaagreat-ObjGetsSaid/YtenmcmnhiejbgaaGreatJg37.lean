/-
  Contract of the reference's read: the headers of an object's bytes.
-/
import Derived.Test.YtenmcmnhiejbgaaGreatJg36
import Derived.Test.YtenmcmnhiejbgaaGreatJg10
import Derived.Test.YtenmcmnhiejbgaaGreatJg02
import Derived.Test.YtenmcmnhiejbgaaGreatJg09
namespace Go.Proofs.YtenmcmnhiejbgaaGreat
open Go.RowKit

/-- The headers, and which one is the names', as the reference reads them. -/
def refHd (l : List UInt8) : Option (List Ten × Nat) := if 16384 < l.length then none else match begunB l with
  | none => none
  | some (a, m, n) => match hdGo l a 0 m [] with
    | none => none
    | some L => bif isTy L n 3 then some (L, n) else none
def GivesRF (bp : Option Addr) (bc : Nat) (l : List UInt8) (w : World) (e : Ending) (w' : World) : Prop := Below w.heap.size w w' ∧ ∃ F, e = .returned (filP F) ∧ ((refHd l = none ∧ w'.cell? ⟨F, 3, none⟩ = some (.bool false)) ∨
  ∃ (L : List Ten) (n : Nat) (hp : Option Addr) (hc : Nat), refHd l = some (L, n) ∧ w'.cell? ⟨F, 3, none⟩ = some (.bool true) ∧ w'.cell? ⟨F, 2, none⟩ = some (.int .i64 (n : Int)) ∧ RFile w' F bp bc l hp hc L ∧ isTy L n 3 = true)
theorem cells4 (w : World) (g : Nat) (v0 v1 v2 v3 : Value) (T : TypeId) (h : w.heap[g]? = some (.cells #[v0, v1, v2, v3] T (0, 0))) :
    (w.cell? ⟨g, 0, none⟩ = some v0 ∧ w.cell? ⟨g, 1, none⟩ = some v1 ∧ w.cell? ⟨g, 2, none⟩ = some v2 ∧ w.cell? ⟨g, 3, none⟩ = some v3) ∧
    (w.frozen? ⟨g, 0, none⟩ = false ∧ w.frozen? ⟨g, 1, none⟩ = false ∧ w.frozen? ⟨g, 2, none⟩ = false ∧ w.frozen? ⟨g, 3, none⟩ = false) := by
  refine ⟨⟨?_, ?_, ?_, ?_⟩, ?_, ?_, ?_, ?_⟩
  all_goals first | exact (cell_of_row w g _ _ _ (0, 0) h).trans rfl | exact frozen_of_row w g _ _ _ h | fail
theorem Tryz.infoRefHead : (Tryz.prog.info? 54).map (fun i => (i.zero, i.size, i.bytes)) = some (some (.agg #[.int .i64 0, .int .i64 0, .int .i64 0, .int .i64 0, .int .i64 0, .int .i64 0, .int .i64 0, .int .i64 0, .int .i64 0, .int .i64 0]), 10, 80) := by kernel_rfl
/-- Does the reference turn header i away, by what it tells of bytes? By its type? -/
def badA (n i : Nat) (t : Ten) : Bool := decide (0 < i) && ((t.d != 0) || ((t.b != 8) && decide ((n : Int) < t.e + t.f)))
def badB (i : Nat) (t : Ten) : Bool := decide (0 < i) && ((t.b != 8) && !tyOK t.b)
def badC (i : Nat) (t : Ten) : Bool := (i == 0) && !zeroT t
theorem headMay_bad (n i : Nat) (t : Ten) : headMay n i t = (!badC i t && (!badA n i t && !badB i t)) := by
  unfold headMay badA badB badC
  cases i with
  | zero => cases zeroT t <;> simp
  | succ j =>
    have h0 : decide (0 < j + 1) = true := by simp
    have h1 : (j + 1 == 0) = false := by simp
    rw [h0, h1]
    cases h8 : (t.b == 8) with
    | true => cases hd : (t.d == 0) <;> simp [bne, h8, hd]
    | false =>
      have e : decide (t.e + t.f ≤ (n : Int)) = !decide ((n : Int) < t.e + t.f) := by
        by_cases h : (n : Int) < t.e + t.f
        · rw [decide_eq_true h, decide_eq_false (by omega)]; rfl
        · rw [decide_eq_false h, decide_eq_true (by omega)]; rfl
      cases hd : (t.d == 0) <;> cases ht : tyOK t.b <;> cases hl : decide ((n : Int) < t.e + t.f) <;> simp [bne, h8, hd, hl, e]
theorem below_setNew {F : Nat} {w w' : World} {g i : Nat} (h : Below F w w') (hg : F ≤ g) (v : Value) : Below F w (w'.setCell ⟨g, i, none⟩ v) :=
  ⟨h.os, h.tape, h.output, by simpa using h.size, fun k hk => by
    rw [heap_setCell_other w' ⟨g, i, none⟩ k v (by simp; omega)]
    exact h.block k hk⟩
/-- A file of which its number and its flag are written. -/
theorem file_set {w : World} {F : Nat} {v0 v1 : Value} (n : Int) (h : w.heap[F]? = some (.cells #[v0, v1, .int .i64 0, .bool false] 68 (0, 0))) :
    ((w.setCell ⟨F, 2, none⟩ (.int .i64 n)).setCell ⟨F, 3, none⟩ (.bool true)).heap[F]? = some (.cells #[v0, v1, .int .i64 n, .bool true] 68 (0, 0)) ∧ FrT 0 [68] w ((w.setCell ⟨F, 2, none⟩ (.int .i64 n)).setCell ⟨F, 3, none⟩ (.bool true)) := by
  have h2 := heap_setCell_same w F 2 _ _ (.int .i64 n) h
  have h3 := heap_setCell_same _ F 3 _ _ (.bool true) h2
  exact ⟨h3, (FrT.set h (by simp) (Nat.zero_le _) _).trans (FrT.set h2 (by simp) (Nat.zero_le _) _)⟩
/-- What the reference's Section tells, with a letter for what it tells and whether it does. -/
theorem sect_let (o : Option Ten) : ∃ (t : Ten) (ok : Bool), sectV o = (t.v, ok) ∧ (ok = true → o = some t) ∧ (ok = false → o = none) := by
  cases o with
  | none => exact ⟨ten0, false, rfl, (fun h => by cases h), fun _ => rfl⟩
  | some t => exact ⟨t, true, rfl, (fun _ => rfl), fun h => by cases h⟩

set_option maxRecDepth 100000 in
set_option maxHeartbeats 8000000 in
theorem rRead_any (bp : Option Addr) (bc : Nat) (l : List UInt8) (w : World) (ht : Has w bp l) (h1 : l.length ≤ bc) (h2 : bc ≤ maxLen) (h3 : bp = none → bc = 0) (hbig : l.length ≤ 100000) :
    Calls Tryz.prog 24 #[.slice bp l.length bc] w (GivesRF bp bc l w) := by
  obtain ⟨i0, hi, hz0, hz1, hz2⟩ := info_parts Tryz.infoRefHead
  have HI := Lib.hid hi
  have H0 := Lib.hid hz0
  have H1 := Lib.hid hz1
  have H2 := Lib.hid hz2
  have HBG := Lib.hid fun W (hW : Below w.heap.size w W) => begun_any bp l.length bc l W (ht.below hW) rfl h1 h2
  have HSC := Lib.hid fun W (hW : Below w.heap.size w W) (a : Int) (ha : a ≤ 9223372036854775807) => tsection_any bp l.length bc l a W (ht.below hW) rfl h1 (by omega) ha
  have HHAS := Lib.hid ht
  have H3 := Lib.hid h3
  have hb1 : Below w.heap.size w (w.alloc (.cells #[.slice bp l.length bc, .slice none 0 0, .int .i64 0, .bool false] 68)) := (Below.refl _ w).alloc (Nat.le_refl _) _
  have hF1 := heap_alloc_new w (.cells #[.slice bp l.length bc, .slice none 0 0, .int .i64 0, .bool false] 68)
  have hs1 : (w.alloc (.cells #[.slice bp l.length bc, .slice none 0 0, .int .i64 0, .bool false] 68)).heap.size = w.heap.size + 1 := by simp
  have HG : Hid (GivesRF bp bc l w = fun e w' => Below w.heap.size w w' ∧ ∃ F, e = .returned (filP F) ∧ ((refHd l = none ∧ w'.cell? ⟨F, 3, none⟩ = some (.bool false)) ∨
    ∃ (L : List Ten) (n : Nat) (hp : Option Addr) (hc : Nat), refHd l = some (L, n) ∧ w'.cell? ⟨F, 3, none⟩ = some (.bool true) ∧ w'.cell? ⟨F, 2, none⟩ = some (.int .i64 (n : Int)) ∧ RFile w' F bp bc l hp hc L ∧ isTy L n 3 = true)) := Lib.hid rfl
  have hrf : refHd l = if 16384 < l.length then none else match begunB l with
    | none => none
    | some (a, m, n) => match hdGo l a 0 m [] with
      | none => none
      | some L => bif isTy L n 3 then some (L, n) else none := rfl
  rw [HG.out]
  clear HG
  generalize refHd l = res at *
  have HRF := Lib.hid hrf
  have HS1 := Lib.hid hs1
  clear hi hz0 hz1 hz2 ht hrf hs1 h3
  go_enter Tryz.func24, Tryz.ntmps24
  go_upto_region 2 with fail
  generalize w.alloc (.cells #[.slice bp l.length bc, .slice none 0 0, .int .i64 0, .bool false] 68) = W1 at *
  have hFl : w.heap.size < W1.heap.size := by rw [HS1.out]; omega
  generalize hF : w.heap.size = F at *
  have hbg := HBG.out W1 hb1
  unfold begunOut at hbg
  have hrf := HRF.out
  cases hbe : begunB l with
  | none =>
    rw [hbe] at hbg hrf
    have HBX := Lib.hid hbg
    have hE : Hid (res = none) := Lib.hid (by rw [hrf]; split <;> rfl)
    obtain ⟨⟨c0, c1, c2, c3⟩, _⟩ := cells4 _ _ _ _ _ _ _ hF1
    clear hbg hrf hbe HRF HBG HSC hF1
    go_upto_region 3 with (first | (go_at_call 55; refine HBX.out.mono ?_; rintro e w2 ⟨rfl, hb2⟩) | fail)
    have c3' := cell_later hb2 c3
    clear c0 c1 c2 c3
    go_wp2_with fail
    go_ret
    subst hF
    exact ⟨hb1.trans (hb2.mono hb1.size), w.heap.size, rfl, .inl ⟨hE.out, c3'⟩⟩
  | some x =>
    obtain ⟨a, m, n⟩ := x
    rw [hbe] at hbg hrf
    simp only at hbg hrf
    have HBX := Lib.hid hbg
    obtain ⟨⟨ha0, ha1, hm1, hm2, hn1, hn2⟩, _⟩ := (begunB_iff l a m n).1 hbe
    have HRF2 := Lib.hid hrf
    clear hbg hrf hbe HRF HBG
    go_upto_region 3 with (first | (go_at_call 55; refine HBX.out.mono ?_; rintro e w2 ⟨rfl, hb2⟩) | fail)
    have hF2 := FrT.heap (N := 0) (Ts := []) (FrT.of_below hb2) hF1 (by simp)
    have hbw2 : Below F w w2 := hb1.trans (hb2.mono (by omega))
    have hFl2 : F < w2.heap.size := by have := hb2.size; omega
    clear hb2 hF1 HBX
    by_cases hbl : 16384 < l.length
    · have hI : decide ((16384 : Int) < (l.length : Int)) = true := decide_eq_true (by omega)
      have hE : Hid (res = none) := Lib.hid (by rw [HRF2.out, if_pos hbl])
      obtain ⟨⟨c0, c1, c2, c3⟩, _⟩ := cells4 _ _ _ _ _ _ _ hF2
      go_wp2_with fail
      go_ret
      exact ⟨by first | exact hbw2 | (rw [hF]; exact hbw2), F, rfl, .inl ⟨hE.out, c3⟩⟩
    have hI : decide ((16384 : Int) < (l.length : Int)) = false := decide_eq_false (by omega)
    have HE : Hid (res = match hdGo l a 0 m [] with
      | none => none
      | some L => bif isTy L n 3 then some (L, n) else none) := Lib.hid (by rw [HRF2.out, if_neg hbl])
    have HF2 := Lib.hid hF2
    have HBW2 := Lib.hid hbw2
    clear hF2 hbw2 HRF2 hb1 HS1 hFl
    go_wp2_with fail
    go_loopw [8, 9, 10, 11] (fun r8 _ _ _ wr => ∃ (k : Nat) (acc : List Ten) (v : Value), k ≤ m ∧ r8 = .int .i64 (k : Int) ∧ hdGo l a 0 m [] = hdGo l a k (m - k) acc ∧ HeadsOK l.length acc ∧ acc.length = k ∧ wr.heap[F]? = some (.cells #[.slice bp l.length bc, v, .int .i64 0, .bool false] 68 (0, 0)) ∧ wr.ownsRow F 54 10 v acc.length (tensV acc) ∧ Below F w wr ∧ F < wr.heap.size) (fun r8 _ _ _ _ => m - (intOf r8).toNat)
    case atStart => exact ⟨0, [], _, Nat.zero_le _, rfl, rfl, (fun i t h => by simp at h), rfl, HF2.out, World.ownsRow_nil _ _ _ _, HBW2.out, hFl2⟩
    case round =>
      obtain ⟨k, acc, v, hk, rfl, hgo, hok, hal, hFr, hown, hbr, hFs⟩ := hrel
      have HGO := Lib.hid hgo
      have HOK := Lib.hid hok
      have HOWN := Lib.hid hown
      have HFr := Lib.hid hFr
      clear hgo hok hown
      by_cases hlt : k < m
      · have HSK := Lib.hid (HSC.out wr hbr ((a : Int) + 64 * (k : Int)) (by omega))
        have hgs : hdGo l a k (m - k) acc = match sectAt l ((a : Int) + 64 * (k : Int)) with
          | none => none
          | some t => bif headMay l.length k t then hdGo l a (k + 1) (m - (k + 1)) (acc ++ [t]) else none := by
          rw [show m - k = (m - (k + 1)) + 1 by omega]
          rfl
        have HGS := Lib.hid hgs
        have HMT := Lib.hid fun t (h : sectAt l ((a : Int) + 64 * (k : Int)) = some t) => sectAt_may h
        obtain ⟨t, ok, hsv, hok1, hok0⟩ := sect_let (sectAt l ((a : Int) + 64 * (k : Int)))
        rw [hsv] at HSK
        have HSK2 : Hid (Calls Tryz.prog 56 #[.slice bp l.length bc, .int .i64 ((a : Int) + 64 * (k : Int))] wr fun e w' => e = .returned (.tuple #[.agg #[.int .i64 t.a, .int .i64 t.b, .int .i64 t.c, .int .i64 t.d, .int .i64 t.e, .int .i64 t.f, .int .i64 t.g, .int .i64 t.h, .int .i64 t.i, .int .i64 t.j], .bool ok]) ∧ Below wr.heap.size wr w') := HSK
        have HOK1 := Lib.hid hok1
        have HOK0 := Lib.hid hok0
        have hJ : (k : Int) < (m : Int) := by omega
        have k1 : IntKind.i64.wrap (64 * (k : Int)) = 64 * (k : Int) := IntWalk.i64_in _ (by omega)
        have k2 : IntKind.i64.wrap ((a : Int) + 64 * (k : Int)) = (a : Int) + 64 * (k : Int) := IntWalk.i64_in _ (by omega)
        clear hgs hsv hok1 hok0 HSK hFr
        go_upto_region 9 with (first | (go_at_call 56; refine HSK2.out.mono ?_; rintro e w3 ⟨rfl, hb3⟩) | fail)
        have hb4 : Below wr.heap.size wr (w3.alloc (.cells #[.int .i64 t.a, .int .i64 t.b, .int .i64 t.c, .int .i64 t.d, .int .i64 t.e, .int .i64 t.f, .int .i64 t.g, .int .i64 t.h, .int .i64 t.i, .int .i64 t.j] 54)) := hb3.alloc hb3.size _
        have hgh := heap_alloc_new w3 (.cells #[.int .i64 t.a, .int .i64 t.b, .int .i64 t.c, .int .i64 t.d, .int .i64 t.e, .int .i64 t.f, .int .i64 t.g, .int .i64 t.h, .int .i64 t.i, .int .i64 t.j] 54)
        have hF4 := FrT.heap (N := 0) (Ts := []) (FrT.of_below hb4) HFr.out (by simp)
        have hown4 := owns_belowN HOWN.out hb4
        have hbr4 : Below F w _ := hbr.trans (hb4.mono (by omega))
        have hFs4 := Nat.lt_of_lt_of_le hFs hb4.size
        generalize w3.alloc (.cells #[.int .i64 t.a, .int .i64 t.b, .int .i64 t.c, .int .i64 t.d, .int .i64 t.e, .int .i64 t.f, .int .i64 t.g, .int .i64 t.h, .int .i64 t.i, .int .i64 t.j] 54) = w4 at *
        generalize w3.heap.size = g at *
        have HGH := Lib.hid hgh
        have HF4 := Lib.hid hF4
        have HO4 := Lib.hid hown4
        have HB4 := Lib.hid hbr4
        obtain ⟨x0, x1, x2, x3, x4, x5, x6, x7, x8, x9⟩ := cells_ten _ _ _ _ _ _ _ _ _ _ _ _ _ hgh
        obtain ⟨⟨c0, c1, c2, c3⟩, _⟩ := cells4 _ _ _ _ _ _ _ hF4
        clear hb3 hb4 hgh hF4 hown4 hbr4 hbr HFr HOWN HSK2 hFs
        cases ok with
        | false =>
          have hE2 : Hid (res = none) := Lib.hid (by rw [HE.out, HGO.out, HGS.out, HOK0.out rfl])
          go_wp2_with fail
          go_ret
          exact ⟨by first | exact HB4.out | (rw [hF]; exact HB4.out), F, rfl, .inl ⟨hE2.out, c3⟩⟩
        | true =>
          have hsa := HOK1.out rfl
          have hmt := HMT.out t hsa
          have he := (fitsB_iff _).1 (hmt t.e (by simp [Ten.l]))
          have hff := (fitsB_iff _).1 (hmt t.f (by simp [Ten.l]))
          have hgs2 := HGS.out
          rw [hsa] at hgs2
          have hgs3 : hdGo l a k (m - k) acc = bif headMay l.length k t then hdGo l a (k + 1) (m - (k + 1)) (acc ++ [t]) else none := hgs2
          rw [headMay_bad] at hgs3
          have hq : headMay l.length k t = (!badC k t && (!badA l.length k t && !badB k t)) := headMay_bad _ _ _
          have hbA : badA l.length k t = (decide (0 < k) && ((t.d != 0) || ((t.b != 8) && decide ((l.length : Int) < t.e + t.f)))) := rfl
          have hbB : badB k t = (decide (0 < k) && ((t.b != 8) && !tyOK t.b)) := rfl
          have hbC : badC k t = ((k == 0) && !zeroT t) := rfl
          generalize badA l.length k t = qa at *
          generalize badB k t = qb at *
          generalize badC k t = qc at *
          have HA := Lib.hid hbA
          have HB := Lib.hid hbB
          have HC := Lib.hid hbC
          have HQ := Lib.hid hq
          have HGS3 := Lib.hid hgs3
          have kef : IntKind.i64.wrap (t.e + t.f) = t.e + t.f := IntWalk.i64_in _ (by omega)
          clear hsa hgs2 hgs3 hq hbA hbB hbC HGS HOK0 HOK1 HMT he hff
          go_cut [55] (fun s55 wx => s55 = .bool qc ∧ w4 = wx)
          case first =>
            by_cases hk0 : k = 0
            · subst hk0
              have hE2 : Hid (qc = !zeroT t) := Lib.hid (by rw [HC.out]; rfl)
              clear HC HA HB HQ HGS3
              go_wp2_with fail
              all_goals go_meet
              all_goals refine ⟨?_, by trivial⟩
              all_goals simp [hE2.out, zeroT, *]
            · have hk0b : ((k : Int) == 0) = false := by simp; omega
              obtain rfl : qc = false := by rw [HC.out, show (k == 0) = false by simpa using hk0]; rfl
              clear HC HA HB HQ HGS3
              go_wp2_with fail
              go_meet
              exact ⟨rfl, rfl⟩
          case rest =>
            obtain ⟨rfl, rfl⟩ := hcut
            cases qc with
            | true =>
              have hE2 : Hid (res = none) := Lib.hid (by rw [HE.out, HGO.out, HGS3.out]; rfl)
              go_wp2_with fail
              go_ret
              exact ⟨by first | exact HB4.out | (rw [hF]; exact HB4.out), F, rfl, .inl ⟨hE2.out, c3⟩⟩
            | false =>
              go_upto_region 11 with fail
              go_cut [78] (fun s78 wx => s78 = .bool qa ∧ w4 = wx)
              case first =>
                by_cases hk0 : k = 0
                · subst hk0
                  obtain rfl : qa = false := by rw [HA.out]; rfl
                  clear HA HB HQ HGS3
                  go_wp2_with fail
                  go_meet
                  exact ⟨rfl, rfl⟩
                · have hk0b : decide ((0 : Int) < (k : Int)) = true := decide_eq_true (by omega)
                  have hA2 := HA.out
                  rw [show decide (0 < k) = true from decide_eq_true (by omega)] at hA2
                  have HA2 := Lib.hid hA2
                  clear hA2 HA HB HQ HGS3
                  cases hd : (t.d != 0) with
                  | true =>
                    obtain rfl : qa = true := by rw [HA2.out, hd]; rfl
                    go_wp2_with fail
                    go_meet
                    exact ⟨rfl, rfl⟩
                  | false =>
                    cases h8 : (t.b != 8) with
                    | false =>
                      obtain rfl : qa = false := by rw [HA2.out, hd, h8]; rfl
                      go_wp2_with fail
                      go_meet
                      exact ⟨rfl, rfl⟩
                    | true =>
                      cases hl : decide ((l.length : Int) < t.e + t.f) with
                      | true =>
                        obtain rfl : qa = true := by rw [HA2.out, hd, h8, hl]; rfl
                        go_wp2_with fail
                        go_meet
                        exact ⟨rfl, rfl⟩
                      | false =>
                        obtain rfl : qa = false := by rw [HA2.out, hd, h8, hl]; rfl
                        go_wp2_with fail
                        go_meet
                        exact ⟨rfl, rfl⟩
              case rest =>
                obtain ⟨rfl, rfl⟩ := hcut
                cases qa with
                | true =>
                  have hE2 : Hid (res = none) := Lib.hid (by rw [HE.out, HGO.out, HGS3.out]; rfl)
                  go_wp2_with fail
                  go_ret
                  exact ⟨by first | exact HB4.out | (rw [hF]; exact HB4.out), F, rfl, .inl ⟨hE2.out, c3⟩⟩
                | false =>
                  clear HA
                  go_upto_region 14 with fail
                  go_cut [111] (fun s111 wx => s111 = .bool qb ∧ w4 = wx)
                  case first =>
                    by_cases hk0 : k = 0
                    · subst hk0
                      obtain rfl : qb = false := by rw [HB.out]; rfl
                      clear HB HQ HGS3 HC
                      go_wp2_with fail
                      go_meet
                      exact ⟨rfl, rfl⟩
                    · have hk0b : decide ((0 : Int) < (k : Int)) = true := decide_eq_true (by omega)
                      have hB2 := HB.out
                      rw [show decide (0 < k) = true from decide_eq_true (by omega)] at hB2
                      have HB2 := Lib.hid hB2
                      clear hB2 HB HQ HGS3 HC
                      generalize t.b = ty at *
                      cases h8 : (ty != 8) with
                      | false =>
                        obtain rfl : ty = 8 := by simpa [bne] using h8
                        obtain rfl : qb = false := by rw [HB2.out]; rfl
                        clear h8
                        go_wp2_with fail
                        go_meet
                        exact ⟨rfl, rfl⟩
                      | true =>
                        cases hty : tyOK ty with
                        | true =>
                          obtain rfl : qb = false := by rw [HB2.out, h8, hty]; rfl
                          have h6 : ty = 1 ∨ ty = 2 ∨ ty = 3 ∨ ty = 4 ∨ ty = 17 ∨ ty = 1879002115 := by
                            unfold tyOK at hty
                            simpa using hty
                          clear hty h8 HB2
                          rcases h6 with rfl | rfl | rfl | rfl | rfl | rfl
                          all_goals go_wp2_with fail
                          all_goals go_meet
                          all_goals exact ⟨rfl, rfl⟩
                        | false =>
                          obtain rfl : qb = true := by rw [HB2.out, h8, hty]; rfl
                          unfold tyOK at hty
                          simp only [Bool.or_eq_false_iff] at hty
                          obtain ⟨f1, f2, f3, f4, f5, f6⟩ := hty
                          have g1 : (ty != 1) = true := by unfold bne; rw [f1]; rfl
                          have g2 : (ty != 2) = true := by unfold bne; rw [f2]; rfl
                          have g3 : (ty != 3) = true := by unfold bne; rw [f3]; rfl
                          have g4 : (ty != 4) = true := by unfold bne; rw [f4]; rfl
                          have g5 : (ty != 17) = true := by unfold bne; rw [f5]; rfl
                          have g6 : (ty != 1879002115) = true := by unfold bne; rw [f6]; rfl
                          clear f1 f2 f3 f4 f5 f6 HB2
                          go_wp2_with fail
                          go_meet
                          exact ⟨rfl, rfl⟩
                  case rest =>
                    obtain ⟨rfl, rfl⟩ := hcut
                    cases qb with
                    | true =>
                      have hE2 : Hid (res = none) := Lib.hid (by rw [HE.out, HGO.out, HGS3.out]; rfl)
                      go_wp2_with fail
                      go_ret
                      exact ⟨by first | exact HB4.out | (rw [hF]; exact HB4.out), F, rfl, .inl ⟨hE2.out, c3⟩⟩
                    | false =>
                      have HQT : Hid (headMay l.length k t = true) := Lib.hid HQ.out
                      have HSK : Hid (hdGo l a 0 m [] = hdGo l a (k + 1) (m - (k + 1)) (acc ++ [t])) := Lib.hid (by rw [HGO.out, HGS3.out]; rfl)
                      clear HB HC HQ HGS3 HGO
                      go_upto_region 16 with fail
                      have hown4 := HO4.out
                      rw [hal] at hown4
                      have hF5 := FrT.heap (N := 0) (Ts := []) (FrT.of_below (((Below.refl _ w4).alloc (Nat.le_refl _) (.cells #[.int .i64 t.a, .int .i64 t.b, .int .i64 t.c, .int .i64 t.d, .int .i64 t.e, .int .i64 t.f, .int .i64 t.g, .int .i64 t.h, .int .i64 t.i, .int .i64 t.j] 54)).drew)) HF4.out (by simp)
                      have c1a := cell_later ((Below.refl _ w4).alloc (Nat.le_refl _) (.cells #[.int .i64 t.a, .int .i64 t.b, .int .i64 t.c, .int .i64 t.d, .int .i64 t.e, .int .i64 t.f, .int .i64 t.g, .int .i64 t.h, .int .i64 t.i, .int .i64 t.j] 54)) c1
                      have hb5 : Below F w ((w4.alloc (.cells #[.int .i64 t.a, .int .i64 t.b, .int .i64 t.c, .int .i64 t.d, .int .i64 t.e, .int .i64 t.f, .int .i64 t.g, .int .i64 t.h, .int .i64 t.i, .int .i64 t.j] 54)).drew) := HB4.out.trans (((Below.refl _ w4).alloc (Nat.le_refl _) _).drew.mono (by omega))
                      go_region_law (first
                        | (refine step_append_lies _ (by rfl) _ _ _ (by rfl) F 54 i0 _ 10 80 Tryz.underlying66 HI.out H0.out H1.out H2.out rfl (by decide) _ k _ (by rfl) ((hown4.alloc _).drew) ⟨w4.heap.size, 0, none⟩ 1 1 (t.l.map (Value.int .i64)) (by rfl) (by rfl) (ten_cell_at w4 #[.int .i64 t.a, .int .i64 t.b, .int .i64 t.c, .int .i64 t.d, .int .i64 t.e, .int .i64 t.f, .int .i64 t.g, .int .i64 t.h, .int .i64 t.i, .int .i64 t.j] 54) (map_int_one t.l) (by omega) (by unfold maxLen; omega) (by omega) (by simp; omega) _ rfl ?_
                           intro g3 cap3 w5 hown5 hgrow5 _ _
                           have hfg : FrT 0 [54] _ w5 := FrT.grown ((hown4.alloc _).drew) hgrow5 (by simp) (Nat.zero_le _)
                           have hF6 := hfg.heap hF5 (by decide)
                           have hb6 : Below F w w5 := hb5.grown hgrow5 (by simp; omega) (fun g hg => (((hown4.alloc (.cells #[.int .i64 t.a, .int .i64 t.b, .int .i64 t.c, .int .i64 t.d, .int .i64 t.e, .int .i64 t.f, .int .i64 t.g, .int .i64 t.h, .int .i64 t.i, .int .i64 t.j] 54)).drew).lt g hg).1)
                           obtain ⟨⟨e0, e1, e2, e3⟩, z0, z1, z2, z3⟩ := cells4 _ _ _ _ _ _ _ hF6
                           rw [← tensV_snoc] at hown5)
                        | fail)
                      all_goals
                        have hf7 : FrT 0 [68] w5 (w5.setCell ⟨F, 1, none⟩ (.slice (some ⟨g3, 0, none⟩) (k + 1) cap3)) := FrT.set hF6 (by simp) (Nat.zero_le _) _
                        have HF7 : Hid ((w5.setCell ⟨F, 1, none⟩ (.slice (some ⟨g3, 0, none⟩) (k + 1) cap3)).heap[F]? = some (.cells #[.slice bp l.length bc, .slice (some ⟨g3, 0, none⟩) (k + 1) cap3, .int .i64 0, .bool false] 68 (0, 0))) := Lib.hid (heap_setCell_same w5 F 1 _ _ (.slice (some ⟨g3, 0, none⟩) (k + 1) cap3) hF6)
                        have HO7 := Lib.hid (hf7.owns hown5 (by decide))
                        have HB7 : Hid (Below F w (w5.setCell ⟨F, 1, none⟩ (.slice (some ⟨g3, 0, none⟩) (k + 1) cap3))) := Lib.hid (below_setNew hb6 (by first | exact Nat.le_refl _ | fail) _)
                        have hs7 : F < (w5.setCell ⟨F, 1, none⟩ (.slice (some ⟨g3, 0, none⟩) (k + 1) cap3)).heap.size := by
                          have h5 := (Array.getElem?_eq_some_iff.1 hF6).1
                          simpa using h5
                        have HS7 := Lib.hid hs7
                        have hk8 : (acc ++ [t]).length = k + 1 := by rw [List.length_append, hal]; rfl
                        clear hf7 hb5 hF5 c1a hown4 hown5 hgrow5 hfg hF6 hb6 hs7 x0 x1 x2 x3 x4 x5 x6 x7 x8 x9 c0 c1 c2 c3
                        go_wp2_with fail
                        go_roundw
                        case rel => exact ⟨k + 1, acc ++ [t], _, hlt, by go_num, HSK.out, HOK.out.snoc hmt (by rw [hal]; exact HQT.out), hk8, HF7.out, by rw [hk8]; exact HO7.out, HB7.out, HS7.out⟩
                        case measure => simp [intOf]; omega
      · obtain rfl : k = m := by omega
        have hJ : ¬ (k : Int) < (k : Int) := by omega
        have hgo2 : hdGo l a 0 k [] = some acc := by rw [HGO.out, Nat.sub_self]; rfl
        have hE3 := HE.out
        rw [hgo2] at hE3
        have hE4 : Hid (res = bif isTy acc n 3 then some (acc, n) else none) := Lib.hid hE3
        obtain ⟨hp, hc, rfl, q1, q2, q3, hLh⟩ := tens_has HOWN.out
        obtain ⟨⟨c0, c1, c2, c3⟩, f0, f1, f2, f3⟩ := cells4 _ _ _ _ _ _ _ HFr.out
        have hRF : RFile wr F bp bc l hp hc acc := ⟨c0, c1, HHAS.out.below (by rw [hF]; exact hbr), hLh, h1, h2, H3.out, by omega, by omega, HOK.out⟩
        have HIS := Lib.hid (rIs_any F n 3 bp bc l hp hc acc wr hRF (by decide))
        have HRFW := Lib.hid hRF
        have hnl : n < acc.length := by omega
        clear hgo2 hE3 hRF hLh
        generalize hty : isTy acc n 3 = ty at *
        have HTY := Lib.hid hty
        cases ty with
        | false =>
          have hE5 : Hid (res = none) := Lib.hid hE4.out
          go_wp2_with fail
          refine HIS.out.mono ?_
          rintro e w6 ⟨rfl, rfl⟩
          go_wp2_with fail
          go_ret
          exact ⟨by first | exact hbr | (rw [hF]; exact hbr), F, rfl, .inl ⟨hE5.out, c3⟩⟩
        | true =>
          have hE5 : Hid (res = some (acc, n)) := Lib.hid hE4.out
          have hst := file_set (n : Int) HFr.out
          have HST := Lib.hid hst
          go_wp2_with fail
          refine HIS.out.mono ?_
          rintro e w6 ⟨rfl, rfl⟩
          go_wp2_with fail
          go_ret
          obtain ⟨h6, h7⟩ := HST.out
          have hbw : Below F w _ := below_setNew (below_setNew hbr (Nat.le_refl _) (i := 2) (.int .i64 (n : Int))) (Nat.le_refl _) (i := 3) (.bool true)
          obtain ⟨⟨d0, d1, d2, d3⟩, _⟩ := cells4 _ _ _ _ _ _ _ h6
          refine ⟨by first | exact hbw | (rw [hF]; exact hbw), F, rfl, .inr ⟨acc, n, hp, hc, hE5.out, d3, d2, ⟨d0, d1, HHAS.out.below (by rw [hF]; exact hbw), ?_, h1, h2, H3.out, by omega, by omega, HOK.out⟩, HTY.out⟩⟩
          obtain ⟨p', c', e', _, _, _, hh'⟩ := tens_has (h7.owns HOWN.out (by decide))
          cases e'
          exact hh'
end Go.Proofs.YtenmcmnhiejbgaaGreat
