/-
  Images that are read: contract of the project's readHead.
-/
import Derived.Test.YtjhohbgehpddpaaExecA
import Derived.Test.YtjhohbgehpddpaaMem
import Derived.Test.YtjhohbgehpddpaaRegion
import Derived.Deep.RegionHeld3
namespace Go.Proofs.Ytjhohbgehpddpaa
open Go.RowKit

/-- The first 64 bytes of an image, but for two numbers. -/
def xHead : List UInt8 := [127, 69, 76, 70, 2, 1, 1, 0, 0, 0, 0, 0, 0, 0, 0, 0, 2, 0, 62, 0, 1, 0, 0, 0, 0, 0, 0, 0, 0, 0, 0, 0, 64, 0, 0, 0, 0, 0, 0, 0, 0, 0, 0, 0, 0, 0, 0, 0, 0, 0, 0, 0, 64, 0, 56, 0, 0, 0, 0, 0, 0, 0, 0, 0]
def xFirst (l : List UInt8) : List UInt8 := layB (layB (l.take 64) 24 8 0) 56 2 0
def xMany (l : List UInt8) : Nat := num (win l 56 2)
def xFit (l : List UInt8) : Bool := decide (64 ≤ l.length) && (nOK l 24 && (decide (xMany l ≤ 16) && decide (64 + 56 * xMany l ≤ l.length)))
def xHeadOK (l : List UInt8) : Bool := xFit l && ((str (xFirst l)).toList == xHead)
/-- What readHead tells. -/
def XHeadIs (l : List UInt8) (w : World) (e : Ending) (w' : World) : Prop := ∃ a m : Int, e = .returned (.tuple #[.int .i64 a, .int .i64 m, .bool (xHeadOK l)]) ∧ (xHeadOK l = true → a = (nAt l 24 : Int) ∧ m = (xMany l : Int)) ∧ Below w.heap.size w w'
set_option maxRecDepth 100000 in
set_option maxHeartbeats 2000000 in
theorem xhead_any (p : Option Addr) (len cap : Nat) (l : List UInt8) (w : World) (h : Has w p l) (hlen : l.length = len) (hcap : len ≤ cap) (hm : cap ≤ maxLen) (hbig : len ≤ 100000) :
    Calls Try.prog 33 #[.slice p len cap] w (XHeadIs l w) := by
  unfold XHeadIs
  by_cases h64 : len < 64
  · have hI : (len : Int) < 64 := by omega
    have hE : Hid (xHeadOK l = false) := Lib.hid (by unfold xHeadOK xFit; rw [hlen, decide_eq_false (by omega)]; rfl)
    clear h hlen
    go_enter Try.func33, Try.ntmps33
    go_wp2_with fail
    rw [hE.out]
    exact bodyPost_ret (v := .tuple #[.int .i64 0, .int .i64 0, .bool false]) (by simp [results, Try.results33, go_sem]) rfl ⟨0, 0, rfl, fun h => (by cases h), Below.refl _ _⟩
  have hI : ¬ (len : Int) < 64 := by omega
  have HN := Lib.hid (number_any p len cap l 24 w h hlen hcap hm (by omega))
  have hf : fitB len (56 : Int) 2 = true := (fitB_iff _ _ _).2 ⟨by omega, by omega, by omega⟩
  have hg : getB l (56 : Int) 2 = xMany l := by unfold getB; rw [hlen, if_pos hf]; rfl
  have hG := get_any p len cap l 56 2 w h hlen hcap hm
  rw [hf, hg] at hG
  have HG := Lib.hid hG
  have hmy : xMany l < 65536 := by have := num_lt (win l 56 2); rw [win_length l 56 2 (by omega)] at this; exact this
  have hE0 : xHeadOK l = ((nOK l 24 && (decide (xMany l ≤ 16) && decide (64 + 56 * xMany l ≤ len))) && ((str (xFirst l)).toList == xHead)) := by
    unfold xHeadOK xFit; rw [hlen, decide_eq_true (by omega), Bool.true_and]
  have hV : Hid (nOK l 24 = true → nV l 24 = nAt l 24) := Lib.hid (fun h => by unfold nV; rw [h]; rfl)
  obtain ⟨b, off, rfl, _⟩ := h.plain (by omega)
  have hs : Has w (some ⟨b, off, none⟩) (l.take 64) := by
    have h0 := h.cut 0 64 cap (by omega) (by omega)
    rw [if_neg (by omega), List.drop_zero] at h0
    simpa [Addr.add] using h0
  have HL1 := Lib.hid (lay_any (some ⟨b, off, none⟩) 64 cap (l.take 64) 24 8 0 w hs (by rw [List.length_take]; omega) (by omega) (fun h => (by cases h)) (by omega) (by omega))
  have hxl : (layB (l.take 64) 24 8 0).length = 64 := by rw [layB_length, List.length_take]; omega
  have HL2 := Lib.hid fun (q : Option Addr) (c : Nat) (W : World) (hq : Has W q (layB (l.take 64) 24 8 0)) (h1 : 64 ≤ c) (h2 : q = none → c = 0) => lay_any q 64 c (layB (l.take 64) 24 8 0) 56 2 0 W hq hxl h1 h2 (by omega) (by omega)
  have hyl : (layB (layB (l.take 64) 24 8 0) 56 2 0).length = 64 := by rw [layB_length]; exact hxl
  have HXL := Lib.hid hxl
  have HYL := Lib.hid hyl
  have hc64 : 64 ≤ cap := by omega
  have hfx : xFirst l = layB (layB (l.take 64) 24 8 0) 56 2 0 := rfl
  rw [hfx] at hE0
  have HE0 := Lib.hid hE0
  generalize hX : layB (l.take 64) 24 8 0 = X at *
  generalize hY : layB X 56 2 0 = Y at *
  generalize hrr : xHeadOK l = R at *
  generalize nV l 24 = V at *
  generalize nAt l 24 = A at *
  generalize xMany l = M at *
  clear h hs hlen hG hg hf hE0 hxl hyl hfx hX hY hrr
  have hM0 : IntKind.i64.wrap (M : Int) = (M : Int) := IntWalk.i64_in _ (by omega)
  cases ho : nOK l 24 with
  | false =>
    rw [ho] at HN HE0
    have hE : Hid (R = false) := Lib.hid (by rw [HE0.out]; rfl)
    clear hV HE0
    go_enter Try.func33, Try.ntmps33
    go_wp2_with fail
    refine HN.out.mono ?_
    rintro e w' ⟨rfl, rfl⟩
    go_wp2_with fail
    refine HG.out.mono ?_
    rintro e w' ⟨rfl, rfl⟩
    go_wp2_with fail
    rw [hE.out]
    exact bodyPost_ret (v := .tuple #[.int .i64 0, .int .i64 0, .bool false]) (by simp [results, Try.results33, go_sem]) rfl ⟨0, 0, rfl, fun h => (by cases h), Below.refl _ _⟩
  | true =>
    rw [ho] at HN HE0 hV
    have hVA : Hid (V = A) := Lib.hid (hV.out rfl)
    by_cases h16 : 16 < M
    · have hJ : (16 : Int) < (M : Int) := by omega
      have hE : Hid (R = false) := Lib.hid (by rw [HE0.out, decide_eq_false (by omega : ¬ M ≤ 16)]; rfl)
      clear hV HE0
      go_enter Try.func33, Try.ntmps33
      go_wp2_with fail
      refine HN.out.mono ?_
      rintro e w' ⟨rfl, rfl⟩
      go_wp2_with fail
      refine HG.out.mono ?_
      rintro e w' ⟨rfl, rfl⟩
      go_wp2_with fail
      rw [hE.out]
      exact bodyPost_ret (v := .tuple #[.int .i64 0, .int .i64 0, .bool false]) (by simp [results, Try.results33, go_sem]) rfl ⟨0, 0, rfl, fun h => (by cases h), Below.refl _ _⟩
    have hJ : ¬ (16 : Int) < (M : Int) := by omega
    have k1 : IntKind.i64.wrap ((M : Int) * 56) = (M : Int) * 56 := IntWalk.i64_in _ (by omega)
    have k2 : IntKind.i64.wrap ((len : Int) - 64) = (len : Int) - 64 := IntWalk.i64_in _ (by omega)
    by_cases hfit : len < 64 + 56 * M
    · have hK : (len : Int) - 64 < (M : Int) * 56 := by omega
      have hE : Hid (R = false) := Lib.hid (by rw [HE0.out, decide_eq_true (by omega : M ≤ 16), decide_eq_false (by omega : ¬ 64 + 56 * M ≤ len)]; rfl)
      clear hV HE0
      go_enter Try.func33, Try.ntmps33
      go_wp2_with fail
      refine HN.out.mono ?_
      rintro e w' ⟨rfl, rfl⟩
      go_wp2_with fail
      refine HG.out.mono ?_
      rintro e w' ⟨rfl, rfl⟩
      go_wp2_with fail
      rw [hE.out]
      exact bodyPost_ret (v := .tuple #[.int .i64 0, .int .i64 0, .bool false]) (by simp [results, Try.results33, go_sem]) rfl ⟨0, 0, rfl, fun h => (by cases h), Below.refl _ _⟩
    have hK : ¬ (len : Int) - 64 < (M : Int) * 56 := by omega
    have hE : Hid (R = ((str Y).toList == xHead)) := Lib.hid (by rw [HE0.out, decide_eq_true (by omega : M ≤ 16), decide_eq_true (by omega : 64 + 56 * M ≤ len)]; rfl)
    clear hV HE0
    go_enter Try.func33, Try.ntmps33
    go_wp2_with fail
    refine HN.out.mono ?_
    rintro e w' ⟨rfl, rfl⟩
    go_wp2_with fail
    refine HG.out.mono ?_
    rintro e w' ⟨rfl, rfl⟩
    go_wp2_with fail
    refine HL1.out.mono ?_
    rintro e w1 ⟨v1, rfl, hown1, hb1⟩
    rw [HXL.out] at hown1
    obtain ⟨q, c, rfl, hc1, _, _, hH1⟩ := Has.of_owns hown1
    have hqn : q = none → c = 0 := by
      rcases hown1.2 with ⟨e, _⟩ | ⟨_, _, _, e, _⟩
      · cases e
      · cases e; exact fun h => by cases h
    have HL := Lib.hid (HL2.out q c w1 hH1 hc1 hqn)
    clear hown1 hH1 hqn
    go_wp2_with fail
    refine HL.out.mono ?_
    rintro e w2 ⟨v2, rfl, hown2, hb2⟩
    rw [HYL.out] at hown2
    obtain ⟨q2, c2, rfl, _, _, _, hH2⟩ := Has.of_owns hown2
    have hbe : Below w.heap.size w w2 := hb1.trans (hb2.mono hb1.size)
    have HCV := Lib.hid fun W (hW : Below w2.heap.size w2 W) => conv_now (cap := c2) (hH2.below hW) HYL.out
    obtain ⟨cc, hcc⟩ : ∃ cc, cc = ((str Y).toList == xHead) := ⟨_, rfl⟩
    rw [← hcc] at hE
    have HQ := Lib.hid hcc
    generalize str Y = sy at *
    clear hown2 hH2 hb1 hb2 hcc
    have HBE := Lib.hid hbe
    go_wp2_with fail
    refine wp_region_below (by kernel_rfl) (by kernel_rfl) ?_
    repeat (go_big_quiet_step (first
      | (intro hWq; have cv := HCV.out _ hWq; go_simp; first | done | rfl | exact ⟨rfl, rfl⟩ | fail)
      | fail))
    refine wpQuiet_nil ?_
    intro wa hwa
    go_wp2_with fail
    rw [hE.out]
    exact bodyPost_ret (v := .tuple #[.int .i64 (V : Int), .int .i64 (M : Int), .bool cc]) (by simp [results, Try.results33, go_sem]; exact HQ.out.symm) rfl ⟨_, _, rfl, fun _ => ⟨by rw [hVA.out], rfl⟩, HBE.out.trans (hwa.mono HBE.out.size)⟩
end Go.Proofs.Ytjhohbgehpddpaa
