/-
  Images of nothing, as the reference writes them: the first 64 bytes.
-/
import Derived.Test.YtjhohbgehpddpaaExecE
import Derived.Test.YtjhohbgehpddpaaHdr
namespace Go.Proofs.Ytjhohbgehpddpaa
open Go.RowKit

abbrev z64 : Value := .int .i64 0
/-- A plan of no sections, whose entry is 7. -/
abbrev planC : Array Value := #[.slice none 0 0, z64, z64, z64, z64, z64, z64, z64, z64, z64, z64, z64, z64, z64, z64, z64, z64, z64, z64, z64, z64, z64, z64, z64, z64, z64, z64, z64, z64, z64, z64, z64, z64, .int .i64 7, z64]
theorem planC_get (k : Nat) (hk : k < 8) : planC[1 + k * 4 + 2]? = some z64 := by
  match k, hk with
  | 0, _ | 1, _ | 2, _ | 3, _ | 4, _ | 5, _ | 6, _ | 7, _ => rfl

def segI (o : Int) : Int := if o < 5 then 0 else if o = 5 then 1 else 2
theorem segment_any (o : Int) (w : World) : Calls Try.prog 49 #[.int .i64 o] w fun e w' => e = .returned (.int .i64 (segI o)) ∧ w = w' := by
  by_cases h : o < 5
  · have hE : Hid (segI o = 0) := Lib.hid (by simp [segI, h])
    go_enter Try.func49, Try.ntmps49
    go_wp2
    go_ret
    rw [hE.out]
    exact ⟨rfl, rfl⟩
  by_cases h5 : o = 5
  · subst h5
    have hE : Hid (segI 5 = 1) := Lib.hid (by rfl)
    go_enter Try.func49, Try.ntmps49
    go_wp2
    go_ret
    rw [hE.out]
    exact ⟨rfl, rfl⟩
  · have hE : Hid (segI o = 2) := Lib.hid (by simp [segI, h, h5])
    have h6 : (o == 5) = false := by simpa using h5
    clear h5
    go_enter Try.func49, Try.ntmps49
    go_wp2
    go_ret
    rw [hE.out]
    exact ⟨rfl, rfl⟩

set_option maxRecDepth 100000 in
set_option maxHeartbeats 2000000 in
theorem full_none (s : Int) (w : World) : Calls Try.prog 42 #[.agg planC, .int .i64 s] w fun e w' => e = .returned (.bool false) ∧ Below w.heap.size w w' := by
  have hg := heap_alloc_new w (.cells planC 75)
  have hb : Below w.heap.size w (w.alloc (.cells planC 75)) := (Below.refl _ w).alloc (Nat.le_refl _) _
  go_enter Try.func42, Try.ntmps42
  go_upto_region 1 with fail
  generalize w.alloc (.cells planC 75) = w1 at *
  generalize hgb : w.heap.size = gb at *
  have HGB := Lib.hid hgb
  clear hgb
  go_wp2_with fail
  go_loop [5] (fun r5 => ∃ k : Nat, k ≤ 8 ∧ r5 = .int .i64 (k : Int)) (fun r5 => 8 - (intOf r5).toNat)
  case atStart => exact ⟨0, Nat.zero_le _, rfl⟩
  case round =>
    obtain ⟨k, hk, rfl⟩ := hrel
    by_cases hlt : k < 8
    · have hI : (k : Int) < 8 := by omega
      have hI0 : (0 : Int) ≤ (k : Int) := by omega
      have hc : w1.cell? ⟨gb, 1 + k * 4 + 2, none⟩ = some z64 := (cell_of_row _ _ _ _ _ (0, 0) hg).trans (planC_get k hlt)
      have HS := Lib.hid fun W => segment_any (k : Int) W
      obtain ⟨t, ht⟩ : ∃ t, t = segI (k : Int) := ⟨_, rfl⟩
      rw [← ht] at HS
      clear ht
      by_cases hts : t = s
      · subst hts
        go_wp2_with fail
        refine (HS.out _).mono ?_
        rintro e w' ⟨rfl, rfl⟩
        go_wp2_with fail
        go_round
        case rel => exact ⟨k + 1, hlt, by go_num⟩
        case measure => simp [intOf]; omega
      · have hne : (t == s) = false := by simpa using hts
        clear hts
        go_wp2_with fail
        refine (HS.out _).mono ?_
        rintro e w' ⟨rfl, rfl⟩
        go_wp2_with fail
        go_round
        case rel => exact ⟨k + 1, hlt, by go_num⟩
        case measure => simp [intOf]; omega
    · have hI : ¬ (k : Int) < 8 := by omega
      go_wp2_with fail
      go_ret
      exact ⟨rfl, by rw [HGB.out]; exact hb⟩

set_option maxRecDepth 100000 in
set_option maxHeartbeats 2000000 in
theorem segs_none (w : World) : Calls Try.prog 35 #[.agg planC] w fun e w' => e = .returned (.slice none 0 0) ∧ Below w.heap.size w w' := by
  have hg := heap_alloc_new w (.cells planC 75)
  have hb : Below w.heap.size w (w.alloc (.cells planC 75)) := (Below.refl _ w).alloc (Nat.le_refl _) _
  have hs : (w.alloc (.cells planC 75)).heap.size = w.heap.size + 1 := by simp
  have HF := Lib.hid fun (s : Int) W => full_none s W
  go_enter Try.func35, Try.ntmps35
  go_upto_region 1 with fail
  generalize w.alloc (.cells planC 75) = w1 at *
  generalize hgb : w.heap.size = gb at *
  have HGB := Lib.hid hgb
  clear hgb
  go_upto_region 5 with fail
  have hbA : Below w1.heap.size w1 (((w1.alloc (.cells #[.int .i64 0, .int .i64 5, .int .i64 6] 3)).alloc (.cells #[.int .i64 4, .int .i64 5, .int .i64 7] 3)).alloc (.cells #[.int .i64 4, .int .i64 5, .int .i64 6] 3)) := (((Below.refl _ w1).alloc (Nat.le_refl _) _).alloc (by simp) _).alloc (by simp; omega) _
  have hg2 := (hbA.block gb (by omega)).trans hg
  have hb2 := hb.trans (hbA.mono (by omega))
  generalize ((w1.alloc (.cells #[.int .i64 0, .int .i64 5, .int .i64 6] 3)).alloc (.cells #[.int .i64 4, .int .i64 5, .int .i64 7] 3)).alloc (.cells #[.int .i64 4, .int .i64 5, .int .i64 6] 3) = w2 at *
  clear hbA hg hb hs
  clear w1
  go_wp2_with fail
  go_loopw [3, 7] (fun r3 r7 wr => ∃ k : Nat, k ≤ 3 ∧ r3 = .slice none 0 0 ∧ r7 = .int .i64 (k : Int) ∧ wr.heap[gb]? = some (.cells planC 75 (0, 0)) ∧ Below gb w wr) (fun _ r7 _ => 3 - (intOf r7).toNat)
  case atStart => exact ⟨0, Nat.zero_le _, rfl, rfl, hg2, hb2⟩
  case round =>
    obtain ⟨k, hk, rfl, rfl, hg, hb⟩ := hrel
    clear hg2 hb2
    by_cases hlt : k < 3
    · have hI : (k : Int) < 3 := by omega
      go_wp2_with (first | (refine wpList_load_row rfl 75 _ rfl gb rfl 75 planC (0, 0) _ hg Try.underlying75 rfl (by kernel_rfl) ?_) | fail)
      refine (HF.out _ _).mono ?_
      rintro e w3 ⟨rfl, hb3⟩
      have hgs : gb < wr.heap.size := (Array.getElem?_eq_some_iff.1 hg).1
      have hg3 := (hb3.block gb hgs).trans hg
      have hbw3 := hb.trans (hb3.mono (by omega))
      clear hg hb hb3
      go_wp2_with fail
      go_roundw
      case rel => exact ⟨k + 1, hlt, rfl, by go_num, hg3, hbw3⟩
      case measure => simp [intOf]; omega
    · have hI : ¬ (k : Int) < 3 := by omega
      go_wp2_with fail
      go_ret
      exact ⟨rfl, by rw [HGB.out]; exact hb⟩

/-- The first 64 bytes of an image. -/
def xbL (a m : Int) : List Int := [2, 2, 62, 2, 1, 4, a, 8, 64, 8, 0, 8, 0, 4, 64, 2, 56, 2, m, 2, 0, 2, 0, 2, 0, 2]
def xbB (a m : Nat) : List UInt8 := ident ++ numsB (xbL a m)
theorem xb_wid (a m : Int) : ∀ (i : Nat) (x : Int), (xbL a m)[2 * i + 1]? = some x → wid x = true := fun i x hx => by
  have hi : i < 13 := by have := (List.getElem?_eq_some_iff.1 hx).1; simp [xbL] at this; omega
  match i, hi, hx with
  | 0, _, hx | 1, _, hx | 2, _, hx | 3, _, hx | 4, _, hx | 5, _, hx | 6, _, hx | 7, _, hx | 8, _, hx | 9, _, hx | 10, _, hx | 11, _, hx | 12, _, hx => simp [xbL] at hx; subst hx; rfl
theorem xb_bd {a m : Int} (h1 : 0 ≤ a ∧ a ≤ 4294967295) (h2 : 0 ≤ m ∧ m ≤ 4294967295) : ∀ (i : Nat) (x : Int), (xbL a m)[i]? = some x → -9223372036854775808 ≤ x ∧ x ≤ 9223372036854775807 := fun i x hx => by
  have := List.mem_of_getElem? hx
  simp only [xbL, List.mem_cons, List.not_mem_nil, or_false] at this
  omega
set_option maxRecDepth 100000 in
set_option maxHeartbeats 1000000 in
theorem xbegin_any (a m : Nat) (w : World) (ha : a ≤ 4294967295) (hm : m ≤ 4294967295) :
    Calls Try.prog 36 #[.int .i64 a, .int .i64 m] w (Gives (xbB a m) w) := by
  obtain ⟨i0, hi, hz0, hz1, hz2⟩ := info_parts Try.infoU8
  have HI := Lib.hid hi
  have H0 := Lib.hid hz0
  have H1 := Lib.hid hz1
  have H2 := Lib.hid hz2
  have HN := Lib.hid fun (W : World) (p : Option Addr) (hp : HasI W p (xbL a m)) => nums_any p 26 26 13 (xbL a m) W hp rfl rfl (by omega) (xb_wid a m) (fun i v hv => xb_bd (by omega) (by omega) i v hv)
  clear hi hz0 hz1 hz2
  go_enter Try.func36, Try.ntmps36
  go_wp2_with fail
  refine (HN.out _ _ (lit_hasI _ _ (xbL a m) _ rfl _ (by simp))).mono ?_
  rintro e w2 ⟨v2, rfl, ho2, hbb2⟩
  obtain ⟨p2, c2, rfl, hn2, hc2, hl2, hH2⟩ := Has.of_owns ho2
  have hb1 : Below w.heap.size w (w.alloc (.cells #[.int .u8 127, .int .u8 69, .int .u8 76, .int .u8 70, .int .u8 2, .int .u8 1, .int .u8 1, .int .u8 0, .int .u8 0, .int .u8 0, .int .u8 0, .int .u8 0, .int .u8 0, .int .u8 0, .int .u8 0, .int .u8 0] 5)) := (Below.refl _ w).alloc (Nat.le_refl _) _
  have hb2 : Below w.heap.size w w2 := (hb1.alloc hb1.size _).trans (hbb2.mono (by simp; omega))
  have hown1 := lit_owns w ident 16 #[.int .u8 127, .int .u8 69, .int .u8 76, .int .u8 70, .int .u8 2, .int .u8 1, .int .u8 1, .int .u8 0, .int .u8 0, .int .u8 0, .int .u8 0, .int .u8 0, .int .u8 0, .int .u8 0, .int .u8 0, .int .u8 0] rfl rfl (by unfold maxLen; omega)
  have hown2 := owns_below (hown1.alloc (.cells (((xbL a m).map (Value.int .i64)).toArray) 3)) hbb2
  obtain ⟨b2, o2, rfl, _⟩ := hH2.plain (by rw [hl2]; exact (show 0 < 48 by omega))
  have HH2 := Lib.hid hH2
  clear ho2 hbb2 hown1 hb1 hl2 hH2
  go_wp2_with (at_builtin; refine wpList_append_own _ rfl _ _ 22 rfl w.heap.size 5 i0 (.int .u8 0) 1 1 Try.underlying22 HI.out H0.out H1.out H2.out rfl (by decide) _ 16 _ rfl hown2 ⟨b2, o2, none⟩ 48 c2 ((numsB (xbL a m)).map u8v) rfl rfl HH2.out.cells (map_oneCell _) (by unfold maxLen; omega) (by omega) hb2.size ?_)
  intro v3 w3 hown3 hgrow _
  have hb3 : Below w.heap.size w w3 := hb2.grown hgrow hb2.size (fun g hg => (hown2.lt g hg).1)
  rw [← List.map_append] at hown3
  clear hgrow hown2 hb2
  go_wp2_with fail
  go_ret
  exact ⟨_, rfl, hown3, hb3⟩
end Go.Proofs.Ytjhohbgehpddpaa
