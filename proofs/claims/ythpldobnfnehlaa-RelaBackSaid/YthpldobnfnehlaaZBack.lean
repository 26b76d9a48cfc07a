/-
  The walk of RelaBack.
-/
import Derived.Test.YthpldobnfnehlaaZTells
namespace Go.Proofs.Ythpldobnfnehlaa
open Go.RowKit

theorem widthI_cases {n : Int} (h : 0 < widthI n) : widthI n = 4 ∨ widthI n = 8 := by
  rcases widthI_pos h with rfl | rfl | rfl | rfl | rfl
  · exact .inr rfl
  · exact .inl rfl
  · exact .inl rfl
  · exact .inl rfl
  · exact .inl rfl
theorem relV_cases (l : List UInt8) (at_ : Int) : (∃ u : Fou, relV (relAt l at_) = (u.v, false)) ∨
    ∃ (a : Nat) (u : Fou), at_ = a ∧ u.may ∧ u.bd ∧ a + 24 ≤ l.length ∧ relB u = win l a 24 ∧ relV (relAt l at_) = (u.v, true) := by
  cases hs : relAt l at_ with
  | none => exact .inl ⟨fou0, rfl⟩
  | some u =>
    have h0 : 0 ≤ at_ := by
      unfold relAt at hs
      split at hs
      · rename_i hc; exact hc.1
      · cases hs
    obtain ⟨a, rfl⟩ := Int.eq_ofNat_of_zero_le h0
    obtain ⟨h1, h2, h3, h4⟩ := (relAt_iff l a u).1 hs
    exact .inr ⟨a, u, rfl, h1, h2, h3, h4, rfl⟩

set_option maxRecDepth 100000 in
set_option maxHeartbeats 4000000 in
theorem zback_walk (hwid : ZWidthOK) (hget : ZGetOK) (hput : ZPutOK) (p : Option Addr) (len cap : Nat) (l : List UInt8) (at_ : Int) (t : Fou) (hd : t.bd) (w : World) (h : Has w p l) (hlen : l.length = len) (hcap : len ≤ cap) (hm : cap ≤ maxLen) (hp : p = none → cap = 0) (ha0 : -9223372036854775808 ≤ at_) (ha1 : at_ ≤ 9223372036854775807) :
    Calls Try.prog 10 #[.slice p len cap, .int .i64 at_, t.v] w fun e w' => e = .returned (.bool true) ∧ Below w.heap.size w w' := by
  have HUP := Lib.hid fun W => zup_any hwid hput W
  have hb0 : Below w.heap.size w (w.alloc (.cells #[.int .i64 t.a, .int .i64 t.b, .int .i64 t.c, .int .i64 t.d] 57)) := (Below.refl _ w).alloc (Nat.le_refl _) _
  by_cases hbig : 10000 < len
  · have hI : (10000 : Int) < (len : Int) := by omega
    clear h hlen hget hput hwid
    go_enter Try.func10, Try.ntmps10
    go_wp2_with fail
    refine (HUP.out _).mono ?_
    rintro e w1 ⟨rfl, hb1⟩
    have hb2 : Below w.heap.size w w1 := hb0.trans (hb1.mono (by simp))
    go_wp2_with fail
    go_ret
    exact ⟨rfl, hb2⟩
  have hI : ¬ (10000 : Int) < (len : Int) := by omega
  have hl10 : len ≤ 10000 := by omega
  have HGA := Lib.hid hget
  have HPA := Lib.hid hput
  have HBD := Lib.hid hd
  have HH := Lib.hid h
  have HL := Lib.hid hlen
  obtain ⟨u, ok, hu, hfact⟩ : ∃ (u : Fou) (ok : Bool), relV (relAt l at_) = (u.v, ok) ∧ (ok = false ∨ ∃ a : Nat, at_ = a ∧ ok = true ∧ a + 24 ≤ len ∧ (widthI u.b = 4 ∨ widthI u.b = 8) ∧ ∀ W, Calls Try.prog 33 #[u.v] W (Str 24 (win l a 24) W)) := by
    rcases relV_cases l at_ with ⟨u, hu⟩ | ⟨a, u, rfl, h1, hbd, h2, h3, h4⟩
    · exact ⟨u, false, hu, .inl rfl⟩
    · refine ⟨u, true, h4, .inr ⟨a, rfl, rfl, by omega, widthI_cases h1.2.2, fun W => ?_⟩⟩
      rw [← h3]
      exact ((hput u W hbd).1 h1).mono fun _ _ x => x.toH.toStr
  have HG := Lib.hid fun W (hb : Below w.heap.size w W) => hget p len cap l at_ W (h.below hb) hlen hcap hm (by omega) ha0 ha1
  rw [hu] at HG
  simp only at HG
  have HF := Lib.hid hfact
  have HWD := Lib.hid fun W => hwid u.b W
  clear h hlen hu hbig hfact hget hput hwid hd
  go_enter Try.func10, Try.ntmps10
  go_wp2_with fail
  refine (HUP.out _).mono ?_
  rintro e w1 ⟨rfl, hb1⟩
  have a0 : w1.cell? ⟨w.heap.size, 0, none⟩ = some (.int .i64 t.a) := by rw [hb1.cell (by simp)]; simp
  have a1 : w1.cell? ⟨w.heap.size, 1, none⟩ = some (.int .i64 t.b) := by rw [hb1.cell (by simp)]; simp
  have a2 : w1.cell? ⟨w.heap.size, 2, none⟩ = some (.int .i64 t.c) := by rw [hb1.cell (by simp)]; simp
  have a3 : w1.cell? ⟨w.heap.size, 3, none⟩ = some (.int .i64 t.d) := by rw [hb1.cell (by simp)]; simp
  have hb2 : Below w.heap.size w w1 := hb0.trans (hb1.mono (by simp))
  obtain ⟨gb, hgb⟩ : ∃ gb, gb = w.heap.size := ⟨_, rfl⟩
  rw [← hgb] at a0 a1 a2 a3 ⊢
  clear hb1 hb0 hgb
  go_wp2_with fail
  refine (HG.out _ hb2).mono ?_
  rintro e w2 ⟨rfl, hbb2⟩
  have hb3 : Below w.heap.size w w2 := hb2.trans (hbb2.mono hb2.size)
  have b0 := cell_later hbb2 a0
  have b1 := cell_later hbb2 a1
  have b2 := cell_later hbb2 a2
  have b3 := cell_later hbb2 a3
  clear hbb2 hb2 a0 a1 a2 a3
  have hb4 := hb3.alloc hb3.size (.cells #[.int .i64 u.a, .int .i64 u.b, .int .i64 u.c, .int .i64 u.d] 57)
  have c0 := cell_alloc (.cells #[.int .i64 u.a, .int .i64 u.b, .int .i64 u.c, .int .i64 u.d] 57) b0
  have c1 := cell_alloc (.cells #[.int .i64 u.a, .int .i64 u.b, .int .i64 u.c, .int .i64 u.d] 57) b1
  have c2 := cell_alloc (.cells #[.int .i64 u.a, .int .i64 u.b, .int .i64 u.c, .int .i64 u.d] 57) b2
  have c3 := cell_alloc (.cells #[.int .i64 u.a, .int .i64 u.b, .int .i64 u.c, .int .i64 u.d] 57) b3
  have d0 : (w2.alloc (.cells #[.int .i64 u.a, .int .i64 u.b, .int .i64 u.c, .int .i64 u.d] 57)).cell? ⟨w2.heap.size, 0, none⟩ = some (.int .i64 u.a) := by simp
  have d1 : (w2.alloc (.cells #[.int .i64 u.a, .int .i64 u.b, .int .i64 u.c, .int .i64 u.d] 57)).cell? ⟨w2.heap.size, 1, none⟩ = some (.int .i64 u.b) := by simp
  have d2 : (w2.alloc (.cells #[.int .i64 u.a, .int .i64 u.b, .int .i64 u.c, .int .i64 u.d] 57)).cell? ⟨w2.heap.size, 2, none⟩ = some (.int .i64 u.c) := by simp
  have d3 : (w2.alloc (.cells #[.int .i64 u.a, .int .i64 u.b, .int .i64 u.c, .int .i64 u.d] 57)).cell? ⟨w2.heap.size, 3, none⟩ = some (.int .i64 u.d) := by simp
  go_upto_region 5 with fail
  generalize w2.alloc (.cells #[.int .i64 u.a, .int .i64 u.b, .int .i64 u.c, .int .i64 u.d] 57) = W0 at *
  obtain ⟨g1, hg1⟩ : ∃ g1, g1 = w2.heap.size := ⟨_, rfl⟩
  rw [← hg1] at d0 d1 d2 d3 ⊢
  clear hg1 hb3 b0 b1 b2 b3
  go_cut [35] (fun s35 wx => s35 = .bool false ∧ wx = W0)
  case first =>
    rcases HF.out with rfl | ⟨a, rfl, rfl, h64, _, _⟩
    · go_wp2_with fail
      go_meet
      exact ⟨rfl, rfl⟩
    · have hJ : ¬ (a : Int) < 0 := by omega
      have hK : ¬ (len : Int) - 24 < (a : Int) := by omega
      go_wp2_with fail
      go_meet
      exact ⟨rfl, rfl⟩
  case rest =>
    obtain ⟨rfl, rfl⟩ := hcut
    go_upto_region 7 with fail
    go_cut [60] (fun s60 wx => s60 = .bool false ∧ Below w.heap.size w wx ∧ wx.cell? ⟨gb, 0, none⟩ = some (.int .i64 t.a) ∧ wx.cell? ⟨gb, 1, none⟩ = some (.int .i64 t.b) ∧ wx.cell? ⟨gb, 2, none⟩ = some (.int .i64 t.c) ∧ wx.cell? ⟨gb, 3, none⟩ = some (.int .i64 t.d))
    case first =>
      rcases HF.out with rfl | ⟨a, rfl, rfl, h64, hw48, hputu⟩
      · go_quiet (fail)
        go_wp2_with fail
        go_meet
        exact ⟨rfl, below_drewN hb4 _, c0, c1, c2, c3⟩
      · have HP := Lib.hid hputu
        obtain ⟨b, off, rfl, _⟩ := HH.out.plain (by have := HL.out; omega)
        have hs : Has w (some ⟨b, off + a, none⟩) (win l a 24) := has_win HH.out a 24 (by have := HL.out; omega)
        have hcs : ∀ W, Below w.heap.size w W → ∀ N, N = W.heap.size → ∀ V, Below N W V → (convert 22 9 (.slice (some ⟨b, off + a, none⟩) 24 (cap - a))).run Try.prog V = .ok (.string (str (win l a 24))) V := fun W hb N hN => conv_at (hs.below hb) (win_length l a 24 (by have := HL.out; omega)) hN
        have HCS := Lib.hid hcs
        obtain ⟨N0, hN0⟩ : ∃ N0, N0 = wc.heap.size := ⟨_, rfl⟩
        have hc0 := hcs _ hb4 N0 hN0
        have hr0 := (Below.refl N0 wc).drew
        have k5 : IntKind.i64.wrap ((a : Int) + 24) = (a : Int) + 24 := IntWalk.i64_in _ (by omega)
        have k6 : (0 : Int) ≤ (a : Int) := by omega
        have k7 : (a : Int) ≤ (a : Int) + 24 := by omega
        have k8 : (a : Int) + 24 ≤ (cap : Int) := by omega
        have k9 : ((a : Int) + 24).toNat = a + 24 := by omega
        have k10 : a + 24 - a = 24 := by omega
        have hca : ¬ cap = a := by omega
        clear hputu hs hcs hN0
        rcases hw48 with hw4 | hw8
        · have HWE := Lib.hid HWD.out
          rw [hw4] at HWE
          clear hw4
          first
          | (go_region_with (first | (go_at_call 33; refine (HP.out _).mono ?_; rintro e w4 ⟨pc, cc, Nc, rfl, hcc, hNc, hbc⟩; have hb5 : Below w.heap.size w w4 := hb4.drew.trans (hbc.mono (by exact hb4.size)); have k_0 := cell_later hbc d0; have k_1 := cell_later hbc d1; have k_2 := cell_later hbc d2; have k_3 := cell_later hbc d3; have j0 := cell_later hbc c0; have j1 := cell_later hbc c1; have j2 := cell_later hbc c2; have j3 := cell_later hbc c3; have hc1 := HCS.out w4 hb5 Nc hNc; have hrc := Below.refl Nc w4; clear hNc hbc) | (go_at_call 31; refine (HWE.out _).mono ?_; rintro e w' ⟨rfl, rfl⟩) | fail))
          | fail
          all_goals
            go_wp2_with fail
            go_meet
            exact ⟨rfl, hb5, j0, j1, j2, j3⟩
        · have HWE := Lib.hid HWD.out
          rw [hw8] at HWE
          clear hw8
          go_region_held (fun W => W.cell? ⟨g1, 0, none⟩ = some (.int .i64 u.a) ∧ W.cell? ⟨g1, 1, none⟩ = some (.int .i64 u.b) ∧ W.cell? ⟨g1, 2, none⟩ = some (.int .i64 u.c) ∧ W.cell? ⟨g1, 3, none⟩ = some (.int .i64 u.d)) (first | go_keep | exact ⟨d0, d1, d2, d3⟩ | exact ⟨k_0, k_1, k_2, k_3⟩ | fail) (first | (go_at_call 33; refine (HP.out _).mono ?_; rintro e w4 ⟨pc, cc, Nc, rfl, hcc, hNc, hbc⟩; have hb5 : Below w.heap.size w w4 := hb4.drew.trans (hbc.mono (by exact hb4.size)); have k_0 := cell_later hbc d0; have k_1 := cell_later hbc d1; have k_2 := cell_later hbc d2; have k_3 := cell_later hbc d3; have j0 := cell_later hbc c0; have j1 := cell_later hbc c1; have j2 := cell_later hbc c2; have j3 := cell_later hbc c3; have hc1 := HCS.out w4 hb5 Nc hNc; have hrc := Below.refl Nc w4; clear hNc hbc) | (go_at_call 31; refine (HWE.out _).mono ?_; rintro e w' ⟨rfl, rfl⟩) | fail)
          all_goals
            go_wp2_with fail
            go_meet
            exact ⟨rfl, hb5, j0, j1, j2, j3⟩
    case rest =>
      obtain ⟨rfl, hb5, c0, c1, c2, c3⟩ := hcut
      by_cases hmay : t.may
      · have HP := Lib.hid fun W => ((HPA.out t W HBD.out).1 hmay)
        have HMay := Lib.hid hmay
        clear hmay
        go_wp2_with fail
        refine (HP.out _).mono ?_
        rintro e w4 ⟨v4, rfl, hown4, hbh4⟩
        rw [relB_length] at hown4
        obtain ⟨g4, cp4, rfl, hg4, hg4s⟩ := hown4.form (by omega)
        obtain ⟨i0, hi, hz0, hz1, hz2⟩ := info_parts Try.infoU8
        have hl0 : (w4.alloc (.cells #[] 5)).ownsRow wc.heap.size 5 1 (.slice (some ⟨w4.heap.size, 0, none⟩) 0 0) 0 (([] : List UInt8).map u8v) := owns_lower (lit_owns w4 [] 0 #[] rfl rfl (Nat.zero_le _)) hbh4.size
        have hown4a := hown4.alloc (.cells #[] 5)
        have hbh4a := hbh4.alloc hbh4.size (.cells #[] 5)
        have HHp := Lib.hid (HH.out.below (hb5.trans (hbh4a.mono hb5.size)))
        have HI := Lib.hid hi
        have H0 := Lib.hid hz0
        have H1 := Lib.hid hz1
        have H2 := Lib.hid hz2
        have HCA := Lib.hid hp
        have HSL := Lib.hid (relB_length t)
        obtain ⟨s, hs⟩ : ∃ s, s = relB t := ⟨_, rfl⟩
        rw [← hs] at hown4 hown4a HSL
        have HSD := Lib.hid hs
        have hnil := hp
        clear hi hz0 hz1 hz2 hp hs hnil
        go_wp2_with (at_builtin; refine wpList_append_bytes _ rfl (.tmp 68) (.tmp 69) 22 rfl wc.heap.size 5 i0 Try.underlying22 HI.out H0.out H1.out H2.out _ 0 [] rfl hl0 p len cap l rfl HHp.out HL.out HCA.out (by omega) (by have := hbh4.size; simp; omega) ?_)
        intro v5 w5 hown5 hgrow5 _
        have hbh5 : Below wc.heap.size wc w5 := hbh4a.grown hgrow5 hbh4a.size (fun g hg => (hl0.lt g hg).1)
        have hput5 := hown4a.kept hgrow5 (.inr (by simp [Value.ownBlock]; omega))
        obtain ⟨p5, cp5, e5, _, _, hl5, hH5⟩ := Has.of_owns hput5
        cases e5
        have HH5 := Lib.hid hH5
        have hown5' : w5.ownsRow wc.heap.size 5 1 v5 len (l.map u8v) := by simpa using hown5
        clear hl0 hown4 hown4a hgrow5 hbh4 hbh4a hg4s hown5 hput5 hH5 hl5
        go_wp2_with (at_builtin; refine wpList_append_bytes _ rfl (.tmp 70) (.tmp 71) 22 rfl wc.heap.size 5 i0 Try.underlying22 HI.out H0.out H1.out H2.out _ len l rfl hown5' (some ⟨g4, 0, none⟩) 24 cp4 s rfl HH5.out HSL.out (fun h => by cases h) (by omega) hbh5.size ?_)
        intro v6 w6 hown6 hgrow6 _
        have hbh6 : Below wc.heap.size wc w6 := hbh5.grown hgrow6 hbh5.size (fun g hg => (hown5'.lt g hg).1)
        have hown6' : w6.ownsRow wc.heap.size 5 1 v6 (len + 24) ((l ++ s).map u8v) := by simpa using hown6
        have HHq := Lib.hid (HH.out.below (hb5.trans (hbh6.mono hb5.size)))
        clear hown5' hgrow6 hown6 hbh5
        go_wp2_with (at_builtin; refine wpList_append_bytes _ rfl (.tmp 72) (.tmp 73) 22 rfl wc.heap.size 5 i0 Try.underlying22 HI.out H0.out H1.out H2.out _ (len + 24) (l ++ s) rfl hown6' p len cap l rfl HHq.out HL.out HCA.out (by omega) hbh6.size ?_)
        intro v7 w7 hown7 hgrow7 _
        have hbh7 : Below wc.heap.size wc w7 := hbh6.grown hgrow7 hbh6.size (fun g hg => (hown6'.lt g hg).1)
        have hown7' : w7.ownsRow wc.heap.size 5 1 v7 (len + 24 + len) ((l ++ (s ++ l)).map u8v) := by simpa using hown7
        obtain ⟨p7, cp7, rfl, hn7, hc7, hl7, hH7⟩ := Has.of_owns hown7'
        have hG7 := HGA.out p7 _ cp7 _ (len : Int) w7 hH7 hl7 hn7 hc7 (by omega) (by omega) (by omega)
        have e7 : relAt (l ++ (s ++ l)) (len : Int) = some t := by rw [HSD.out, ← HL.out]; exact rel_mid l l t HMay.out HBD.out
        rw [e7] at hG7
        simp only [relV] at hG7
        have HG7 := Lib.hid hG7
        clear hown6' hgrow7 hown7 hown7' hbh6 hG7 e7 hH7 hl7
        go_wp2_with fail
        refine HG7.out.mono ?_
        rintro e w8 ⟨rfl, hbb8⟩
        have hbh8 : Below wc.heap.size wc w8 := hbh7.trans (hbb8.mono hbh7.size)
        have r0 := cell_later hbh8 c0
        have r1 := cell_later hbh8 c1
        have r2 := cell_later hbh8 c2
        have r3 := cell_later hbh8 c3
        have hbw8 := hb5.trans (hbh8.mono hb5.size)
        have hgbl : gb < w8.heap.size := World.block_lt_of_cell? w8 _ r0
        have hgbn : ¬ gb = w8.heap.size := by omega
        clear hbb8 hbh7 hbh8 c0 c1 c2 c3
        go_wp2_with fail
        go_ret
        exact ⟨rfl, hbw8.alloc hbw8.size _⟩
      · have HP := Lib.hid fun W => ((HPA.out t W HBD.out).2 hmay)
        clear hmay
        go_wp2_with fail
        refine (HP.out _).mono ?_
        rintro e w4 ⟨p4, cp4, rfl, _, _, _, _, hbb4⟩
        have hb6 : Below w.heap.size w w4 := hb5.trans (hbb4.mono hb5.size)
        clear hbb4
        go_wp2_with fail
        go_ret
        exact ⟨rfl, hb6⟩

end Go.Proofs.Ythpldobnfnehlaa
