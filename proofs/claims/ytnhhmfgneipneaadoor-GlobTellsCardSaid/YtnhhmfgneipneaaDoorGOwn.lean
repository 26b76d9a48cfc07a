/-
  Contracts of the project's glob: onlyAnyBytes, Fits, Any.
-/
import Derived.Test.YtnhhmfgneipneaaDoorGSpec
import Derived.Test.YtnhhmfgneipneaaDoorGreedy
import Derived.Test.YtnhhmfgneipneaaDoorTrim
namespace Go.Proofs.YtnhhmfgneipneaaDoor
open Go.RowKit

theorem str_empty (l : List UInt8) : (str l).toList.isEmpty = l.isEmpty := by rw [ByteArray.toList_eq]; rfl

set_option maxRecDepth 100000 in
theorem trim_any (s : ByteArray) (w : World) (hs : s.size ≤ 1000) :
    Calls Tryd.prog 11 #[.string s, .string ⟨#[42]⟩] w fun e w' => e = .returned (.string (str (Lib.trimLeftB (Lib.trimRightB (lst s) 42) 42))) ∧ Below w.heap.size w w' := by
  have HR : Hid (∀ W, Calls Tryd.prog 13 #[.string s, .int .u8 42] W fun e w' => e = .returned (.string (str (Lib.trimRightB (lst s) 42))) ∧ w' = W) := Lib.hid fun W => (trimR_any s W hs).mono fun e w' h => ⟨h.1, h.2.symm⟩
  have HL : Hid (∀ W, Calls Tryd.prog 12 #[.string (str (Lib.trimRightB (lst s) 42)), .int .u8 42] W fun e w' => e = .returned (.string (str (Lib.trimLeftB (Lib.trimRightB (lst s) 42) 42))) ∧ w' = W) := Lib.hid fun W => (trimL_any (str (Lib.trimRightB (lst s) 42)) W).mono fun e w' h => ⟨h.1, h.2.symm⟩
  cases h0 : s.toList.isEmpty with
  | true =>
    have hl : lst s = [] := by
      rw [ByteArray.toList_eq] at h0
      simpa using h0
    have hs0 : s = ⟨#[]⟩ := lst_inj hl
    subst hs0
    go_enter Tryd.func11, Tryd.ntmps11
    go_wp2_with fail
    go_ret
    exact ⟨rfl, Below.refl _ _⟩
  | false =>
    go_enter Tryd.func11, Tryd.ntmps11
    go_wp2_with fail
    go_quiet (first | exact Calls.quiet_of_same (HR.out _) | exact Calls.quiet_of_same (HL.out _) | fail)
    go_wp2_with fail
    go_ret
    exact ⟨rfl, below_drewN (Below.refl _ _) _⟩

theorem only_any (s : ByteArray) (w : World) (hs : s.size ≤ 1000) :
    Calls Tryd.prog 10 #[.string s] w fun e w' => e = .returned (.bool ((lst s).all fun c => c == 42)) ∧ Below w.heap.size w w' := by
  have HT := Lib.hid (trim_any s w hs)
  go_enter Tryd.func10, Tryd.ntmps10
  go_wp2_with fail
  refine HT.out.mono ?_
  rintro e w' ⟨rfl, hb⟩
  go_wp2_with fail
  go_ret
  refine ⟨?_, hb⟩
  show Ending.returned (.bool (str (Lib.trimLeftB (Lib.trimRightB (lst s) 42) 42)).toList.isEmpty) = _
  rw [str_empty, trim_nil]

set_option maxRecDepth 100000 in
set_option maxHeartbeats 4000000 in
theorem gfits_ok : GFitsOK := by
  intro p s w hp hs
  have hpl : (lst p).length = p.size := by simp
  have hsl : (lst s).length = s.size := by simp
  have HP := Lib.hid hpl
  have HS := Lib.hid hsl
  have HO := Lib.hid fun (i : Nat) W => only_any (p.extract i p.size) W (by simp; omega)
  have HL := Lib.hid fun (i : Nat) => show lst (p.extract i p.size) = (lst p).drop i by rw [lst, Lib.extract_from]
  clear hpl hsl
  go_enter Tryd.func6, Tryd.ntmps6
  go_wp2_with fail
  go_loopw [5, 6, 7, 8, 9] (fun r5 r6 r7 r8 r9 wr => ∃ (i n b t : Nat) (st : Bool), r5 = .int .i64 (i : Int) ∧ r6 = .int .i64 (n : Int) ∧ r7 = .bool st ∧ r8 = .int .i64 (b : Int) ∧ r9 = .int .i64 (t : Int) ∧ GInv (lst p) (lst s) i n st b t ∧ Below w.heap.size w wr) (fun _ r6 _ r8 r9 _ => gleft p.size s.size (intOf r8).toNat (intOf r9).toNat (intOf r6).toNat)
  case atStart => exact ⟨0, 0, 0, 0, false, rfl, rfl, rfl, rfl, rfl, ginv_start _ _, Below.refl _ _⟩
  case round =>
    obtain ⟨i, n, b, t, st, rfl, rfl, rfl, rfl, rfl, hg, hb⟩ := hrel
    have hi : i ≤ p.size := by have := hg.1; rwa [HP.out] at this
    have hn : n ≤ s.size := by have := hg.2.1; rwa [HS.out] at this
    have HG := Lib.hid hg
    by_cases hns : n < s.size
    · have hI : (n : Int) < (s.size : Int) := by omega
      have hI0 : (0 : Int) ≤ (n : Int) := by omega
      have hw : IntKind.i64.wrap ((n : Int) + 1) = ((n + 1 : Nat) : Int) := by rw [IntWalk.i64_in _ (by omega)]; omega
      have hy := lst_at hns
      have htn : t ≤ n := by
        rcases hg.2.2 with ⟨_, _, e, _⟩ | ⟨_, _, _, e, _⟩
        · omega
        · exact e
      by_cases hip : i < p.size
      · have hJ : (i : Int) < (p.size : Int) := by omega
        have hJ0 : (0 : Int) ≤ (i : Int) := by omega
        have hw2 : IntKind.i64.wrap ((i : Int) + 1) = ((i + 1 : Nat) : Int) := by rw [IntWalk.i64_in _ (by omega)]; omega
        have hc := lst_at hip
        have h42 := u8_is p[i] 42
        have h63 := u8_is p[i] 63
        have hey := u8_is p[i] s[n]
        rw [show ((42 : UInt8).toNat : Int) = 42 from rfl] at h42
        rw [show ((63 : UInt8).toNat : Int) = 63 from rfl] at h63
        by_cases e42 : p[i] = 42
        · have hq : ((p[i].toNat : Int) == 42) = true := by rw [h42]; simpa using e42
          have GS := Lib.hid (ginv_star hg (e42 ▸ hc))
          have ML : Hid (gleft p.size s.size (i + 1) n n < gleft p.size s.size b t n) := Lib.hid (gleft_star (by
            rcases hg.2.2 with ⟨_, e, _, _⟩ | ⟨_, _, e, _⟩ <;> omega) hip)
          clear hg HG hc hy h42 h63 hey e42 htn
          go_wp2_with fail
          go_roundw
          case rel => exact ⟨i + 1, n, i + 1, n, true, by go_num, rfl, rfl, by go_num, rfl, GS.out, hb⟩
          case measure => exact ML.out
        · have hq : ((p[i].toNat : Int) == 42) = false := by rw [h42]; simpa using e42
          by_cases e63 : p[i] = 63
          · have hq3 : ((p[i].toNat : Int) == 63) = true := by rw [h63]; simpa using e63
            have GO := Lib.hid (ginv_one hg hc hy e42 (.inl e63))
            have ML : Hid (gleft p.size s.size b t (n + 1) < gleft p.size s.size b t n) := Lib.hid (gleft_one hns)
            clear hg HG hc hy h42 h63 hey e42 e63 htn
            go_wp2_with fail
            go_quiet (fail)
            go_wp2_with fail
            go_roundw
            case rel => exact ⟨i + 1, n + 1, b, t, st, by go_num, by go_num, rfl, rfl, rfl, GO.out, below_drewN hb _⟩
            case measure => exact ML.out
          · have hq3 : ((p[i].toNat : Int) == 63) = false := by rw [h63]; simpa using e63
            by_cases ey : p[i] = s[n]
            · have hqy : ((p[i].toNat : Int) == (s[n].toNat : Int)) = true := by rw [hey]; simpa using ey
              have GO := Lib.hid (ginv_one hg hc hy e42 (.inr ey))
              have ML : Hid (gleft p.size s.size b t (n + 1) < gleft p.size s.size b t n) := Lib.hid (gleft_one hns)
              clear hg HG hc hy h42 h63 hey e42 e63 ey htn
              go_wp2_with fail
              go_quiet (fail)
              go_wp2_with fail
              go_roundw
              case rel => exact ⟨i + 1, n + 1, b, t, st, by go_num, by go_num, rfl, rfl, rfl, GO.out, below_drewN hb _⟩
              case measure => exact ML.out
            · have hqy : ((p[i].toNat : Int) == (s[n].toNat : Int)) = false := by rw [hey]; simpa using ey
              have hno : ∀ c, (lst p)[i]? = some c → c ≠ 42 ∧ ¬ (c = 63 ∨ c = s[n]) := fun c h => by
                rw [hc] at h
                obtain rfl := Option.some.inj h
                exact ⟨e42, fun h => h.elim e63 ey⟩
              cases st with
              | true =>
                have GB := Lib.hid (ginv_back hg hy hno)
                have MB : Hid (gleft p.size s.size b (t + 1) (t + 1) < gleft p.size s.size b t n) := Lib.hid (gleft_back (by omega))
                have hw3 : IntKind.i64.wrap ((t : Int) + 1) = ((t + 1 : Nat) : Int) := by rw [IntWalk.i64_in _ (by omega)]; omega
                clear hg HG hc hy h42 h63 hey e42 e63 ey hno htn
                go_wp2_with fail
                go_quiet (fail)
                go_wp2_with fail
                go_roundw
                case rel => exact ⟨b, t + 1, b, t + 1, true, rfl, by go_num, rfl, rfl, by go_num, GB.out, below_drewN hb _⟩
                case measure => exact MB.out
              | false =>
                have GF := Lib.hid (ginv_fail hg hy hno)
                clear hg HG hc hy h42 h63 hey e42 e63 ey hno htn
                go_wp2_with fail
                go_quiet (fail)
                go_wp2_with fail
                go_ret
                exact ⟨by rw [GF.out]; rfl, below_drewN hb _⟩
      · have hJ : ¬ (i : Int) < (p.size : Int) := by omega
        have hno : ∀ c, (lst p)[i]? = some c → c ≠ 42 ∧ ¬ (c = 63 ∨ c = s[n]) := fun c h => by
          rw [List.getElem?_eq_none (by rw [HP.out]; omega)] at h
          cases h
        cases st with
        | true =>
          have GB := Lib.hid (ginv_back hg hy hno)
          have MB : Hid (gleft p.size s.size b (t + 1) (t + 1) < gleft p.size s.size b t n) := Lib.hid (gleft_back (by omega))
          have hw3 : IntKind.i64.wrap ((t : Int) + 1) = ((t + 1 : Nat) : Int) := by rw [IntWalk.i64_in _ (by omega)]; omega
          clear hg HG hy hno htn
          go_wp2_with fail
          go_quiet (fail)
          go_wp2_with fail
          go_roundw
          case rel => exact ⟨b, t + 1, b, t + 1, true, rfl, by go_num, rfl, rfl, by go_num, GB.out, below_drewN hb _⟩
          case measure => exact MB.out
        | false =>
          have GF := Lib.hid (ginv_fail hg hy hno)
          clear hg HG hy hno htn
          go_wp2_with fail
          go_quiet (fail)
          go_wp2_with fail
          go_ret
          exact ⟨by rw [GF.out]; rfl, below_drewN hb _⟩
    · have hI : ¬ (n : Int) < (s.size : Int) := by omega
      have GE := Lib.hid (ginv_end hg (by rw [HS.out]; omega))
      have hJ : (i : Int) ≤ (p.size : Int) := by omega
      have hJ0 : (0 : Int) ≤ (i : Int) := by omega
      obtain ⟨r, hr⟩ : ∃ r, r = (lst (p.extract i p.size)).all fun c => c == 42 := ⟨_, rfl⟩
      have HR : Hid (fitR (lst p) (lst s) = r) := Lib.hid (by rw [GE.out, hr, HL.out])
      have HO2 := Lib.hid (HO.out i)
      rw [← hr] at HO2
      clear hg HG hr
      go_wp2_with fail
      refine (HO2.out _).mono ?_
      rintro e w' ⟨rfl, hbb⟩
      go_wp2_with fail
      go_ret
      exact ⟨by rw [HR.out]; rfl, hb.trans (hbb.mono hb.size)⟩

theorem gany_ok : GAnyOK := by
  intro q m c ss s w hq hm hz hs hmm
  have HF := Lib.hid fun (x : ByteArray) W (hx : x.size ≤ 1000) => gfits_ok x s W hx hs
  have HQ := Lib.hid hq
  have HM := Lib.hid hm
  have HZ := Lib.hid hz
  clear hq hm hz
  go_enter Tryd.func8, Tryd.ntmps8
  go_wp2_with fail
  go_loopw [9] (fun r9 wr => ∃ k : Nat, k ≤ m ∧ r9 = .int .i64 (k : Int) ∧ anyFit (ss.take k) s = false ∧ Below w.heap.size w wr) (fun r9 _ => m - (intOf r9).toNat)
  case atStart => exact ⟨0, Nat.zero_le _, rfl, rfl, Below.refl _ _⟩
  case round =>
    obtain ⟨k, hk, rfl, hno, hb⟩ := hrel
    have HN := Lib.hid hno
    clear hno
    by_cases hlt : k < m
    · obtain ⟨b, off, x, rfl, hx, hc0⟩ := HQ.out.at_ (i := k) (by rw [HM.out]; exact hlt)
      have hc := cell_later hb hc0
      have HX := Lib.hid hx
      have hI : (k : Int) < (m : Int) := by omega
      have hI0 : (0 : Int) ≤ (k : Int) := by omega
      have hxz := HZ.out x (List.mem_of_getElem? hx)
      obtain ⟨r, hr⟩ : ∃ r, r = fitR (lst x) (lst s) := ⟨_, rfl⟩
      have HC := Lib.hid fun W => HF.out x W hxz
      rw [← hr] at HC
      have HR := Lib.hid hr
      clear hc0 hx hxz hr
      cases r with
      | true =>
        have HA := Lib.hid (anyFit_hit HX.out HR.out.symm)
        go_wp2_with fail
        refine (HC.out _).mono ?_
        rintro e w2 ⟨rfl, hbb⟩
        have hb2 : Below w.heap.size w w2 := hb.trans (hbb.mono hb.size)
        clear hbb
        go_wp2_with fail
        go_ret
        exact ⟨by rw [HA.out]; rfl, hb2⟩
      | false =>
        have HA := Lib.hid (anyFit_step HX.out HR.out.symm HN.out)
        go_wp2_with fail
        refine (HC.out _).mono ?_
        rintro e w2 ⟨rfl, hbb⟩
        have hb2 : Below w.heap.size w w2 := hb.trans (hbb.mono hb.size)
        clear hbb
        go_wp2_with fail
        go_roundw
        case rel => exact ⟨k + 1, hlt, by go_num, HA.out, hb2⟩
        case measure => simp [intOf]; omega
    · have hkm : k = m := by omega
      have HA : Hid (anyFit ss s = false) := Lib.hid (by
        have := HN.out
        rwa [List.take_of_length_le (by rw [HM.out]; omega)] at this)
      have hI : ¬ (k : Int) < (m : Int) := by omega
      clear hkm
      go_wp2_with fail
      go_ret
      exact ⟨by rw [HA.out]; rfl, hb⟩

end Go.Proofs.YtnhhmfgneipneaaDoor
