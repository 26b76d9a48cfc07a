/-
  Contract of the library's strings.Trim at the cutset "*": its text, walked.
-/
import Derived.Test.YtnhhmfgneipneaaDoorStrs
import Derived.Lib.TrimByte
namespace Go.Proofs.YtnhhmfgneipneaaDoor
open Go.RowKit

set_option maxRecDepth 100000 in
theorem trimL_any (s : ByteArray) (w : World) :
    Calls Tryd.prog 12 #[.string s, .int .u8 42] w fun e w' => e = .returned (.string (str (Lib.trimLeftB (lst s) 42))) ∧ w = w' := by
  have hz : (lst s).length = s.size := by simp
  have HZ := Lib.hid hz
  clear hz
  go_enter Tryd.func12, Tryd.ntmps12
  go_wp2_with fail
  go_loop [0] (fun v => ∃ k : Nat, k ≤ s.size ∧ v = .string (str ((lst s).drop k)) ∧ ∀ (j : Nat) b, j < k → (lst s)[j]? = some b → b = 42) (fun v => Lib.strSize v)
  case atStart => exact ⟨0, Nat.zero_le _, rfl, fun j b hj => absurd hj (by omega)⟩
  case round =>
    obtain ⟨k, hk, rfl, hall⟩ := hrel
    have HA := Lib.hid hall
    clear hall
    have hkl : k ≤ (lst s).length := by rw [HZ.out]; exact hk
    obtain ⟨t, ht⟩ : ∃ t, t = str ((lst s).drop k) := ⟨_, rfl⟩
    have hts : t.size = s.size - k := by rw [ht, str, Lib.size_mk, List.length_drop, HZ.out]
    have htl : lst t = (lst s).drop k := by rw [ht]; rfl
    have hx : t.extract 1 (s.size - k) = str ((lst s).drop (k + 1)) := by
      rw [ht, str, Lib.extract_mk, List.drop_drop, List.take_of_length_le (by rw [List.length_drop, HZ.out]; omega)]
      rfl
    have HT := Lib.hid ht
    rw [← ht]
    clear ht
    by_cases h0 : 0 < t.size
    · have hl : 0 < s.size - k := by omega
      have hb : (lst s)[k]? = some t[0] := by
        have h1 : (lst t)[0]? = some t[0] := by
          rw [List.getElem?_eq_getElem (by simpa using h0)]; rfl
        rw [htl, List.getElem?_drop] at h1
        exact h1
      have HB := Lib.hid hb
      clear hb htl
      by_cases he : t[0] = 42
      · have hq : ((t[0].toNat : Int) == 42) = true := by rw [he]; rfl
        go_wp2_with fail
        go_round
        case rel =>
          refine ⟨k + 1, by omega, rfl, fun j b hj hjb => ?_⟩
          by_cases hjk : j = k
          · subst hjk
            have := HB.out
            rw [hjb] at this
            exact (Option.some.inj this).trans he
          · exact HA.out j b (by omega) hjb
        case measure =>
          rw [Lib.strSize_string, Lib.strSize_string, hts]
          simp only [str, Lib.size_mk, List.length_drop]
          rw [HZ.out]
          omega
      · have hq : ((t[0].toNat : Int) == 42) = false := by
          have hne : ¬ (t[0].toNat : Int) = 42 := fun e => he (UInt8.toNat_inj.1 (by show t[0].toNat = 42; omega))
          simpa using hne
        go_wp2_with fail
        go_ret
        refine ⟨?_, rfl⟩
        rw [Lib.trimLeftB_drop (lst s) 42 k hkl HA.out (fun b hb => by
          rw [HB.out] at hb
          exact Option.some.inj hb ▸ he), ← HT.out]
        rfl
    · have hl : ¬ 0 < s.size - k := by omega
      go_wp2_with fail
      go_ret
      refine ⟨?_, rfl⟩
      rw [Lib.trimLeftB_drop (lst s) 42 k hkl HA.out (fun b hb => by
        rw [List.getElem?_eq_none (by rw [HZ.out]; omega)] at hb
        cases hb), ← HT.out]
      rfl

set_option maxRecDepth 100000 in
theorem trimR_any (s : ByteArray) (w : World) (hs : s.size ≤ 1000) :
    Calls Tryd.prog 13 #[.string s, .int .u8 42] w fun e w' => e = .returned (.string (str (Lib.trimRightB (lst s) 42))) ∧ w = w' := by
  have hz : (lst s).length = s.size := by simp
  have HZ := Lib.hid hz
  clear hz
  go_enter Tryd.func13, Tryd.ntmps13
  go_wp2_with fail
  go_loop [0] (fun v => ∃ k : Nat, k ≤ s.size ∧ v = .string (str ((lst s).take k)) ∧ ∀ (j : Nat) b, k ≤ j → (lst s)[j]? = some b → b = 42) (fun v => Lib.strSize v)
  case atStart =>
    refine ⟨s.size, Nat.le_refl _, ?_, fun j b hj hb => ?_⟩
    · rw [← HZ.out, List.take_length]; rfl
    · rw [List.getElem?_eq_none (by rw [HZ.out]; exact hj)] at hb
      cases hb
  case round =>
    obtain ⟨k, hk, rfl, hall⟩ := hrel
    have HA := Lib.hid hall
    clear hall
    have hkl : k ≤ (lst s).length := by rw [HZ.out]; exact hk
    obtain ⟨t, ht⟩ : ∃ t, t = str ((lst s).take k) := ⟨_, rfl⟩
    have hts : t.size = k := by rw [ht, str, Lib.size_mk, List.length_take]; omega
    have htl : lst t = (lst s).take k := by rw [ht]; rfl
    have hx : t.extract 0 (k - 1) = str ((lst s).take (k - 1)) := by
      rw [ht, str, Lib.extract_mk, List.drop_zero, List.take_take, Nat.min_eq_left (by omega)]
      rfl
    have HT := Lib.hid ht
    rw [← ht]
    clear ht
    by_cases h0 : 0 < k
    · have h1 : k - 1 < t.size := by omega
      have hb : (lst s)[k - 1]? = some t[k - 1] := by
        have h2 : (lst t)[k - 1]? = some t[k - 1] := by
          rw [List.getElem?_eq_getElem (by simpa using h1)]; rfl
        rw [htl, List.getElem?_take, if_pos (by omega)] at h2
        exact h2
      have HB := Lib.hid hb
      clear hb htl
      have hw : IntKind.i64.wrap ((k : Int) - 1) = ((k - 1 : Nat) : Int) := by rw [IntWalk.i64_in _ (by omega)]; omega
      have hn0 : (0 : Int) ≤ ((k - 1 : Nat) : Int) := by omega
      have hn1 : ((k - 1 : Nat) : Int).toNat = k - 1 := by omega
      by_cases he : t[k - 1] = 42
      · have hq : ((t[k - 1].toNat : Int) == 42) = true := by rw [he]; rfl
        go_wp2_with fail
        go_round
        case rel =>
          refine ⟨k - 1, by omega, rfl, fun j b hj hjb => ?_⟩
          by_cases hjk : j = k - 1
          · subst hjk
            have := HB.out
            rw [hjb] at this
            exact (Option.some.inj this).trans he
          · exact HA.out j b (by omega) hjb
        case measure =>
          rw [Lib.strSize_string, Lib.strSize_string, hts]
          simp only [str, Lib.size_mk, List.length_take]
          omega
      · have hq : ((t[k - 1].toNat : Int) == 42) = false := by
          have hne : ¬ (t[k - 1].toNat : Int) = 42 := fun e => he (UInt8.toNat_inj.1 (by show t[k - 1].toNat = 42; omega))
          simpa using hne
        go_wp2_with fail
        go_ret
        refine ⟨?_, rfl⟩
        rw [Lib.trimRightB_take (lst s) 42 k hkl HA.out (fun b _ hb => by
          rw [HB.out] at hb
          exact Option.some.inj hb ▸ he), ← HT.out]
        rfl
    · go_wp2_with fail
      go_ret
      refine ⟨?_, rfl⟩
      rw [Lib.trimRightB_take (lst s) 42 k hkl HA.out (fun b h _ => absurd h h0), ← HT.out]
      rfl

/-- A text of which nothing is left is of that byte alone. -/
theorem trim_nil (l : List UInt8) : (Lib.trimLeftB (Lib.trimRightB l 42) 42).isEmpty = l.all (fun c => c == 42) := by
  have h1 : ∀ l : List UInt8, (Lib.trimLeftB l 42).isEmpty = l.all (fun c => c == 42) := by
    intro l
    unfold Lib.trimLeftB
    induction l with
    | nil => rfl
    | cons x r ih =>
      rw [List.dropWhile_cons]
      cases hx : (x == 42) with
      | true => simp [hx, ih]
      | false => simp [hx]
  rw [h1]
  unfold Lib.trimRightB
  rw [List.all_reverse]
  have h2 : ∀ l : List UInt8, (l.dropWhile (fun c => c == 42)).all (fun c => c == 42) = l.all (fun c => c == 42) := by
    intro l
    induction l with
    | nil => rfl
    | cons x r ih =>
      rw [List.dropWhile_cons]
      cases hx : (x == 42) with
      | true => simp [hx, ih]
      | false => simp [hx]
  rw [h2, List.all_reverse]

end Go.Proofs.YtnhhmfgneipneaaDoor
