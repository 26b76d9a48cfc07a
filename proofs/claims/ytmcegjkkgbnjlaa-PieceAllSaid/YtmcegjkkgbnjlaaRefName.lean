/-
  Contracts: the reference's Name and At: whether a text may be a name; the name at a place.
-/
import Derived.Test.YtmcegjkkgbnjlaaStrWords
import Derived.Test.YtmcegjkkgbnjlaaMem
import Derived.Deep.DeepCutAuto
namespace Go.Proofs.Ytmcegjkkgbnjlaa
open Go.RowKit

theorem ret_bool {a b : Bool} (h : a = b) : Ending.returned (.bool a) = .returned (.bool b) := by rw [h]

theorem mayB_long {l : Nm} (h : 32 < l.length) : mayB l = false := by simp [mayB]; omega
theorem mayB_zero {l : Nm} {k : Nat} (h : l[k]? = some 0) : mayB l = false := by
  have := List.mem_of_getElem? h
  simp only [mayB, Bool.and_eq_false_iff]
  exact .inr (by rw [List.all_eq_false]; exact ⟨0, this, by simp⟩)
theorem mayB_yes {l : Nm} (h : l.length ≤ 32) (hb : ∀ i y, i < l.length → l[i]? = some y → y ≠ 0) : mayB l = true := by
  simp only [mayB, Bool.and_eq_true, decide_eq_true_eq, List.all_eq_true, bne_iff_ne]
  exact ⟨h, fun x hx => by
    obtain ⟨i, hi⟩ := List.getElem?_of_mem hx
    exact hb i x (List.getElem?_eq_some_iff.1 hi).1 hi⟩

theorem refName_any (s : ByteArray) (w : World) : Calls Try.prog 33 #[.string s] w fun e w' => e = .returned (.bool (mayB s.data.toList)) ∧ w = w' := by
  have hz : s.data.toList.length = s.size := by simp
  have HZ := Lib.hid hz
  clear hz
  go_enter Try.func33, Try.ntmps33
  go_wp2
  go_loop [3] (fun i => ∃ k : Nat, k ≤ s.size ∧ k ≤ 32 ∧ i = .int .i64 (k : Int) ∧ (∀ j y, j < k → s.data.toList[j]? = some y → y ≠ 0)) (fun i => s.size - (intOf i).toNat)
  case atStart => exact ⟨0, Nat.zero_le _, Nat.zero_le _, rfl, fun j y hj => absurd hj (by omega)⟩
  case round =>
    obtain ⟨k, hk, hk32, rfl, hb⟩ := hrel
    have HB := Lib.hid hb
    clear hb
    by_cases hlt : k < s.size
    · have hx : s.data.toList[k]? = some s[k] := by
        rw [List.getElem?_eq_getElem (by simpa using hlt)]
        rfl
      have HX := Lib.hid hx
      clear hx
      by_cases h32 : k = 32
      · have HV : Hid (mayB s.data.toList = false) := Lib.hid (mayB_long (by rw [HZ.out]; omega))
        have hI : ((k : Int) == 32) = true := by simp; omega
        clear h32
        go_wp2
        go_ret
        exact ⟨ret_bool HV.out.symm, rfl⟩
      · have hI : ((k : Int) == 32) = false := by simp; omega
        by_cases h0 : s[k] = 0
        · have HV : Hid (mayB s.data.toList = false) := Lib.hid (mayB_zero (k := k) (by rw [HX.out, h0]))
          have hJ : ((s[k].toNat : Int) == 0) = true := by rw [h0]; rfl
          clear h0 h32
          go_wp2
          go_ret
          exact ⟨ret_bool HV.out.symm, rfl⟩
        · have hJ : ((s[k].toNat : Int) == 0) = false := by
            have : s[k].toNat ≠ 0 := fun h => h0 (UInt8.toNat_inj.1 h)
            simp
            omega
          have HB2 : Hid (∀ j y, j < k + 1 → s.data.toList[j]? = some y → y ≠ 0) := Lib.hid fun j y hj hy => by
            by_cases e : j = k
            · subst e
              rw [HX.out] at hy
              cases hy
              exact h0
            · exact HB.out j y (by omega) hy
          clear h0
          go_wp2
          go_round
          case rel => exact ⟨k + 1, by omega, by omega, by go_num, HB2.out⟩
          case measure => simp [intOf]; omega
    · have HV : Hid (mayB s.data.toList = true) := Lib.hid (mayB_yes (by rw [HZ.out]; omega) fun i y hi => HB.out i y (by rw [HZ.out] at hi; omega))
      go_wp2
      go_ret
      exact ⟨ret_bool HV.out.symm, rfl⟩

/-- What At tells of the bytes d from the place on. -/
def atOut (d : List UInt8) : Ending :=
  match nameB d with
  | some n => .returned (.tuple #[.string (str n), .bool true])
  | none => .returned (.tuple #[.string (str []), .bool false])

theorem atOut_hit {k : Nat} {l : List UInt8} (hb : ∀ i y, i < k → l[i]? = some y → y ≠ 0) (h : l[k]? = some 0) (hk : k ≤ 32) : atOut l = .returned (.tuple #[.string (str (l.take k)), .bool true]) := by
  simp only [atOut, nameB_hit hb h hk]
theorem atOut_miss {k : Nat} {l : List UInt8} (hb : ∀ i y, i < k → l[i]? = some y → y ≠ 0) (h : k = l.length ∨ 32 < k ∧ k ≤ l.length) : atOut l = .returned (.tuple #[.string (str []), .bool false]) := by
  simp only [atOut, nameB_miss hb h]

theorem refAt_out (p : Option Addr) (len cap : Nat) (at_ : Int) (w : World) (h : at_ < 0 ∨ (len : Int) ≤ at_) :
    Calls Try.prog 31 #[.slice p len cap, .int .i64 at_] w fun e w' => e = .returned (.tuple #[.string (str []), .bool false]) ∧ w = w' := by
  by_cases h0 : at_ < 0
  · clear h
    go_enter Try.func31, Try.ntmps31
    go_wp2
    go_ret2
    exact ⟨rfl, rfl⟩
  · have h1 : (len : Int) ≤ at_ := h.resolve_left h0
    clear h
    go_enter Try.func31, Try.ntmps31
    go_wp2
    go_ret2
    exact ⟨rfl, rfl⟩

set_option maxHeartbeats 1000000 in
theorem refAt_in (p : Option Addr) (len cap : Nat) (l : List UInt8) (a : Nat) (w : World) (h : Has w p l) (hlen : l.length = len) (ha : a < len) (hcap : len ≤ cap) (hbig : len ≤ 1000000000) :
    Calls Try.prog 31 #[.slice p len cap, .int .i64 a] w fun e w' => e = atOut (l.drop a) ∧ w = w' := by
  have hcv : ∀ e, a ≤ e → e ≤ len → (convert 22 9 (.slice (if cap = a then p else p.map (·.add a)) (e - a) (cap - a))).run Try.prog w = .ok (.string (str ((l.drop a).take (e - a)))) w := fun e h1 h2 => by
    have := h.cut a e cap (by omega) (by omega)
    rw [List.drop_take] at this
    exact conv_now this (by simp; omega)
  obtain ⟨b, off, rfl, hcell⟩ := h.plain (by omega)
  have hca : ¬ cap = a := by omega
  simp only [if_neg hca, Option.map_some] at hcv
  have hadd : (⟨b, off, none⟩ : Addr).add a = ⟨b, off + a, none⟩ := by unfold Addr.add; split <;> simp_all
  rw [hadd] at hcv
  have HV := Lib.hid hcv
  obtain ⟨d, hd⟩ : ∃ d, d = l.drop a := ⟨_, rfl⟩
  rw [← hd] at HV ⊢
  have HC : Hid (∀ i x, d[i]? = some x → w.cell? ⟨b, off + (a + i), none⟩ = some (.int .u8 (x.toNat : Int))) := Lib.hid fun i x hx => by
    rw [hd, List.getElem?_drop] at hx
    exact hcell _ _ hx
  have HD : Hid (d.length = len - a) := Lib.hid (by rw [hd, List.length_drop, hlen])
  clear h hcell hlen hcv hadd hd
  go_enter Try.func31, Try.ntmps31
  go_wp2
  go_loop [6] (fun i => ∃ e : Nat, a ≤ e ∧ e ≤ len ∧ e ≤ a + 33 ∧ i = .int .i64 (e : Int) ∧ (∀ j y, j < e - a → d[j]? = some y → y ≠ 0)) (fun i => len - (intOf i).toNat)
  case atStart => exact ⟨a, Nat.le_refl _, by omega, by omega, rfl, fun j y hj => absurd hj (by omega)⟩
  case round =>
    obtain ⟨e, h1, h2, h3, rfl, hb⟩ := hrel
    have HB := Lib.hid hb
    clear hb
    by_cases hlt : e < len ∧ e ≤ a + 32
    · obtain ⟨hlt, h32⟩ := hlt
      obtain ⟨x, hx⟩ : ∃ x, d[e - a]? = some x := ⟨_, List.getElem?_eq_getElem (by have := HD.out; omega)⟩
      have hc := HC.out _ _ hx
      rw [show a + (e - a) = e by omega] at hc
      have HX := Lib.hid hx
      have hI1 : (e : Int) < (len : Int) := by omega
      have hI2 : (e : Int) ≤ (a : Int) + 32 := by omega
      clear hx
      by_cases h0 : x = 0
      · subst h0
        have HO := Lib.hid (atOut_hit HB.out HX.out (by omega))
        have hcv := HV.out e h1 h2
        go_wp2
        go_ret2
        exact ⟨HO.out.symm, rfl⟩
      · have hJ : ((x.toNat : Int) == 0) = false := by
          have : x.toNat ≠ 0 := fun h => h0 (UInt8.toNat_inj.1 h)
          simp
          omega
        have HB2 : Hid (∀ j y, j < e + 1 - a → d[j]? = some y → y ≠ 0) := Lib.hid fun j y hj hy => by
          by_cases q : j = e - a
          · subst q
            rw [HX.out] at hy
            cases hy
            exact h0
          · exact HB.out j y (by omega) hy
        clear h0
        go_wp2
        go_round
        case rel => exact ⟨e + 1, by omega, by omega, by omega, by go_num, HB2.out⟩
        case measure => simp [intOf]; omega
    · have HO := Lib.hid (atOut_miss (k := e - a) HB.out (by have := HD.out; omega))
      by_cases hlt1 : e < len
      · have hI1 : (e : Int) < (len : Int) := by omega
        have hI2 : ¬ (e : Int) ≤ (a : Int) + 32 := by omega
        clear hlt
        go_wp2
        go_ret2
        exact ⟨HO.out.symm, rfl⟩
      · have hI1 : ¬ (e : Int) < (len : Int) := by omega
        clear hlt
        go_wp2
        go_ret2
        exact ⟨HO.out.symm, rfl⟩

/-- What At tells, of any place. -/
def atAny (l : List UInt8) (at_ : Int) : Ending := if 0 ≤ at_ ∧ at_ < l.length then atOut (l.drop at_.toNat) else .returned (.tuple #[.string (str []), .bool false])
theorem refAt_any (p : Option Addr) (len cap : Nat) (l : List UInt8) (at_ : Int) (w : World) (h : Has w p l) (hlen : l.length = len) (hcap : len ≤ cap) (hbig : len ≤ 1000000000) :
    Calls Try.prog 31 #[.slice p len cap, .int .i64 at_] w fun e w' => e = atAny l at_ ∧ w = w' := by
  by_cases hin : 0 ≤ at_ ∧ at_ < len
  · obtain ⟨a, rfl⟩ := Int.eq_ofNat_of_zero_le hin.1
    have := refAt_in p len cap l a w h hlen (by omega) hcap hbig
    have e : atAny l a = atOut (l.drop a) := by unfold atAny; rw [if_pos (by omega)]; rfl
    rwa [e]
  · have := refAt_out p len cap at_ w (by omega)
    have e : atAny l at_ = .returned (.tuple #[.string (str []), .bool false]) := by unfold atAny; rw [if_neg (by omega)]
    rwa [e]

end Go.Proofs.Ytmcegjkkgbnjlaa
