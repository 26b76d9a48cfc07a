/-
  Words on slices of strings, and on two rows of unlike elements; the contract of 'short'. 
-/
import Derived.Test.YtodokgjankaelaaRefName
import Derived.Lib.AppendStr
import Derived.Deep.QuietTactic
import Derived.BigQuiet
namespace Go.Proofs.Ytodokgjankaelaa
open Go.RowKit

/-- Behind the address p lie the strings ss. -/
def HasS (w : World) (p : Option Addr) (ss : List ByteArray) : Prop :=
  ∀ i x, ss[i]? = some x → ∃ a, p = some a ∧ w.cell? (a.add i) = some (.string x)
theorem HasS.below {w w' : World} {p : Option Addr} {ss : List ByteArray} (h : HasS w p ss) (hb : Below w.heap.size w w') : HasS w' p ss := fun i x hx => by
  obtain ⟨a, e, hc⟩ := h i x hx
  exact ⟨a, e, (hb.cell (World.block_lt_of_cell? w _ hc)).trans hc⟩
theorem HasS.at_ {w : World} {p : Option Addr} {ss : List ByteArray} (h : HasS w p ss) {i : Nat} (hi : i < ss.length) :
    ∃ b off x, p = some ⟨b, off, none⟩ ∧ ss[i]? = some x ∧ w.cell? ⟨b, off + i, none⟩ = some (.string x) := by
  obtain ⟨⟨b, off, spot⟩, e, hc⟩ := h i ss[i] (List.getElem?_eq_getElem hi)
  have hs : spot = none := by
    obtain ⟨a0, e0, hc0⟩ := h 0 ss[0] (List.getElem?_eq_getElem (by omega))
    rw [e] at e0
    cases e0
    simpa [Addr.add] using World.cell?_spot hc0
  subst hs
  refine ⟨b, off, ss[i], e, List.getElem?_eq_getElem hi, ?_⟩
  have ha : (⟨b, off, none⟩ : Addr).add i = ⟨b, off + i, none⟩ := by unfold Addr.add; split <;> simp_all
  rwa [ha] at hc
theorem HasS.plain {w : World} {p : Option Addr} {ss : List ByteArray} (h : HasS w p ss) (hl : 0 < ss.length) :
    ∃ b off, p = some ⟨b, off, none⟩ ∧ ∀ i x, ss[i]? = some x → w.cell? ⟨b, off + i, none⟩ = some (.string x) := by
  obtain ⟨b, off, x, e, _, _⟩ := h.at_ hl
  refine ⟨b, off, e, fun i y hy => ?_⟩
  obtain ⟨b', off', y', e', hy', hc⟩ := h.at_ (List.getElem?_eq_some_iff.1 hy).1
  rw [e] at e'
  simp only [Option.some.injEq, Addr.mk.injEq, and_true] at e'
  obtain ⟨rfl, rfl⟩ := e'
  rw [hy] at hy'
  cases hy'
  exact hc

/-- A slice of strings that came in, as the row's opening hands it over. -/
def IsStrs (w : World) (a : Option Addr) (len cap : Nat) (ss : List ByteArray) : Prop :=
  (a = none ∧ len = 0 ∧ cap = 0 ∧ ss = []) ∨
  ∃ x, a = some x ∧ len ≤ cap ∧ cap ≤ maxLen ∧ ss.length = cap ∧ (∀ i, i < ss.length → w.cell? (x.add i) = some (.string (ss.getD i ByteArray.empty))) ∧ ∀ s ∈ ss, s.size ≤ maxLen
theorem IsStrs.hasS {w : World} {a : Option Addr} {len cap : Nat} {zs : List ByteArray} (h : IsStrs w a len cap zs) : ∃ ss : List ByteArray, ss.length = len ∧ HasS w a ss ∧ len ≤ cap ∧ cap ≤ maxLen := by
  rcases h with ⟨rfl, rfl, rfl, rfl⟩ | ⟨x, rfl, hl, hm, hz, hc, _⟩
  · exact ⟨[], rfl, fun i x hx => by simp at hx, Nat.le_refl _, Nat.zero_le _⟩
  · refine ⟨zs.take len, by simp; omega, fun i y hy => ⟨x, rfl, ?_⟩, hl, hm⟩
    rw [List.getElem?_take] at hy
    split at hy
    · have hi : i < zs.length := (List.getElem?_eq_some_iff.1 hy).1
      rw [hc i hi]
      simp [List.getD, hy]
    · cases hy

/-- A string's bytes. -/
abbrev lst (s : ByteArray) : Nm := s.data.toList
theorem lst_inj {a b : ByteArray} (h : lst a = lst b) : a = b := by
  apply ByteArray.ext
  exact Array.toList_inj.1 h
theorem strCells_lst (s : ByteArray) : Lib.strCells s = (lst s).map u8v := by simp [Lib.strCells, u8v]

theorem owns_apart {w : World} {b1 b2 : Nat} {e1 e2 : TypeId} {s1 s2 : Nat} {v1 v2 : Value} {n1 n2 : Nat} {xs1 xs2 : List Value} (h1 : w.ownsRow b1 e1 s1 v1 n1 xs1) (h2 : w.ownsRow b2 e2 s2 v2 n2 xs2) (he : e1 ≠ e2) :
    v1.ownBlock = none ∨ v1.ownBlock ≠ v2.ownBlock := by
  rcases h1.2 with ⟨rfl, _⟩ | ⟨g, cap, cur, rfl, _, hg, _⟩
  · exact .inl rfl
  · right
    rcases h2.2 with ⟨rfl, _⟩ | ⟨g', cap', cur', rfl, _, hg', _⟩
    · simp [Value.ownBlock]
    · simp only [Value.ownBlock, ne_eq, Option.some.injEq]
      intro e
      subst e
      rw [hg] at hg'
      simp only [Option.some.injEq, Obj.cells.injEq] at hg'
      exact he hg'.2.1

/-- Few names, that may all be. -/
def shortB (ss : List ByteArray) : Prop := ss.length ≤ 100 ∧ ∀ s ∈ ss, mayB (lst s) = true

theorem short_yes (p : Option Addr) (len cap : Nat) (ss : List ByteArray) (w : World) (h : HasS w p ss) (hlen : ss.length = len) (hs : shortB ss) :
    Calls Try.prog 10 #[.slice p len cap] w fun e w' => e = .returned (.int .i64 1) ∧ w = w' := by
  have hI : ¬ (100 : Int) < (len : Int) := by have := hs.1; omega
  have HS := Lib.hid hs
  have HM := Lib.hid h
  have HL := Lib.hid hlen
  clear hs h hlen
  go_enter Try.func10, Try.ntmps10
  go_wp2_with fail
  go_loop [3] (fun i => ∃ k : Nat, k ≤ len ∧ i = .int .i64 (k : Int)) (fun i => len - (intOf i).toNat)
  case atStart => exact ⟨0, Nat.zero_le _, rfl⟩
  case round =>
    obtain ⟨k, hk, rfl⟩ := hrel
    by_cases hlt : k < len
    · obtain ⟨b, off, x, rfl, hx, hc⟩ := HM.out.at_ (i := k) (by rw [HL.out]; exact hlt)
      have HV : Hid (mayB (lst x) = true) := Lib.hid (HS.out.2 x (List.mem_of_getElem? hx))
      have HN : Hid (Calls Try.prog 9 #[.string x] w fun e w' => e = .returned (.bool true) ∧ w = w') := Lib.hid (by rw [← HV.out]; exact refName_any x w)
      clear hx
      have hI1 : (k : Int) < (len : Int) := by omega
      have hI0 : (0 : Int) ≤ (k : Int) := by omega
      go_wp2_with fail
      refine HN.out.mono ?_
      rintro e w' ⟨rfl, rfl⟩
      go_wp2_with fail
      go_round
      case rel => exact ⟨k + 1, hlt, by go_num⟩
      case measure => simp [intOf]; omega
    · go_wp2_with fail
      go_ret
      exact ⟨rfl, rfl⟩

theorem first_bad : ∀ (ss : List ByteArray), (¬ ∀ s ∈ ss, mayB (lst s) = true) → ∃ (k : Nat) (x : ByteArray), ss[k]? = some x ∧ mayB (lst x) = false ∧ ∀ (j : Nat) (y : ByteArray), j < k → ss[j]? = some y → mayB (lst y) = true
  | [], h => absurd (fun s hs => by simp at hs) h
  | x :: r, h => by
    cases hx : mayB (lst x) with
    | false => exact ⟨0, x, rfl, hx, fun j y hj => absurd hj (by omega)⟩
    | true =>
      obtain ⟨k, y, h1, h2, h3⟩ := first_bad r fun hr => h fun s hs => by
        rcases List.mem_cons.1 hs with rfl | hs
        · exact hx
        · exact hr s hs
      refine ⟨k + 1, y, by simpa using h1, h2, fun j z hj hz => ?_⟩
      match j, hz with
      | 0, hz => simp at hz; subst hz; exact hx
      | j + 1, hz => exact h3 j z (by omega) (by simpa using hz)

theorem short_no (p : Option Addr) (len cap : Nat) (ss : List ByteArray) (w : World) (h : HasS w p ss) (hlen : ss.length = len) (hs : ¬ shortB ss) :
    Calls Try.prog 10 #[.slice p len cap] w fun e w' => e = .returned (.int .i64 0) ∧ w = w' := by
  by_cases h100 : 100 < len
  · have hI : (100 : Int) < (len : Int) := by omega
    clear hs h hlen
    go_enter Try.func10, Try.ntmps10
    go_wp2_with fail
    go_ret
    exact ⟨rfl, rfl⟩
  · have hI : ¬ (100 : Int) < (len : Int) := by omega
    obtain ⟨m, z, hz, hzm, hbef⟩ := first_bad ss fun h2 => hs ⟨by omega, h2⟩
    have hml : m < len := by have := (List.getElem?_eq_some_iff.1 hz).1; omega
    have HB := Lib.hid hbef
    have HZ := Lib.hid hz
    have HZM := Lib.hid hzm
    have HM := Lib.hid h
    have HL := Lib.hid hlen
    clear hs h hlen hbef hz hzm h100
    go_enter Try.func10, Try.ntmps10
    go_wp2_with fail
    go_loop [3] (fun i => ∃ k : Nat, k ≤ m ∧ i = .int .i64 (k : Int)) (fun i => len - (intOf i).toNat)
    case atStart => exact ⟨0, Nat.zero_le _, rfl⟩
    case round =>
      obtain ⟨k, hk, rfl⟩ := hrel
      have hlt : k < len := by omega
      obtain ⟨b, off, x, rfl, hx, hc⟩ := HM.out.at_ (i := k) (by rw [HL.out]; exact hlt)
      have hI1 : (k : Int) < (len : Int) := by omega
      have hI0 : (0 : Int) ≤ (k : Int) := by omega
      by_cases hkm : k < m
      · have HV : Hid (mayB (lst x) = true) := Lib.hid (HB.out k x hkm hx)
        have HN : Hid (Calls Try.prog 9 #[.string x] w fun e w' => e = .returned (.bool true) ∧ w = w') := Lib.hid (by rw [← HV.out]; exact refName_any x w)
        clear hx
        go_wp2_with fail
        refine HN.out.mono ?_
        rintro e w' ⟨rfl, rfl⟩
        go_wp2_with fail
        go_round
        case rel => exact ⟨k + 1, hkm, by go_num⟩
        case measure => simp [intOf]; omega
      · obtain rfl : k = m := by omega
        have HV : Hid (mayB (lst x) = false) := Lib.hid (by rw [HZ.out] at hx; cases hx; exact HZM.out)
        have HN : Hid (Calls Try.prog 9 #[.string x] w fun e w' => e = .returned (.bool false) ∧ w = w') := Lib.hid (by rw [← HV.out]; exact refName_any x w)
        clear hx
        go_wp2_with fail
        refine HN.out.mono ?_
        rintro e w' ⟨rfl, rfl⟩
        go_wp2_with fail
        go_ret
        exact ⟨rfl, rfl⟩

end Go.Proofs.Ytodokgjankaelaa
