/-
  Contract: the reference's Any; what the walks of layer glob ask of the project's Fits and Any; the example at the head of the laws.
-/
import Derived.Test.YtnhhmfgneipneaaDoorRefFits
namespace Go.Proofs.YtnhhmfgneipneaaDoor
open Go.RowKit

def anyFit (ss : List ByteArray) (s : ByteArray) : Bool := ss.any fun x => fitR (lst x) (lst s)
theorem anyFit_hit {ss : List ByteArray} {s x : ByteArray} {k : Nat} (hx : ss[k]? = some x) (h : fitR (lst x) (lst s) = true) : anyFit ss s = true := List.any_eq_true.2 ⟨x, List.mem_of_getElem? hx, h⟩
theorem anyFit_step {ss : List ByteArray} {s x : ByteArray} {k : Nat} (hx : ss[k]? = some x) (h : fitR (lst x) (lst s) = false) (hk : anyFit (ss.take k) s = false) : anyFit (ss.take (k + 1)) s = false := by
  unfold anyFit at hk ⊢
  rw [List.take_add_one, hx, List.any_append, hk]
  simp [h]

theorem refAny_any (q : Option Addr) (m c : Nat) (ss : List ByteArray) (s : ByteArray) (w : World) (hq : HasS w q ss) (hm : ss.length = m) (hz : ∀ x ∈ ss, x.size ≤ 1000) (hs : s.size ≤ 1000) (hmm : m ≤ 1000) :
    Calls Tryd.prog 9 #[.slice q m c, .string s] w fun e w' => e = .returned (.bool (anyFit ss s)) ∧ Below w.heap.size w w' := by
  have HF := Lib.hid fun (x : ByteArray) W (hx : x.size ≤ 1000) => refFits_any x s W hx hs
  have HQ := Lib.hid hq
  have HM := Lib.hid hm
  have HZ := Lib.hid hz
  clear hq hm hz
  go_enter Tryd.func9, Tryd.ntmps9
  go_wp2_with fail
  go_loopw [5] (fun r5 wr => ∃ k : Nat, k ≤ m ∧ r5 = .int .i64 (k : Int) ∧ anyFit (ss.take k) s = false ∧ Below w.heap.size w wr) (fun r5 _ => m - (intOf r5).toNat)
  case atStart => exact ⟨0, Nat.zero_le _, rfl, rfl, Below.refl _ _⟩
  case round =>
    obtain ⟨k, hk, rfl, hno, hb⟩ := hrel
    have HN := Lib.hid hno
    clear hno
    by_cases hlt : k < m
    · obtain ⟨b, off, x, rfl, hx, hc0⟩ := HQ.out.at_ (i := k) (by rw [HM.out]; exact hlt)
      have hc := cell_later hb hc0
      have HX := Lib.hid hx
      have hI : (k : Int) < (m : Int) := by omega
      have hI0 : (0 : Int) ≤ (k : Int) := by omega
      have hxz := HZ.out x (List.mem_of_getElem? hx)
      obtain ⟨r, hr⟩ : ∃ r, r = fitR (lst x) (lst s) := ⟨_, rfl⟩
      have HC := Lib.hid fun W => HF.out x W hxz
      rw [← hr] at HC
      have HR := Lib.hid hr
      clear hc0 hx hxz hr
      cases r with
      | true =>
        go_wp2_with fail
        refine (HC.out _).mono ?_
        rintro e w2 ⟨rfl, hbb⟩
        have hb2 : Below w.heap.size w w2 := hb.trans (hbb.mono hb.size)
        clear hbb
        have HA := Lib.hid (anyFit_hit HX.out HR.out.symm)
        go_wp2_with fail
        go_ret
        exact ⟨by rw [HA.out]; rfl, hb2⟩
      | false =>
        go_wp2_with fail
        refine (HC.out _).mono ?_
        rintro e w2 ⟨rfl, hbb⟩
        have hb2 : Below w.heap.size w w2 := hb.trans (hbb.mono hb.size)
        clear hbb
        have HA := Lib.hid (anyFit_step HX.out HR.out.symm HN.out)
        go_wp2_with fail
        go_roundw
        case rel => exact ⟨k + 1, hlt, by go_num, HA.out, hb2⟩
        case measure => simp [intOf]; omega
    · have hkm : k = m := by omega
      have HA : Hid (anyFit ss s = false) := Lib.hid (by
        have := HN.out
        rwa [List.take_of_length_le (by rw [HM.out]; omega)] at this)
      have hI : ¬ (k : Int) < (m : Int) := by omega
      clear hkm
      go_wp2_with fail
      go_ret
      exact ⟨by rw [HA.out]; rfl, hb⟩

/-- What Fits tells. -/
def GFitsOK : Prop := ∀ (p s : ByteArray) (w : World), p.size ≤ 1000 → s.size ≤ 1000 →
    Calls Tryd.prog 6 #[.string p, .string s] w fun e w' => e = .returned (.bool (fitR (lst p) (lst s))) ∧ Below w.heap.size w w'
/-- What Any tells. -/
def GAnyOK : Prop := ∀ (q : Option Addr) (m c : Nat) (ss : List ByteArray) (s : ByteArray) (w : World), HasS w q ss → ss.length = m → (∀ x ∈ ss, x.size ≤ 1000) → s.size ≤ 1000 → m ≤ 1000 →
    Calls Tryd.prog 8 #[.slice q m c, .string s] w fun e w' => e = .returned (.bool (anyFit ss s)) ∧ Below w.heap.size w w'

theorem gup_any (hf : GFitsOK) (ha : GAnyOK) (w : World) : Calls Tryd.prog 5 #[] w fun e w' => e = .returned (.bool true) ∧ Below w.heap.size w w' := by
  have H1 : Hid (∀ W, Calls Tryd.prog 6 #[.string ⟨#[46, 116, 42, 116]⟩, .string ⟨#[46, 116, 101, 120, 116]⟩] W fun e w' => e = .returned (.bool true) ∧ Below W.heap.size W w') := Lib.hid fun W => hf ⟨#[46, 116, 42, 116]⟩ ⟨#[46, 116, 101, 120, 116]⟩ W (by decide) (by decide)
  have H2 : Hid (∀ W, Calls Tryd.prog 6 #[.string ⟨#[46, 116, 63, 116]⟩, .string ⟨#[46, 116, 101, 120, 116]⟩] W fun e w' => e = .returned (.bool false) ∧ Below W.heap.size W w') := Lib.hid fun W => hf ⟨#[46, 116, 63, 116]⟩ ⟨#[46, 116, 101, 120, 116]⟩ W (by decide) (by decide)
  have H3 : Hid (∀ W, Calls Tryd.prog 8 #[.slice none 0 0, .string ⟨#[]⟩] W fun e w' => e = .returned (.bool false) ∧ Below W.heap.size W w') := Lib.hid fun W => ha none 0 0 [] ⟨#[]⟩ W (fun i x h => by simp at h) rfl (by simp) (by decide) (by decide)
  clear hf ha
  go_enter Tryd.func5, Tryd.ntmps5
  go_wp2_with fail
  refine (H1.out _).mono ?_
  rintro e w1 ⟨rfl, hb1⟩
  go_wp2_with fail
  refine (H2.out _).mono ?_
  rintro e w2 ⟨rfl, hb2⟩
  have hb3 : Below w.heap.size w w2 := hb1.trans (hb2.mono hb1.size)
  clear hb1 hb2
  go_wp2_with fail
  refine (H3.out _).mono ?_
  rintro e w3 ⟨rfl, hb4⟩
  have hb5 : Below w.heap.size w w3 := hb3.trans (hb4.mono hb3.size)
  clear hb3 hb4
  go_wp2_with fail
  go_ret
  exact ⟨rfl, hb5⟩

end Go.Proofs.YtnhhmfgneipneaaDoor
