/-
  What the walks of layer piece ask of the project's Split and Find; the law's example.
-/
import Derived.Test.YtmcegjkkgbnjlaaPieceRef
import Derived.Deep.RegionHeld
import Derived.Lib.SlBytesConst
namespace Go.Proofs.Ytmcegjkkgbnjlaa
open Go.RowKit

/-- The call hands back pieces. -/
def GivesQ (l : List PcD) (w : World) (e : Ending) (w' : World) : Prop := ∃ v, e = .returned v ∧ IsL 2 EPc w' v l ∧ Below w.heap.size w w'
/-- What Split tells. -/
def PSplitOK : Prop := ∀ (s : SecD) (dp : Option Addr) (dc : Nat) (vr : Value) (w : World), HasL 1 EByte w dp s.data → s.data.length ≤ dc → dc ≤ maxLen → (dp = none → dc = 0) → SecBd s → SecFacts s → s.data.length ≤ 4000 →
    Calls Try.prog 69 #[secVS s (.slice dp s.data.length dc) vr] w (GivesQ (piecesOf s) w)
/-- What Find tells. -/
def PFindOK : Prop := ∀ (pp : Option Addr) (c : Nat) (l : List PcD) (n at_ : Int) (w : World), HasL 2 EPc w pp l → l.length ≤ c → c ≤ maxLen → (pp = none → c = 0) → l.length ≤ 16384 → Chain l n → n ≤ 2147483647 → (∀ p ∈ l, 0 ≤ p.at_ ∧ 0 ≤ p.size ∧ p.at_ + p.size ≤ n) → (l.length = 1 ∨ ∀ p ∈ l, 1 ≤ p.size) →
    -9223372036854775808 ≤ at_ → at_ ≤ 9223372036854775807 →
    Calls Try.prog 71 #[.slice pp l.length c, .int .i64 at_] w fun e w' => e = .returned (.int .i64 (inP l at_)) ∧ Below w.heap.size w w'

def upSec : SecD := ⟨ByteArray.empty, 1, 48, 1, 1, 0, 4, [97, 98, 0, 0], []⟩
def upPcs : List PcD := [⟨0, 3⟩, ⟨3, 1⟩]
theorem up_pieces : piecesOf upSec = upPcs := by kernel_rfl
theorem up_bd : SecBd upSec := by unfold SecBd upSec; simp
theorem up_facts : SecFacts upSec := by
  refine ⟨by decide, fun _ => ⟨by decide, by decide, fun _ => .inr (by decide), fun h => absurd h (by decide)⟩, fun h => absurd h (by decide), by decide⟩
theorem up_row (w : World) (T : TypeId) : HasL 1 EByte (w.alloc (.cells #[.int .u8 97, .int .u8 98, .int .u8 0, .int .u8 0] T (4, 5))) (some ⟨w.heap.size, 0, none⟩) upSec.data := fun i x hx => ⟨w.heap.size, 0, rfl, by
  unfold EByte
  rw [cell_of_row _ w.heap.size _ _ T (4, 5) (heap_alloc_new w _)]
  match i, hx with
  | 0, hx => cases hx; rfl
  | 1, hx => cases hx; rfl
  | 2, hx => cases hx; rfl
  | 3, hx => cases hx; rfl⟩

set_option maxRecDepth 100000 in
set_option maxHeartbeats 1000000 in
theorem pup_any (hsplit : PSplitOK) (hfind : PFindOK) (w : World) : Calls Try.prog 67 #[] w fun e w' => e = .returned (.bool true) ∧ Below w.heap.size w w' := by
  have hS : ∀ W, HasL 1 EByte W (some ⟨w.heap.size, 0, none⟩) upSec.data → Calls Try.prog 69 #[.agg #[.string ByteArray.empty, .int .i64 1, .int .i64 48, .int .i64 1, .int .i64 1, .int .i64 0, .int .i64 4, .slice (some ⟨w.heap.size, 0, none⟩) 4 4, .slice none 0 0]] W (GivesQ upPcs W) := fun W h => by
    rw [← up_pieces]
    exact hsplit upSec _ 4 (.slice none 0 0) W h (by decide) (by decide) (fun h => by cases h) up_bd up_facts (by decide)
  have hF : ∀ (pp : Option Addr) (c : Nat) W, HasL 2 EPc W pp upPcs → 2 ≤ c → c ≤ maxLen → (pp = none → c = 0) → ∀ at_ : Int, -9223372036854775808 ≤ at_ → at_ ≤ 9223372036854775807 → Calls Try.prog 71 #[.slice pp 2 c, .int .i64 at_] W fun e w' => e = .returned (.int .i64 (inP upPcs at_)) ∧ Below W.heap.size W w' := fun pp c W h h1 h2 h3 at_ h4 h5 =>
    hfind pp c upPcs 4 at_ W h h1 h2 h3 (by decide) ⟨by decide, fun i p hp => by
      match i, hp with
      | 0, hp => cases hp; exact ⟨by decide, by decide⟩
      | 1, hp => cases hp; exact ⟨by decide, by decide⟩⟩ (by decide) (fun p hp => by
        simp [upPcs] at hp
        rcases hp with rfl | rfl <;> simp) (.inr fun p hp => by
        simp [upPcs] at hp
        rcases hp with rfl | rfl <;> simp) h4 h5
  have i4 : inP upPcs 4 = 1 := by decide +kernel
  have i5 : inP upPcs 5 = -1 := by decide +kernel
  have kc : (convert 22 22 (.slice (some ⟨w.heap.size, 0, none⟩) 4 4)).run Try.prog (w.alloc (.cells #[.int .u8 97, .int .u8 98, .int .u8 0, .int .u8 0] 5)) = .ok (.slice (some ⟨w.heap.size, 0, none⟩) 4 4) (w.alloc (.cells #[.int .u8 97, .int .u8 98, .int .u8 0, .int .u8 0] 5 (4, 5))) :=
    Lib.run_convert_bytes_const (P := Try.prog) w 22 5 #[.int .u8 97, .int .u8 98, .int .u8 0, .int .u8 0] 4 4 Try.underlying22 Try.underlying5
  have hb0 : Below w.heap.size w (w.alloc (.cells #[.int .u8 97, .int .u8 98, .int .u8 0, .int .u8 0] 5 (4, 5))) := (Below.refl _ w).alloc (Nat.le_refl _) _
  have HS := Lib.hid (hS _ (up_row w 5))
  have HF := Lib.hid hF
  clear hS hF hsplit hfind
  go_enter Try.func67, Try.ntmps67
  go_wp2_with fail
  refine HS.out.mono ?_
  rintro e w1 ⟨v1, rfl, ⟨pp, c, rfl, hc1, hc2, hc3, hh⟩, hb1⟩
  have hb2 : Below w.heap.size w w1 := hb0.trans (hb1.mono (by simp))
  have HF4 := Lib.hid (HF.out pp c w1 hh hc1 hc2 hc3 4 (by omega) (by omega))
  rw [i4] at HF4
  have HF5 := Lib.hid fun w2 (h : Below w1.heap.size w1 w2) => HF.out pp c w2 (hh.below EPc.keeps h) hc1 hc2 hc3 5 (by omega) (by omega)
  rw [i5] at HF5
  obtain ⟨b, off, p0, rfl, hp0, ⟨⟨d0, _⟩, ⟨d1, _⟩⟩⟩ := hh.at_ (i := 0) (by decide)
  obtain ⟨b', off', p1, hq, hp1, ⟨⟨d2, _⟩, ⟨d3, _⟩⟩⟩ := hh.at_ (i := 1) (by decide)
  simp only [Option.some.injEq, Addr.mk.injEq, and_true] at hq
  obtain ⟨rfl, rfl⟩ := hq
  cases hp0
  cases hp1
  simp only [Nat.zero_mul, Nat.add_zero, Nat.one_mul] at d0 d1 d2 d3
  have hc4 : 2 ≤ c := hc1
  have hl : upPcs.length = 2 := rfl
  rw [hl]
  clear HS hb0 hb1 hh HF hc1 hc3 i4 i5
  go_wp2_with fail
  refine HF4.out.mono ?_
  rintro e w2 ⟨rfl, hb3⟩
  have hb4 := hb2.trans (hb3.mono hb2.size)
  go_wp2_with fail
  refine (HF5.out _ hb3).mono ?_
  rintro e w3 ⟨rfl, hb5⟩
  have hb6 := hb4.trans (hb5.mono hb4.size)
  go_wp2_with fail
  go_ret
  exact ⟨rfl, hb6⟩

end Go.Proofs.Ytmcegjkkgbnjlaa
