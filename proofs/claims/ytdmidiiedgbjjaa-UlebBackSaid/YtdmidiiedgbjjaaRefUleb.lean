/-
  Contracts: the reference's Uleb: a number's bytes; the reference's List: all numbers of some bytes.
-/
import Derived.Test.YtdmidiiedgbjjaaMem
import Derived.Test.YtdmidiiedgbjjaaDigits
namespace Go.Proofs.Ytdmidiiedgbjjaa
open Go.RowKit

theorem refUleb_no (n : Int) (w : World) (h : n < 0 ∨ 2147483647 < n) :
    Calls Try.prog 12 #[.int .i64 n] w fun e w' => e = .returned (.slice none 0 0) ∧ w = w' := by
  by_cases h0 : n < 0
  · clear h
    go_enter Try.func12, Try.ntmps12
    go_wp2_with fail
    go_ret
    exact ⟨rfl, rfl⟩
  · have h1 : 2147483647 < n := h.resolve_left h0
    clear h
    go_enter Try.func12, Try.ntmps12
    go_wp2_with fail
    go_ret
    exact ⟨rfl, rfl⟩

theorem ulebB_pos (f n : Nat) (h : 0 < f) : 0 < (ulebB f n).length := by
  cases f with
  | zero => omega
  | succ f =>
    unfold ulebB
    split <;> simp

theorem one_owns {w : World} (x : UInt8) : (w.alloc (.cells #[u8v x] 5)).ownsRow w.heap.size 5 1 (.slice (some ⟨w.heap.size, 0, none⟩) 1 1) 1 ([x].map u8v) :=
  World.ownsRow_lit w #[u8v x] 1 (Nat.le_refl _) (by unfold maxLen; omega) rfl

set_option maxRecDepth 100000 in
theorem refUleb_yes (f : Nat) : ∀ (n : Nat) (w : World), n < 128 ^ f → n ≤ 2147483647 → 0 < f → f ≤ 5 →
    Calls Try.prog 12 #[.int .i64 n] w (Gives (ulebB f n) w) := by
  induction f with
  | zero => intro n w _ _ h _; exact absurd h (by omega)
  | succ f ih =>
    intro n w hn hm _ hf5
    have IH := Lib.hid ih
    clear ih
    by_cases h : n < 128
    · have HU : Hid (ulebB (f + 1) n = [UInt8.ofNat n]) := Lib.hid (by simp [ulebB, h])
      have HB : Hid (Value.int .u8 (n : Int) = u8v (UInt8.ofNat n)) := Lib.hid (by unfold u8v; congr 1; simp; omega)
      have hmI : (n : Int) ≤ 2147483647 := by omega
      clear hn hm
      go_enter Try.func12, Try.ntmps12
      go_wp2_with fail
      go_ret
      refine ⟨_, rfl, ?_, (Below.refl _ w).alloc (Nat.le_refl _) _⟩
      rw [HU.out]
      show (w.alloc (.cells #[Value.int .u8 (n : Int)] 5)).ownsRow _ _ _ _ _ _
      rw [HB.out]
      exact one_owns _
    · have hf : 0 < f := by
        rcases Nat.eq_zero_or_pos f with h0 | h0
        · subst h0
          simp at hn
          omega
        · exact h0
      have hd : n / 128 < 128 ^ f := by
        rw [Nat.pow_succ] at hn
        exact Nat.div_lt_of_lt_mul (by rw [Nat.mul_comm]; exact hn)
      obtain ⟨d, hdd⟩ : ∃ d, d = UInt8.ofNat (128 + n % 128) := ⟨_, rfl⟩
      have HU : Hid (ulebB (f + 1) n = d :: ulebB f (n / 128)) := Lib.hid (by rw [hdd]; simp [ulebB, h])
      have HB : Hid (Value.int .u8 (128 + (n : Int) % 128) = u8v d) := Lib.hid (by rw [hdd]; unfold u8v; congr 1; simp; omega)
      clear hdd
      have HR : Hid (∀ W : World, Calls Try.prog 12 #[.int .i64 ((n : Int) / 128)] W (GivesH (ulebB f (n / 128)).length (ulebB f (n / 128)) W)) := Lib.hid fun W => by
        rw [show (n : Int) / 128 = ((n / 128 : Nat) : Int) by omega]
        exact (IH.out (n / 128) W hd (by omega) hf (by omega)).mono fun _ _ h => h.toH
      have hl1 := ulebB_length f (n / 128)
      have hl2 := ulebB_pos f (n / 128) hf
      have HW : Hid ((w.alloc (.cells #[Value.int .u8 (128 + (n : Int) % 128)] 5)).ownsRow w.heap.size 5 1 (.slice (some ⟨w.heap.size, 0, none⟩) 1 1) 1 ([d].map u8v)) := Lib.hid (by rw [HB.out]; exact one_owns _)
      have HBel : Hid (Below w.heap.size w (w.alloc (.cells #[Value.int .u8 (128 + (n : Int) % 128)] 5))) := Lib.hid ((Below.refl _ w).alloc (Nat.le_refl _) _)
      generalize hll : (ulebB f (n / 128)).length = m at *
      have HM := Lib.hid hll
      obtain ⟨i0, hi, hz0, hz1, hz2⟩ := info_parts Try.infoU8
      have HI := Lib.hid hi
      have H0 := Lib.hid hz0
      have H1 := Lib.hid hz1
      have H2 := Lib.hid hz2
      have hmI : (n : Int) ≤ 2147483647 := by omega
      have h0I : (0 : Int) ≤ (n : Int) := by omega
      clear hn hm hd hi hz0 hz1 hz2 hll
      go_enter Try.func12, Try.ntmps12
      go_wp2_with fail
      refine (HR.out _).mono ?_
      rintro e w2 ⟨p2, c2, rfl, _, hnc2, hcm2, hH2, hb2⟩
      obtain ⟨b2, off2, rfl, _⟩ := hH2.plain (by rw [HM.out]; exact hl2)
      have ho := owns_below HW.out hb2
      have hb02 : Below w.heap.size w w2 := HBel.out.trans (hb2.mono HBel.out.size)
      have HH2 := Lib.hid hH2
      clear hH2 hb2
      go_wp2_with (at_builtin; refine wpList_append_own _ rfl _ _ 22 rfl w.heap.size 5 i0 (.int .u8 0) 1 1 Try.underlying22 HI.out H0.out H1.out H2.out rfl (by decide) _ _ _ rfl ho ⟨b2, off2, none⟩ m c2 ((ulebB f (n / 128)).map u8v) rfl (by rw [List.length_map, HM.out, Nat.mul_one]) HH2.out.cells (map_oneCell _) ?c3 ?c4 hb02.size ?_)
      case c3 => unfold maxLen; omega
      case c4 => omega
      intro v' w3 ho' hg _
      have hb3 : Below w.heap.size w w3 := hb02.grown hg hb02.size (fun g hg => (ho.lt g hg).1)
      clear hg ho hb02
      go_wp2_with fail
      go_ret
      refine ⟨_, rfl, ?_, hb3⟩
      rw [HU.out, List.length_cons, HM.out, Nat.add_comm m 1]
      exact ho'

end Go.Proofs.Ytdmidiiedgbjjaa
