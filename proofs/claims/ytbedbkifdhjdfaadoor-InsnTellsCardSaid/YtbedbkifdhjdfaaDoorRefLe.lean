/-
  Contracts of the reference's wide, Num and Put, and the words that they speak: widths, windows of bytes.
-/
import Derived.Test.YtbedbkifdhjdfaaDoorMem
import Derived.LoopTactic
import Derived.Lib.Hide
import Derived.Outline
import Derived.WalkSpells
import Derived.OwnWalk
namespace Go.Proofs.YtbedbkifdhjdfaaDoor
open Go.RowKit

/-- Is n a width that there is? -/
def wid (n : Int) : Bool := n == 1 || n == 2 || n == 4 || n == 8
theorem wid_iff (n : Int) : wid n = true ↔ n = 1 ∨ n = 2 ∨ n = 4 ∨ n = 8 := by simp [wid, or_assoc]
theorem ret_b {a b : Bool} (h : a = b) : Ending.returned (.bool a) = .returned (.bool b) := by rw [h]

/-- Are all n bytes from at on there, of len? -/
def fitB (len : Nat) (at_ n : Int) : Bool := wid n && decide (0 ≤ at_) && decide (at_ ≤ (len : Int) - n)
theorem fitB_iff (len : Nat) (at_ n : Int) : fitB len at_ n = true ↔ (n = 1 ∨ n = 2 ∨ n = 4 ∨ n = 8) ∧ 0 ≤ at_ ∧ at_ ≤ (len : Int) - n := by
  simp [fitB, wid_iff, and_assoc]

/-- The n bytes from at on. -/
def win (l : List UInt8) (at_ n : Nat) : List UInt8 := (l.take (at_ + n)).drop at_
theorem win_length (l : List UInt8) (at_ n : Nat) (h : at_ + n ≤ l.length) : (win l at_ n).length = n := by simp [win]; omega
theorem win_get (l : List UInt8) (at_ n i : Nat) (hi : i < n) : (win l at_ n)[i]? = l[at_ + i]? := by
  simp only [win, List.getElem?_drop, List.getElem?_take]
  rw [if_pos (by omega)]

theorem has_win {w : World} {b off : Nat} {l : List UInt8} (h : Has w (some ⟨b, off, none⟩) l) (j k : Nat) (hj : j + k ≤ l.length) : Has w (some ⟨b, off + j, none⟩) (win l j k) := Has.of_plain fun i x hx => by
  have hi : i < k := by
    have := (List.getElem?_eq_some_iff.1 hx).1
    rwa [win_length l j k hj] at this
  rw [win_get l j k i hi] at hx
  have hl : 0 < l.length := by have := (List.getElem?_eq_some_iff.1 hx).1; omega
  obtain ⟨b', off', e, hcell⟩ := h.plain hl
  simp only [Option.some.injEq, Addr.mk.injEq, and_true] at e
  obtain ⟨rfl, rfl⟩ := e
  rw [Nat.add_assoc]
  exact hcell _ _ hx
/-- What Get tells. -/
def getB (l : List UInt8) (at_ n : Int) : Nat := if fitB l.length at_ n = true then num (win l at_.toNat n.toNat) else 0

theorem wide_any (n : Int) (w : World) : Calls Tryd.prog 23 #[.int .i64 n] w fun e w' => e = .returned (.bool (wid n)) ∧ w = w' := by
  by_cases h1 : n = 1
  · subst h1
    go_enter Tryd.func23, Tryd.ntmps23
    go_wp2
    go_ret
    exact ⟨rfl, rfl⟩
  by_cases h2 : n = 2
  · subst h2
    go_enter Tryd.func23, Tryd.ntmps23
    go_wp2
    go_ret
    exact ⟨rfl, rfl⟩
  by_cases h4 : n = 4
  · subst h4
    go_enter Tryd.func23, Tryd.ntmps23
    go_wp2
    go_ret
    exact ⟨rfl, rfl⟩
  by_cases h8 : n = 8
  · subst h8
    go_enter Tryd.func23, Tryd.ntmps23
    go_wp2
    go_ret
    exact ⟨rfl, rfl⟩
  have hw : wid n = false := by simp [wid, h1, h2, h4, h8]
  have H := Lib.hid hw
  clear hw
  have e1 : (n == 1) = false := by simpa using h1
  have e2 : (n == 2) = false := by simpa using h2
  have e4 : (n == 4) = false := by simpa using h4
  have e8 : (n == 8) = false := by simpa using h8
  clear h1 h2 h4 h8
  go_enter Tryd.func23, Tryd.ntmps23
  go_wp2
  go_ret
  exact ⟨ret_b H.out.symm, rfl⟩

theorem ret_u64 {a b : Int} (h : a = b) : Ending.returned (.int .u64 a) = .returned (.int .u64 b) := by rw [h]

theorem num_any (p : Option Addr) (cap : Nat) (l : List UInt8) (w : World) (h : Has w p l) (hl : l.length ≤ 8) (n : Nat) (hn : l.length = n) :
    Calls Tryd.prog 21 #[.slice p n cap] w fun e w' => e = .returned (.int .u64 (num l : Int)) ∧ w = w' := by
  subst hn
  go_enter Tryd.func21, Tryd.ntmps21
  go_wp2
  go_loop [3, 4] (fun v i => ∃ k : Int, -1 ≤ k ∧ k < l.length ∧ i = .int .i64 k ∧ v = .int .u64 (num (l.drop (k + 1).toNat) : Int)) (fun _ i => (intOf i + 1).toNat)
  case atStart => exact ⟨(l.length : Int) - 1, by omega, by omega, rfl, by simp [num]⟩
  case round =>
    obtain ⟨k, hk, hkl, rfl, rfl⟩ := hrel
    by_cases h0 : 0 ≤ k
    · obtain ⟨j, rfl⟩ := Int.eq_ofNat_of_zero_le h0
      obtain ⟨b, off, x, rfl, hx, hc⟩ := h.at_ (i := j) (by omega)
      have hx8 := x.toNat_lt
      have e1 : ((j : Int) + 1).toNat = j + 1 := by omega
      have hd := num_drop l j x hx
      have hlt := num_drop_lt l (j + 1) hl (by omega)
      rw [e1]
      have HD := Lib.hid hd
      clear hd e1
      generalize num (l.drop (j + 1)) = q at *
      go_wp2
      go_round
      case rel =>
        refine ⟨(j : Int) - 1, by omega, by omega, rfl, ?_⟩
        have e2 : ((j : Int) - 1 + 1).toNat = j := by omega
        rw [e2, HD.out]
        congr 1
        omega
      case measure => simp [intOf]
    · go_wp2
      go_ret
      have e2 : (k + 1).toNat = 0 := by omega
      exact ⟨ret_u64 (by rw [e2]; rfl), rfl⟩

theorem refPut_no (v n : Int) (w : World) (hn : wid n = false) :
    Calls Tryd.prog 17 #[.int .u64 v, .int .i64 n] w fun e w' => e = .returned (.slice none 0 0) ∧ w = w' := by
  go_enter Tryd.func17, Tryd.ntmps17
  go_wp2_with (go_at_call 23; refine (wide_any _ _).mono ?_; rintro e w' ⟨rfl, rfl⟩)
  refine wp_loop_rounds 1 ?_
  rw [rounds_succ]
  go_wp2
  go_ret
  exact ⟨rfl, rfl⟩

theorem refPut_yes (v n : Nat) (w : World) (hv : v < 18446744073709551616) (hn : wid n = true) :
    Calls Tryd.prog 17 #[.int .u64 v, .int .i64 n] w (Gives (leB n v) w) := by
  have hn' := (wid_iff _).1 hn
  have hn1 : 1 ≤ n := by omega
  have hn8 : n ≤ 8 := by omega
  clear hn'
  obtain ⟨i0, hi, hz0, hz1, hz2⟩ := info_parts Tryd.infoU8
  have HI := Lib.hid hi
  have H0 := Lib.hid hz0
  have H1 := Lib.hid hz1
  have H2 := Lib.hid hz2
  clear hi hz0 hz1 hz2
  go_enter Tryd.func17, Tryd.ntmps17
  go_wp2_with (go_at_call 23; refine (wide_any _ _).mono ?_; rintro e w' ⟨rfl, rfl⟩)
  go_loopw [0, 5, 7] (fun x out i wr => ∃ k : Nat, k ≤ n ∧ i = .int .i64 k ∧ x = .int .u64 ((v / 256 ^ k : Nat) : Int) ∧ wr.ownsRow w.heap.size 5 1 out k ((leB k v).map u8v) ∧ Below w.heap.size w wr) (fun _ _ i _ => n - (intOf i).toNat)
  case atStart => exact ⟨0, Nat.zero_le _, rfl, by simp, World.ownsRow_nil _ _ _ _, Below.refl _ _⟩
  case round =>
    obtain ⟨k, hk, rfl, rfl, hown, hb⟩ := hrel
    have hq : v / 256 ^ k ≤ v := Nat.div_le_self _ _
    have hsn := Lib.hid (leB_snoc k v)
    have hdd : v / 256 ^ (k + 1) = v / 256 ^ k / 256 := by rw [Nat.pow_succ, Nat.div_div_eq_div_mul]
    have HD := Lib.hid hdd
    clear hdd
    generalize v / 256 ^ k = q at *
    by_cases hlt : k < n
    · go_wp2_with (at_builtin; refine wpList_append_own _ rfl _ _ 22 rfl w.heap.size 5 i0 (.int .u8 0) 1 1 Tryd.underlying22 HI.out H0.out H1.out H2.out rfl (by decide) _ _ _ rfl (hown.alloc _) ⟨wr.heap.size, 0, none⟩ 1 1 [u8v (UInt8.ofNat q)] rfl rfl ?c1 ?c2 ?c3 ?c4 ?c5 ?_)
      case c1 =>
        intro j u hj
        match j, hj with
        | 0, hj => simp at hj; subst hj; simp [Addr.add, byte_mod]
      case c2 => intro u hu; simp at hu; subst hu; rfl
      case c3 => unfold maxLen; omega
      case c4 => omega
      case c5 => have := hb.size; simp; omega
      · intro v' w1 hown' hgrow _
        have hb1 : Below w.heap.size w w1 := (hb.alloc hb.size _).grown hgrow (by have := hb.size; simp; omega) (fun g hg => (hown.lt g hg).1)
        clear hgrow hown hb
        go_wp2
        go_roundw
        case rel =>
          refine ⟨k + 1, hlt, by go_num, ?_, ?_, hb1⟩
          · rw [HD.out]
            simp
          · rw [hsn.out, List.map_append]
            exact hown'
        case measure => simp [intOf]; omega
    · have hkn : k = n := by omega
      have HK := Lib.hid hkn
      clear hkn
      go_wp2
      go_ret
      refine ⟨_, rfl, ?_, hb⟩
      rw [leB_length, ← HK.out]
      exact hown

theorem refPut_has (v n : Nat) (w : World) (hv : v < 18446744073709551616) (hn : wid n = true) : Calls Tryd.prog 17 #[.int .u64 v, .int .i64 n] w (GivesH n (leB n v) w) :=
  (refPut_yes v n w hv hn).mono fun e w' h => by have := h.toH; rwa [leB_length] at this

end Go.Proofs.YtbedbkifdhjdfaaDoor
