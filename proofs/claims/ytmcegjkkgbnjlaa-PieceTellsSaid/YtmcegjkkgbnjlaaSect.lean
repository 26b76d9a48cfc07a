/-
  Section headers: their bytes, as the document tells, and what is got of bytes; contracts of the reference's num, MayHead, HeadBytes.
-/
import Derived.Test.YtmcegjkkgbnjlaaHdr
namespace Go.Proofs.Ytmcegjkkgbnjlaa
open Go.RowKit

/-- The number of n bytes from at on; -1: it is above MaxAddr. -/
def numI (l : List UInt8) (at_ n : Nat) : Int := if num (win l at_ n) ≤ 2147483647 then (num (win l at_ n) : Int) else -1

theorem rnum_any (p : Option Addr) (len cap : Nat) (l : List UInt8) (at_ n : Nat) (w : World) (h : Has w p l) (hlen : l.length = len) (hcap : len ≤ cap) (hn : 1 ≤ n) (hn8 : n ≤ 8) (hin : at_ + n ≤ len) (hbig : len ≤ 1000000000) :
    Calls Try.prog 89 #[.slice p len cap, .int .i64 at_, .int .i64 n] w fun e w' => e = .returned (.int .i64 (numI l at_ n)) ∧ w = w' := by
  obtain ⟨b, off, rfl, _⟩ := h.plain (by omega)
  have w1 := win_length l at_ n (by omega)
  have h1 := Lib.hid fun (c : Nat) => num_any _ c _ w (has_win h at_ n (by omega)) (by omega) n w1
  have HO : Hid (numI l at_ n = if num (win l at_ n) ≤ 2147483647 then (num (win l at_ n) : Int) else -1) := Lib.hid rfl
  have hc1 : ¬ cap = at_ := by omega
  have hI0 : (0 : Int) ≤ (at_ : Int) := by omega
  have hI1 : (at_ : Int) ≤ (at_ : Int) + (n : Int) := by omega
  have hI2 : (at_ : Int) + (n : Int) ≤ (cap : Int) := by omega
  have hI3 : ((at_ : Int) + (n : Int)).toNat = at_ + n := by omega
  have hI4 : at_ + n - at_ = n := by omega
  clear h hlen w1
  generalize num (win l at_ n) = v at *
  by_cases hv : v ≤ 2147483647
  · rw [if_pos hv] at HO
    have hJ : ¬ (2147483647 : Int) < (v : Int) := by omega
    go_enter Try.func89, Try.ntmps89
    go_wp2_with fail
    refine (h1.out _).mono ?_
    rintro e w' ⟨rfl, rfl⟩
    go_wp2_with fail
    go_ret
    rw [HO.out]
    exact ⟨rfl, rfl⟩
  · rw [if_neg hv] at HO
    have hJ : (2147483647 : Int) < (v : Int) := by omega
    go_enter Try.func89, Try.ntmps89
    go_wp2_with fail
    refine (h1.out _).mono ?_
    rintro e w' ⟨rfl, rfl⟩
    go_wp2_with fail
    go_ret
    rw [HO.out]
    exact ⟨rfl, rfl⟩

/-- Ten numbers: a section header. -/
structure Ten where
  (a b c d e f g h i j : Int)
def Ten.l (t : Ten) : List Int := [t.a, t.b, t.c, t.d, t.e, t.f, t.g, t.h, t.i, t.j]
abbrev Ten.v (t : Ten) : Value := .agg #[.int .i64 t.a, .int .i64 t.b, .int .i64 t.c, .int .i64 t.d, .int .i64 t.e, .int .i64 t.f, .int .i64 t.g, .int .i64 t.h, .int .i64 t.i, .int .i64 t.j]
def Ten.nums (t : Ten) : List Int := [t.a, 4, t.b, 4, t.c, 8, t.d, 8, t.e, 8, t.f, 8, t.g, 4, t.h, 4, t.i, 8, t.j, 8]
def sectB (t : Ten) : List UInt8 := numsB t.nums
def Ten.may (t : Ten) : Prop := ∀ x ∈ t.l, fitsB x = true
instance (t : Ten) : Decidable t.may := by unfold Ten.may; infer_instance

theorem first_unfit : ∀ (xs : List Int), (¬ ∀ x ∈ xs, fitsB x = true) → ∃ (k : Nat) (x : Int), xs[k]? = some x ∧ fitsB x = false ∧ ∀ (j : Nat) (y : Int), j < k → xs[j]? = some y → fitsB y = true
  | [], h => absurd (fun s hs => by simp at hs) h
  | x :: r, h => by
    cases hx : fitsB x with
    | false => exact ⟨0, x, rfl, hx, fun j y hj => absurd hj (by omega)⟩
    | true =>
      obtain ⟨k, y, h1, h2, h3⟩ := first_unfit r fun hr => h fun s hs => by
        rcases List.mem_cons.1 hs with rfl | hs
        · exact hx
        · exact hr s hs
      refine ⟨k + 1, y, by simpa using h1, h2, fun j z hj hz => ?_⟩
      match j, hz with
      | 0, hz => simp at hz; subst hz; exact hx
      | j + 1, hz => exact h3 j z (by omega) (by simpa using hz)

theorem may_yes (t : Ten) (w : World) (h : t.may) : Calls Try.prog 90 #[t.v] w fun e w' => e = .returned (.bool true) ∧ Below w.heap.size w w' := by
  have HT := Lib.hid h
  clear h
  go_enter Try.func90, Try.ntmps90
  go_wp2_with fail
  have HL := Lib.hid (lit_hasI (w.alloc (.cells #[.int .i64 t.a, .int .i64 t.b, .int .i64 t.c, .int .i64 t.d, .int .i64 t.e, .int .i64 t.f, .int .i64 t.g, .int .i64 t.h, .int .i64 t.i, .int .i64 t.j] 61)) 3 t.l #[.int .i64 t.a, .int .i64 t.b, .int .i64 t.c, .int .i64 t.d, .int .i64 t.e, .int .i64 t.f, .int .i64 t.g, .int .i64 t.h, .int .i64 t.i, .int .i64 t.j] rfl (w.heap.size + 1) (by simp))
  have hb : Below w.heap.size w ((w.alloc (.cells #[.int .i64 t.a, .int .i64 t.b, .int .i64 t.c, .int .i64 t.d, .int .i64 t.e, .int .i64 t.f, .int .i64 t.g, .int .i64 t.h, .int .i64 t.i, .int .i64 t.j] 61)).alloc (.cells #[.int .i64 t.a, .int .i64 t.b, .int .i64 t.c, .int .i64 t.d, .int .i64 t.e, .int .i64 t.f, .int .i64 t.g, .int .i64 t.h, .int .i64 t.i, .int .i64 t.j] 3)) := ((Below.refl _ w).alloc (Nat.le_refl _) _).alloc (by simp) _
  generalize (w.alloc (.cells #[.int .i64 t.a, .int .i64 t.b, .int .i64 t.c, .int .i64 t.d, .int .i64 t.e, .int .i64 t.f, .int .i64 t.g, .int .i64 t.h, .int .i64 t.i, .int .i64 t.j] 61)).alloc (.cells #[.int .i64 t.a, .int .i64 t.b, .int .i64 t.c, .int .i64 t.d, .int .i64 t.e, .int .i64 t.f, .int .i64 t.g, .int .i64 t.h, .int .i64 t.i, .int .i64 t.j] 3) = W2 at *
  have hlen : t.l.length = 10 := rfl
  have HN := Lib.hid hlen
  clear hlen
  go_loop [4] (fun i => ∃ k : Nat, k ≤ 10 ∧ i = .int .i64 (k : Int)) (fun i => 10 - (intOf i).toNat)
  case atStart => exact ⟨0, Nat.zero_le _, rfl⟩
  case round =>
    obtain ⟨k, hk, rfl⟩ := hrel
    by_cases hlt : k < 10
    · obtain ⟨b, off, x, hp, hx, hc⟩ := HL.out.at_ (i := k) (by rw [HN.out]; exact hlt)
      simp only [Option.some.injEq, Addr.mk.injEq, and_true] at hp
      obtain ⟨rfl, rfl⟩ := hp
      rw [Nat.zero_add] at hc
      have HV : Hid (∀ W, Calls Try.prog 86 #[.int .i64 x] W fun e w' => e = .returned (.bool true) ∧ W = w') := Lib.hid fun W => (HT.out x (List.mem_of_getElem? hx)) ▸ fits_any x W
      have hI1 : (k : Int) < 10 := by omega
      have hI0 : (0 : Int) ≤ (k : Int) := by omega
      clear hx
      go_wp2_with fail
      refine (HV.out _).mono ?_
      rintro e w' ⟨rfl, rfl⟩
      go_wp2_with fail
      go_round
      case rel => exact ⟨k + 1, hlt, by go_num⟩
      case measure => simp [intOf]; omega
    · have hI1 : ¬ (k : Int) < 10 := by omega
      go_wp2_with fail
      go_ret
      exact ⟨rfl, hb⟩

theorem may_no (t : Ten) (w : World) (h : ¬ t.may) : Calls Try.prog 90 #[t.v] w fun e w' => e = .returned (.bool false) ∧ Below w.heap.size w w' := by
  obtain ⟨m, z, hz, hzm, hbef⟩ := first_unfit t.l h
  have hml : m < 10 := (List.getElem?_eq_some_iff.1 hz).1
  have HB := Lib.hid hbef
  have HZ := Lib.hid hz
  have HZM := Lib.hid hzm
  clear h hbef hz hzm
  go_enter Try.func90, Try.ntmps90
  go_wp2_with fail
  have HL := Lib.hid (lit_hasI (w.alloc (.cells #[.int .i64 t.a, .int .i64 t.b, .int .i64 t.c, .int .i64 t.d, .int .i64 t.e, .int .i64 t.f, .int .i64 t.g, .int .i64 t.h, .int .i64 t.i, .int .i64 t.j] 61)) 3 t.l #[.int .i64 t.a, .int .i64 t.b, .int .i64 t.c, .int .i64 t.d, .int .i64 t.e, .int .i64 t.f, .int .i64 t.g, .int .i64 t.h, .int .i64 t.i, .int .i64 t.j] rfl (w.heap.size + 1) (by simp))
  have hb : Below w.heap.size w ((w.alloc (.cells #[.int .i64 t.a, .int .i64 t.b, .int .i64 t.c, .int .i64 t.d, .int .i64 t.e, .int .i64 t.f, .int .i64 t.g, .int .i64 t.h, .int .i64 t.i, .int .i64 t.j] 61)).alloc (.cells #[.int .i64 t.a, .int .i64 t.b, .int .i64 t.c, .int .i64 t.d, .int .i64 t.e, .int .i64 t.f, .int .i64 t.g, .int .i64 t.h, .int .i64 t.i, .int .i64 t.j] 3)) := ((Below.refl _ w).alloc (Nat.le_refl _) _).alloc (by simp) _
  generalize (w.alloc (.cells #[.int .i64 t.a, .int .i64 t.b, .int .i64 t.c, .int .i64 t.d, .int .i64 t.e, .int .i64 t.f, .int .i64 t.g, .int .i64 t.h, .int .i64 t.i, .int .i64 t.j] 61)).alloc (.cells #[.int .i64 t.a, .int .i64 t.b, .int .i64 t.c, .int .i64 t.d, .int .i64 t.e, .int .i64 t.f, .int .i64 t.g, .int .i64 t.h, .int .i64 t.i, .int .i64 t.j] 3) = W2 at *
  have hlen : t.l.length = 10 := rfl
  have HN := Lib.hid hlen
  clear hlen
  go_loop [4] (fun i => ∃ k : Nat, k ≤ m ∧ i = .int .i64 (k : Int)) (fun i => 10 - (intOf i).toNat)
  case atStart => exact ⟨0, Nat.zero_le _, rfl⟩
  case round =>
    obtain ⟨k, hk, rfl⟩ := hrel
    have hlt : k < 10 := by omega
    obtain ⟨b, off, x, hp, hx, hc⟩ := HL.out.at_ (i := k) (by rw [HN.out]; exact hlt)
    simp only [Option.some.injEq, Addr.mk.injEq, and_true] at hp
    obtain ⟨rfl, rfl⟩ := hp
    rw [Nat.zero_add] at hc
    have hI1 : (k : Int) < 10 := by omega
    have hI0 : (0 : Int) ≤ (k : Int) := by omega
    by_cases hkm : k < m
    · have HV : Hid (∀ W, Calls Try.prog 86 #[.int .i64 x] W fun e w' => e = .returned (.bool true) ∧ W = w') := Lib.hid fun W => (HB.out k x hkm hx) ▸ fits_any x W
      clear hx
      go_wp2_with fail
      refine (HV.out _).mono ?_
      rintro e w' ⟨rfl, rfl⟩
      go_wp2_with fail
      go_round
      case rel => exact ⟨k + 1, hkm, by go_num⟩
      case measure => simp [intOf]; omega
    · obtain rfl : k = m := by omega
      have hxf : fitsB x = false := by
        rw [HZ.out] at hx
        cases hx
        exact HZM.out
      have HV : Hid (∀ W, Calls Try.prog 86 #[.int .i64 x] W fun e w' => e = .returned (.bool false) ∧ W = w') := Lib.hid fun W => hxf ▸ fits_any x W
      clear hx hxf
      go_wp2_with fail
      refine (HV.out _).mono ?_
      rintro e w' ⟨rfl, rfl⟩
      go_wp2_with fail
      go_ret
      exact ⟨rfl, hb⟩

end Go.Proofs.Ytmcegjkkgbnjlaa
