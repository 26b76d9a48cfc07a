/-
  Contract: the reference's Begun.
-/
import Derived.Test.YteneljkpmheplaaHdr
import Derived.Deep.RegionHeld
import Derived.Deep.DeepCutAuto
namespace Go.Proofs.Yteneljkpmheplaa
open Go.RowKit

abbrev four (a m n : Int) (ok : Bool) : Ending := .returned (.tuple #[.int .i64 a, .int .i64 m, .int .i64 n, .bool ok])
/-- What Begun tells. -/
def begunOut (l : List UInt8) : Ending :=
  match begunB l with
  | some (a, m, n) => four a m n true
  | none => four 0 0 0 false
theorem begunOut_no {l : List UInt8} (h : ¬ (64 ≤ l.length ∧ mayH (num (win l 40 8)) (num (win l 60 2)) (num (win l 62 2)) ∧ hdrB (num (win l 40 8)) (num (win l 60 2)) (num (win l 62 2)) = l.take 64)) : begunOut l = four 0 0 0 false := by
  simp only [begunOut, begunB, if_neg h]
theorem begunOut_yes {l : List UInt8} (h : 64 ≤ l.length ∧ mayH (num (win l 40 8)) (num (win l 60 2)) (num (win l 62 2)) ∧ hdrB (num (win l 40 8)) (num (win l 60 2)) (num (win l 62 2)) = l.take 64) :
    begunOut l = four (num (win l 40 8)) (num (win l 60 2)) (num (win l 62 2)) true := by
  simp only [begunOut, begunB, if_pos h]

theorem eq_no' {x y : ByteArray} (h : ¬ y = x) : (y.toList == x.toList) = false := by
  rw [ByteArray.toList_eq, ByteArray.toList_eq, beq_eq_false_iff_ne]
  exact fun e => h (ByteArray.ext (Array.toList_inj.1 e))
theorem begun_short (p : Option Addr) (len cap : Nat) (w : World) (h : len < 64) :
    Calls Try.prog 7 #[.slice p len cap] w fun e w' => e = four 0 0 0 false ∧ Below w.heap.size w w' := by
  have hI : (len : Int) < 64 := by omega
  go_enter Try.func7, Try.ntmps7
  go_wp2_with fail
  exact bodyPost_ret (v := .tuple #[.int .i64 0, .int .i64 0, .int .i64 0, .bool false]) (by simp [results, Try.results7, go_sem]) rfl ⟨rfl, Below.refl _ _⟩

set_option maxHeartbeats 2000000 in
theorem begun_long (p : Option Addr) (len cap : Nat) (l : List UInt8) (w : World) (h : Has w p l) (hlen : l.length = len) (hcap : len ≤ cap) (h64 : 64 ≤ len) (hm : cap ≤ maxLen) :
    Calls Try.prog 7 #[.slice p len cap] w fun e w' => e = begunOut l ∧ Below w.heap.size w w' := by
  unfold maxLen at hm
  obtain ⟨b, off, rfl, _⟩ := h.plain (by omega)
  have w1 := win_length l 40 8 (by omega)
  have w2 := win_length l 60 2 (by omega)
  have w3 := win_length l 62 2 (by omega)
  have h1 := Lib.hid fun (c : Nat) => num_any _ c _ w (has_win h 40 8 (by omega)) (by omega) 8 w1
  have h2 := Lib.hid fun (c : Nat) => num_any _ c _ w (has_win h 60 2 (by omega)) (by omega) 2 w2
  have h3 := Lib.hid fun (c : Nat) => num_any _ c _ w (has_win h 62 2 (by omega)) (by omega) 2 w3
  have b2 := num_lt (win l 60 2)
  have b3 := num_lt (win l 62 2)
  rw [w2] at b2
  rw [w3] at b3
  have hyes := Lib.hid (@begunOut_yes l)
  have hno := Lib.hid (@begunOut_no l)
  generalize num (win l 40 8) = a at *
  generalize num (win l 60 2) = m at *
  generalize num (win l 62 2) = n at *
  have hm16 : m < 65536 := b2
  have hn16 : n < 65536 := b3
  have HL := Lib.hid hlen
  have HH := Lib.hid h
  have hI : ¬ (len : Int) < 64 := by omega
  have hc1 : ¬ cap = 40 := by omega
  have hc2 : ¬ cap = 60 := by omega
  have hc3 : ¬ cap = 62 := by omega
  clear b2 b3 w1 w2 w3 h hlen
  by_cases hat : 2147483647 < a
  · have hJ : (2147483647 : Int) < (a : Int) := by omega
    have HO := Lib.hid (hno.out fun hc => by have := hc.2.1.2.1; omega)
    go_enter Try.func7, Try.ntmps7
    go_wp2_with fail
    refine (h1.out _).mono ?_
    rintro e w' ⟨rfl, rfl⟩
    go_wp2_with fail
    refine (h2.out _).mono ?_
    rintro e w' ⟨rfl, rfl⟩
    go_wp2_with fail
    refine (h3.out _).mono ?_
    rintro e w' ⟨rfl, rfl⟩
    go_wp2_with fail
    rw [HO.out]
    exact bodyPost_ret (v := .tuple #[.int .i64 0, .int .i64 0, .int .i64 0, .bool false]) (by simp [results, Try.results7, go_sem]) rfl ⟨rfl, Below.refl _ _⟩
  have hJ : ¬ (2147483647 : Int) < (a : Int) := by omega
  by_cases hmay : mayH a m n
  · have HB : Hid (∀ W, Calls Try.prog 9 #[.int .i64 a, .int .i64 m, .int .i64 n] W (Str 64 (hdrB a m n) W)) := Lib.hid fun W => (begin_yes a m n W hmay).mono fun _ _ h => h.toH.toStr
    have hcv : ∀ w2 : World, Below w.heap.size w w2 → ∀ N, N = w2.heap.size → ∀ W, Below N w2 W → (convert 22 9 (.slice (some ⟨b, off, none⟩) 64 cap)).run Try.prog W = .ok (.string (str (l.take 64))) W := fun w2 hb N hN => by
      have h0 := (HH.out.cut 0 64 len (by have := HL.out; omega) (by have := HL.out; omega)).below hb
      rw [if_neg (by omega), List.drop_zero] at h0
      have hz : (⟨b, off, none⟩ : Addr).add 0 = ⟨b, off, none⟩ := by unfold Addr.add; rfl
      simp only [Option.map_some, hz] at h0
      exact conv_at h0 (by simp; have := HL.out; omega) hN
    have HCV := Lib.hid hcv
    have h64c : 64 ≤ cap := by omega
    by_cases heq : hdrB a m n = l.take 64
    · have HO := Lib.hid (hyes.out ⟨by have := HL.out; omega, hmay, heq⟩)
      have heq2 : (!((str (hdrB a m n)).toList == (str (l.take 64)).toList)) = false := by rw [heq]; simp
      clear hmay heq hcv
      go_enter Try.func7, Try.ntmps7
      go_wp2_with fail
      refine (h1.out _).mono ?_
      rintro e w' ⟨rfl, rfl⟩
      go_wp2_with fail
      refine (h2.out _).mono ?_
      rintro e w' ⟨rfl, rfl⟩
      go_wp2_with fail
      refine (h3.out _).mono ?_
      rintro e w' ⟨rfl, rfl⟩
      go_wp2_with fail
      refine (HB.out _).mono ?_
      rintro e w2 ⟨p2, c2, N, rfl, hcv1, hN, hb2⟩
      have hcv2 := HCV.out w2 hb2 N hN
      have hr := (Below.refl N w2).drew
      have HN := Lib.hid hN
      clear hN
      generalize hdrB a m n = hd at *
      generalize l.take 64 = lt at *
      go_upto_region 9 with fail
      go_region_held (fun _ => True) (trivial) (fail)
      all_goals
        go_wp2_with fail
        rw [HO.out]
        exact bodyPost_ret (v := .tuple #[.int .i64 a, .int .i64 m, .int .i64 n, .bool true]) (by simp [results, Try.results7, go_sem]) rfl ⟨rfl, hb2.drew⟩
    · have HO := Lib.hid (hno.out fun hc => heq hc.2.2)
      have heq2 : (!((str (hdrB a m n)).toList == (str (l.take 64)).toList)) = true := by
        have hne : ¬ str (hdrB a m n) = str (l.take 64) := fun e => heq (str_inj e)
        have := eq_no' hne
        rw [this]
        rfl
      clear hmay heq hcv
      go_enter Try.func7, Try.ntmps7
      go_wp2_with fail
      refine (h1.out _).mono ?_
      rintro e w' ⟨rfl, rfl⟩
      go_wp2_with fail
      refine (h2.out _).mono ?_
      rintro e w' ⟨rfl, rfl⟩
      go_wp2_with fail
      refine (h3.out _).mono ?_
      rintro e w' ⟨rfl, rfl⟩
      go_wp2_with fail
      refine (HB.out _).mono ?_
      rintro e w2 ⟨p2, c2, N, rfl, hcv1, hN, hb2⟩
      have hcv2 := HCV.out w2 hb2 N hN
      have hr := (Below.refl N w2).drew
      have HN := Lib.hid hN
      clear hN
      generalize hdrB a m n = hd at *
      generalize l.take 64 = lt at *
      go_upto_region 9 with fail
      go_region_held (fun _ => True) (trivial) (fail)
      all_goals
        go_wp2_with fail
        rw [HO.out]
        exact bodyPost_ret (v := .tuple #[.int .i64 0, .int .i64 0, .int .i64 0, .bool false]) (by simp [results, Try.results7, go_sem]) rfl ⟨rfl, hb2.drew⟩
  · have HB := Lib.hid fun W => begin_no a m n W hmay
    have HO := Lib.hid (hno.out fun hc => hmay hc.2.1)
    clear hmay
    go_enter Try.func7, Try.ntmps7
    go_wp2_with fail
    refine (h1.out _).mono ?_
    rintro e w' ⟨rfl, rfl⟩
    go_wp2_with fail
    refine (h2.out _).mono ?_
    rintro e w' ⟨rfl, rfl⟩
    go_wp2_with fail
    refine (h3.out _).mono ?_
    rintro e w' ⟨rfl, rfl⟩
    go_wp2_with fail
    refine (HB.out _).mono ?_
    rintro e w' ⟨rfl, rfl⟩
    go_wp2_with fail
    go_quiet (fail)
    go_wp2_with fail
    rw [HO.out]
    exact bodyPost_ret (v := .tuple #[.int .i64 0, .int .i64 0, .int .i64 0, .bool false]) (by simp [results, Try.results7, go_sem]) rfl ⟨rfl, below_drewN (Below.refl _ _) _⟩

abbrev hd3 (a m n : Int) : Value := .agg #[.int .i64 a, .int .i64 m, .int .i64 n]
/-- What Get tells. -/
def hgot (l : List UInt8) : Ending :=
  match begunB l with
  | some (a, m, n) => .returned (.tuple #[hd3 a m n, .bool true])
  | none => .returned (.tuple #[hd3 0 0 0, .bool false])

theorem begunB_short {l : List UInt8} (h : l.length < 64) : begunB l = none := by
  unfold begunB
  rw [if_neg (by omega)]
theorem begun_any (p : Option Addr) (len cap : Nat) (l : List UInt8) (w : World) (h : Has w p l) (hlen : l.length = len) (hcap : len ≤ cap) (hm : cap ≤ maxLen) :
    Calls Try.prog 7 #[.slice p len cap] w fun e w' => e = begunOut l ∧ Below w.heap.size w w' := by
  by_cases h64 : 64 ≤ len
  · exact begun_long p len cap l w h hlen hcap h64 hm
  · have := begun_short p len cap w (by omega)
    simpa only [begunOut, begunB_short (l := l) (by omega)] using this

end Go.Proofs.Yteneljkpmheplaa
