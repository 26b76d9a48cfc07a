/-
  Contract: the reference's Begun.
  Contracts of the project's ehdr: may, fields, number; the library's bytes.Equal.
  Contracts of the project's ehdr: Put, Get.
-/
import Derived.Test.YtenmcmnhiejbgaaGreatJg01
import Derived.Deep.RegionHeld
import Derived.Deep.DeepCutAuto
import Derived.Test.YtenmcmnhiejbgaaGreatJg02
import Derived.Test.YtenmcmnhiejbgaaGreatJg07
import Derived.Deep.RegionHeld3
import Derived.Deep.RegionWith
namespace Go.Proofs.YtenmcmnhiejbgaaGreat
open Go.RowKit

abbrev four (a m n : Int) (ok : Bool) : Ending := .returned (.tuple #[.int .i64 a, .int .i64 m, .int .i64 n, .bool ok])
/-- What Begun tells. -/
def begunOut (l : List UInt8) : Ending :=
  match begunB l with
  | some (a, m, n) => four a m n true
  | none => four 0 0 0 false
theorem begunOut_no {l : List UInt8} (h : ¬ (64 ≤ l.length ∧ mayH (num (win l 40 8)) (num (win l 60 2)) (num (win l 62 2)) ∧ hdrB (num (win l 40 8)) (num (win l 60 2)) (num (win l 62 2)) = l.take 64)) : begunOut l = four 0 0 0 false := by
  simp only [begunOut, begunB, if_neg h]
theorem begunOut_yes {l : List UInt8} (h : 64 ≤ l.length ∧ mayH (num (win l 40 8)) (num (win l 60 2)) (num (win l 62 2)) ∧ hdrB (num (win l 40 8)) (num (win l 60 2)) (num (win l 62 2)) = l.take 64) :
    begunOut l = four (num (win l 40 8)) (num (win l 60 2)) (num (win l 62 2)) true := by
  simp only [begunOut, begunB, if_pos h]

theorem eq_no' {x y : ByteArray} (h : ¬ y = x) : (y.toList == x.toList) = false := by
  rw [ByteArray.toList_eq, ByteArray.toList_eq, beq_eq_false_iff_ne]
  exact fun e => h (ByteArray.ext (Array.toList_inj.1 e))
theorem begun_short (p : Option Addr) (len cap : Nat) (w : World) (h : len < 64) :
    Calls Tryz.prog 55 #[.slice p len cap] w fun e w' => e = four 0 0 0 false ∧ Below w.heap.size w w' := by
  have hI : (len : Int) < 64 := by omega
  go_enter Tryz.func55, Tryz.ntmps55
  go_wp2_with fail
  exact bodyPost_ret (v := .tuple #[.int .i64 0, .int .i64 0, .int .i64 0, .bool false]) (by simp [results, Tryz.results55, go_sem]) rfl ⟨rfl, Below.refl _ _⟩

set_option maxHeartbeats 2000000 in
theorem begun_long (p : Option Addr) (len cap : Nat) (l : List UInt8) (w : World) (h : Has w p l) (hlen : l.length = len) (hcap : len ≤ cap) (h64 : 64 ≤ len) (hm : cap ≤ maxLen) :
    Calls Tryz.prog 55 #[.slice p len cap] w fun e w' => e = begunOut l ∧ Below w.heap.size w w' := by
  unfold maxLen at hm
  obtain ⟨b, off, rfl, _⟩ := h.plain (by omega)
  have w1 := win_length l 40 8 (by omega)
  have w2 := win_length l 60 2 (by omega)
  have w3 := win_length l 62 2 (by omega)
  have h1 := Lib.hid fun (c : Nat) => num_any _ c _ w (has_win h 40 8 (by omega)) (by omega) 8 w1
  have h2 := Lib.hid fun (c : Nat) => num_any _ c _ w (has_win h 60 2 (by omega)) (by omega) 2 w2
  have h3 := Lib.hid fun (c : Nat) => num_any _ c _ w (has_win h 62 2 (by omega)) (by omega) 2 w3
  have b2 := num_lt (win l 60 2)
  have b3 := num_lt (win l 62 2)
  rw [w2] at b2
  rw [w3] at b3
  have hyes := Lib.hid (@begunOut_yes l)
  have hno := Lib.hid (@begunOut_no l)
  generalize num (win l 40 8) = a at *
  generalize num (win l 60 2) = m at *
  generalize num (win l 62 2) = n at *
  have hm16 : m < 65536 := b2
  have hn16 : n < 65536 := b3
  have HL := Lib.hid hlen
  have HH := Lib.hid h
  have hI : ¬ (len : Int) < 64 := by omega
  have hc1 : ¬ cap = 40 := by omega
  have hc2 : ¬ cap = 60 := by omega
  have hc3 : ¬ cap = 62 := by omega
  clear b2 b3 w1 w2 w3 h hlen
  by_cases hat : 2147483647 < a
  · have hJ : (2147483647 : Int) < (a : Int) := by omega
    have HO := Lib.hid (hno.out fun hc => by have := hc.2.1.2.1; omega)
    go_enter Tryz.func55, Tryz.ntmps55
    go_wp2_with fail
    refine (h1.out _).mono ?_
    rintro e w' ⟨rfl, rfl⟩
    go_wp2_with fail
    refine (h2.out _).mono ?_
    rintro e w' ⟨rfl, rfl⟩
    go_wp2_with fail
    refine (h3.out _).mono ?_
    rintro e w' ⟨rfl, rfl⟩
    go_wp2_with fail
    rw [HO.out]
    exact bodyPost_ret (v := .tuple #[.int .i64 0, .int .i64 0, .int .i64 0, .bool false]) (by simp [results, Tryz.results55, go_sem]) rfl ⟨rfl, Below.refl _ _⟩
  have hJ : ¬ (2147483647 : Int) < (a : Int) := by omega
  by_cases hmay : mayH a m n
  · have HB : Hid (∀ W, Calls Tryz.prog 21 #[.int .i64 a, .int .i64 m, .int .i64 n] W (Str 64 (hdrB a m n) W)) := Lib.hid fun W => (begin_yes a m n W hmay).mono fun _ _ h => h.toH.toStr
    have hcv : ∀ w2 : World, Below w.heap.size w w2 → ∀ N, N = w2.heap.size → ∀ W, Below N w2 W → (convert 31 9 (.slice (some ⟨b, off, none⟩) 64 cap)).run Tryz.prog W = .ok (.string (str (l.take 64))) W := fun w2 hb N hN => by
      have h0 := (HH.out.cut 0 64 len (by have := HL.out; omega) (by have := HL.out; omega)).below hb
      rw [if_neg (by omega), List.drop_zero] at h0
      have hz : (⟨b, off, none⟩ : Addr).add 0 = ⟨b, off, none⟩ := by unfold Addr.add; rfl
      simp only [Option.map_some, hz] at h0
      exact conv_at h0 (by simp; have := HL.out; omega) hN
    have HCV := Lib.hid hcv
    have h64c : 64 ≤ cap := by omega
    by_cases heq : hdrB a m n = l.take 64
    · have HO := Lib.hid (hyes.out ⟨by have := HL.out; omega, hmay, heq⟩)
      have heq2 : (!((str (hdrB a m n)).toList == (str (l.take 64)).toList)) = false := by rw [heq]; simp
      clear hmay heq hcv
      go_enter Tryz.func55, Tryz.ntmps55
      go_wp2_with fail
      refine (h1.out _).mono ?_
      rintro e w' ⟨rfl, rfl⟩
      go_wp2_with fail
      refine (h2.out _).mono ?_
      rintro e w' ⟨rfl, rfl⟩
      go_wp2_with fail
      refine (h3.out _).mono ?_
      rintro e w' ⟨rfl, rfl⟩
      go_wp2_with fail
      refine (HB.out _).mono ?_
      rintro e w2 ⟨p2, c2, N, rfl, hcv1, hN, hb2⟩
      have hcv2 := HCV.out w2 hb2 N hN
      have hr := (Below.refl N w2).drew
      have HN := Lib.hid hN
      clear hN
      generalize hdrB a m n = hd at *
      generalize l.take 64 = lt at *
      go_upto_region 9 with fail
      go_region_held (fun _ => True) (trivial) (fail)
      all_goals
        go_wp2_with fail
        rw [HO.out]
        exact bodyPost_ret (v := .tuple #[.int .i64 a, .int .i64 m, .int .i64 n, .bool true]) (by simp [results, Tryz.results55, go_sem]) rfl ⟨rfl, hb2.drew⟩
    · have HO := Lib.hid (hno.out fun hc => heq hc.2.2)
      have heq2 : (!((str (hdrB a m n)).toList == (str (l.take 64)).toList)) = true := by
        have hne : ¬ str (hdrB a m n) = str (l.take 64) := fun e => heq (str_inj e)
        have := eq_no' hne
        rw [this]
        rfl
      clear hmay heq hcv
      go_enter Tryz.func55, Tryz.ntmps55
      go_wp2_with fail
      refine (h1.out _).mono ?_
      rintro e w' ⟨rfl, rfl⟩
      go_wp2_with fail
      refine (h2.out _).mono ?_
      rintro e w' ⟨rfl, rfl⟩
      go_wp2_with fail
      refine (h3.out _).mono ?_
      rintro e w' ⟨rfl, rfl⟩
      go_wp2_with fail
      refine (HB.out _).mono ?_
      rintro e w2 ⟨p2, c2, N, rfl, hcv1, hN, hb2⟩
      have hcv2 := HCV.out w2 hb2 N hN
      have hr := (Below.refl N w2).drew
      have HN := Lib.hid hN
      clear hN
      generalize hdrB a m n = hd at *
      generalize l.take 64 = lt at *
      go_upto_region 9 with fail
      go_region_held (fun _ => True) (trivial) (fail)
      all_goals
        go_wp2_with fail
        rw [HO.out]
        exact bodyPost_ret (v := .tuple #[.int .i64 0, .int .i64 0, .int .i64 0, .bool false]) (by simp [results, Tryz.results55, go_sem]) rfl ⟨rfl, hb2.drew⟩
  · have HB := Lib.hid fun W => begin_no a m n W hmay
    have HO := Lib.hid (hno.out fun hc => hmay hc.2.1)
    clear hmay
    go_enter Tryz.func55, Tryz.ntmps55
    go_wp2_with fail
    refine (h1.out _).mono ?_
    rintro e w' ⟨rfl, rfl⟩
    go_wp2_with fail
    refine (h2.out _).mono ?_
    rintro e w' ⟨rfl, rfl⟩
    go_wp2_with fail
    refine (h3.out _).mono ?_
    rintro e w' ⟨rfl, rfl⟩
    go_wp2_with fail
    refine (HB.out _).mono ?_
    rintro e w' ⟨rfl, rfl⟩
    go_wp2_with fail
    go_quiet (fail)
    go_wp2_with fail
    rw [HO.out]
    exact bodyPost_ret (v := .tuple #[.int .i64 0, .int .i64 0, .int .i64 0, .bool false]) (by simp [results, Tryz.results55, go_sem]) rfl ⟨rfl, below_drewN (Below.refl _ _) _⟩

abbrev hd3 (a m n : Int) : Value := .agg #[.int .i64 a, .int .i64 m, .int .i64 n]
/-- What Get tells. -/
def hgot (l : List UInt8) : Ending :=
  match begunB l with
  | some (a, m, n) => .returned (.tuple #[hd3 a m n, .bool true])
  | none => .returned (.tuple #[hd3 0 0 0, .bool false])

theorem begunB_short {l : List UInt8} (h : l.length < 64) : begunB l = none := by
  unfold begunB
  rw [if_neg (by omega)]
theorem begun_any (p : Option Addr) (len cap : Nat) (l : List UInt8) (w : World) (h : Has w p l) (hlen : l.length = len) (hcap : len ≤ cap) (hm : cap ≤ maxLen) :
    Calls Tryz.prog 55 #[.slice p len cap] w fun e w' => e = begunOut l ∧ Below w.heap.size w w' := by
  by_cases h64 : 64 ≤ len
  · exact begun_long p len cap l w h hlen hcap h64 hm
  · have := begun_short p len cap w (by omega)
    simpa only [begunOut, begunB_short (l := l) (by omega)] using this

end Go.Proofs.YtenmcmnhiejbgaaGreat

namespace Go.Proofs.YtenmcmnhiejbgaaGreat
open Go.RowKit

theorem number_any (p : Option Addr) (len cap : Nat) (l : List UInt8) (at_ n : Int) (w : World) (h : Has w p l) (hlen : l.length = len) (hcap : len ≤ cap) (hm : cap ≤ maxLen) :
    Calls Tryz.prog 116 #[.slice p len cap, .int .i64 at_, .int .i64 n] w fun e w' => e = .returned (.int .i64 (wrap64 (getB l at_ n : Int))) ∧ w = w' := by
  have HG := Lib.hid (get_any p len cap l at_ n w h hlen hcap hm)
  generalize getB l at_ n = q at *
  clear h hlen
  go_enter Tryz.func116, Tryz.ntmps116
  go_wp2_with (go_at_call 118; refine HG.out.mono ?_; rintro e w' ⟨rfl, rfl⟩)
  go_ret
  exact ⟨rfl, rfl⟩

theorem equal_any (p q : Option Addr) (n1 c1 n2 c2 : Nat) (l m : List UInt8) (w : World) (h1 : Has w p l) (h2 : Has w q m) (hn1 : l.length = n1) (hn2 : m.length = n2) :
    Calls Tryz.prog 117 #[.slice p n1 c1, .slice q n2 c2] w fun e w' => e = .returned (.bool (decide (l = m))) ∧ w = w' := by
  have k1 := conv_now (cap := c1) h1 hn1
  have k2 := conv_now (cap := c2) h2 hn2
  have hd : ((str l).toList == (str m).toList) = decide (l = m) := by
    by_cases e : l = m
    · subst e; simp
    · have := eq_no' (x := str m) (y := str l) fun x => e (str_inj x)
      rw [this]; simp [e]
  have HD := Lib.hid hd
  clear h1 h2 hn1 hn2 hd
  go_enter Tryz.func117, Tryz.ntmps117
  go_wp2_with fail
  go_ret
  exact ⟨by rw [← HD.out]; rfl, rfl⟩

theorem hmay_any (a m n : Int) (w : World) :
    Calls Tryz.prog 108 #[hd3 a m n] w fun e w' => e = .returned (.bool (decide (mayH a m n))) ∧ Below w.heap.size w w' := by
  have hb := (Below.refl _ w).alloc (Nat.le_refl _) (.cells #[.int .i64 a, .int .i64 m, .int .i64 n] 132)
  by_cases h0 : 0 ≤ a
  · by_cases h1 : a ≤ 2147483647
    · by_cases h2 : 1 ≤ m
      · by_cases h3 : m ≤ 65535
        · by_cases h4 : 1 ≤ n
          · by_cases h5 : n < m
            · have HM : Hid (decide (mayH a m n) = true) := Lib.hid (decide_eq_true (by unfold mayH; omega))
              go_enter Tryz.func108, Tryz.ntmps108
              go_wp2_with fail
              go_ret
              exact ⟨by rw [HM.out]; rfl, hb⟩
            · have HM : Hid (decide (mayH a m n) = false) := Lib.hid (decide_eq_false (by unfold mayH; omega))
              go_enter Tryz.func108, Tryz.ntmps108
              go_wp2_with fail
              go_ret
              exact ⟨by rw [HM.out]; rfl, hb⟩
          · have HM : Hid (decide (mayH a m n) = false) := Lib.hid (decide_eq_false (by unfold mayH; omega))
            go_enter Tryz.func108, Tryz.ntmps108
            go_wp2_with fail
            go_ret
            exact ⟨by rw [HM.out]; rfl, hb⟩
        · have HM : Hid (decide (mayH a m n) = false) := Lib.hid (decide_eq_false (by unfold mayH; omega))
          go_enter Tryz.func108, Tryz.ntmps108
          go_wp2_with fail
          go_ret
          exact ⟨by rw [HM.out]; rfl, hb⟩
      · have HM : Hid (decide (mayH a m n) = false) := Lib.hid (decide_eq_false (by unfold mayH; omega))
        go_enter Tryz.func108, Tryz.ntmps108
        go_wp2_with fail
        go_ret
        exact ⟨by rw [HM.out]; rfl, hb⟩
    · have HM : Hid (decide (mayH a m n) = false) := Lib.hid (decide_eq_false (by unfold mayH; omega))
      go_enter Tryz.func108, Tryz.ntmps108
      go_wp2_with fail
      go_ret
      exact ⟨by rw [HM.out]; rfl, hb⟩
  · have HM : Hid (decide (mayH a m n) = false) := Lib.hid (decide_eq_false (by unfold mayH; omega))
    go_enter Tryz.func108, Tryz.ntmps108
    go_wp2_with fail
    go_ret
    exact ⟨by rw [HM.out]; rfl, hb⟩

/-- The cells of the list of numbers. -/
def fcells (a m n : Int) : Array Value := #[.int .u64 1, .int .i64 2, .int .u64 62, .int .i64 2, .int .u64 1, .int .i64 4, .int .u64 0, .int .i64 8, .int .u64 0, .int .i64 8, .int .u64 a, .int .i64 8, .int .u64 0, .int .i64 4, .int .u64 64, .int .i64 2, .int .u64 0, .int .i64 2, .int .u64 0, .int .i64 2, .int .u64 64, .int .i64 2, .int .u64 m, .int .i64 2, .int .u64 n, .int .i64 2]
theorem hfields_any (a m n : Nat) (w : World) (ha : a ≤ 2147483647) (hm : m ≤ 65535) (hn : n ≤ 65535) :
    Calls Tryz.prog 109 #[hd3 a m n] w fun e w' => e = .returned (.slice (some ⟨w.heap.size + 1, 0, none⟩) 13 13) ∧ w' = (w.alloc (.cells #[.int .i64 (a : Int), .int .i64 (m : Int), .int .i64 (n : Int)] 132)).alloc (.cells (fcells a m n) 168) := by
  have e1 : IntKind.u64.wrap (a : Int) = (a : Int) := by rw [conv_u64, show u64n (a : Int) = a from u64n_nat a (by omega)]
  have e2 : IntKind.u64.wrap (m : Int) = (m : Int) := by rw [conv_u64, show u64n (m : Int) = m from u64n_nat m (by omega)]
  have e3 : IntKind.u64.wrap (n : Int) = (n : Int) := by rw [conv_u64, show u64n (n : Int) = n from u64n_nat n (by omega)]
  clear ha hm hn
  go_enter Tryz.func109, Tryz.ntmps109
  go_wp2_with fail
  go_ret
  refine ⟨?_, ?_⟩
  · rfl
  · rfl
/-- What the cells are: a number, and of how many bytes it is. -/
theorem fcells_at (a m n : Nat) (k : Nat) (hk : k < 13) : ∃ v wd : Nat, (hdrL a m n)[2 * k]? = some (v : Int) ∧ (hdrL a m n)[2 * k + 1]? = some (wd : Int) ∧ (fcells a m n)[2 * k]? = some (.int .u64 (v : Int)) ∧ (fcells a m n)[2 * k + 1]? = some (.int .i64 (wd : Int)) := by
  match k, hk with
  | 0, _ => exact ⟨1, 2, rfl, rfl, rfl, rfl⟩
  | 1, _ => exact ⟨62, 2, rfl, rfl, rfl, rfl⟩
  | 2, _ => exact ⟨1, 4, rfl, rfl, rfl, rfl⟩
  | 3, _ => exact ⟨0, 8, rfl, rfl, rfl, rfl⟩
  | 4, _ => exact ⟨0, 8, rfl, rfl, rfl, rfl⟩
  | 5, _ => exact ⟨a, 8, rfl, rfl, rfl, rfl⟩
  | 6, _ => exact ⟨0, 4, rfl, rfl, rfl, rfl⟩
  | 7, _ => exact ⟨64, 2, rfl, rfl, rfl, rfl⟩
  | 8, _ => exact ⟨0, 2, rfl, rfl, rfl, rfl⟩
  | 9, _ => exact ⟨0, 2, rfl, rfl, rfl, rfl⟩
  | 10, _ => exact ⟨64, 2, rfl, rfl, rfl, rfl⟩
  | 11, _ => exact ⟨m, 2, rfl, rfl, rfl, rfl⟩
  | 12, _ => exact ⟨n, 2, rfl, rfl, rfl, rfl⟩

end Go.Proofs.YtenmcmnhiejbgaaGreat

namespace Go.Proofs.YtenmcmnhiejbgaaGreat
open Go.RowKit

/-- A row of another type is not the row's block. -/
theorem apart_block {w : World} {base : Nat} {e e2 : TypeId} {s n g : Nat} {v : Value} {xs : List Value} {cs : Array Value} (h : w.ownsRow base e s v n xs) (hg : w.heap[g]? = some (.cells cs e2 (0, 0))) (he : e ≠ e2) : some g ≠ v.ownBlock := by
  rcases h.2 with ⟨rfl, _⟩ | ⟨g', cap, cur, rfl, _, hg', _⟩
  · simp [Value.ownBlock]
  · simp only [Value.ownBlock, ne_eq, Option.some.injEq]
    intro e
    subst e
    rw [hg] at hg'
    simp only [Option.some.injEq, Obj.cells.injEq] at hg'
    exact he hg'.2.1.symm
theorem lt_of_heap {w : World} {g : Nat} {o : Obj} (h : w.heap[g]? = some o) : g < w.heap.size := (Array.getElem?_eq_some_iff.1 h).1
theorem heap_of_below {w w' : World} {B g : Nat} {o : Obj} (hb : Below B w w') (hg : w.heap[g]? = some o) (hB : g < B) : w'.heap[g]? = some o := by
  rw [hb.block g hB]; exact hg

theorem hPut_no (a m n : Int) (w : World) (h : ¬ mayH a m n) : Calls Tryz.prog 71 #[hd3 a m n] w (GivesH 0 [] w) := by
  have HM := Lib.hid fun W => hmay_any a m n W
  rw [decide_eq_false h] at HM
  clear h
  go_enter Tryz.func71, Tryz.ntmps71
  go_wp2_with fail
  refine (HM.out _).mono ?_
  rintro e w1 ⟨rfl, hb⟩
  have hb1 : Below w.heap.size w w1 := ((Below.refl _ w).alloc (Nat.le_refl _) _).trans (hb.mono (by simp))
  clear hb
  go_wp2_with fail
  go_ret
  exact ⟨none, 0, rfl, rfl, Nat.le_refl _, Nat.zero_le _, Has.none_ _ _, hb1⟩

set_option maxHeartbeats 2000000 in
theorem hPut_yes (a m n : Nat) (w : World) (h : mayH a m n) : Calls Tryz.prog 71 #[hd3 a m n] w (Gives (hdrB a m n) w) := by
  have HM := Lib.hid fun W => hmay_any a m n W
  rw [decide_eq_true h] at HM
  obtain ⟨h1, h2, h3, h4, h5, h6⟩ := h
  have HF := Lib.hid fun W => hfields_any a m n W (by omega) (by omega) (by omega)
  have HC := Lib.hid (fcells_at a m n)
  have HW := Lib.hid (hdr_wid a m n)
  have HD := Lib.hid (hdr_bd (a := a) (m := m) (n := n) (by omega) (by omega) (by omega))
  have hsz : (fcells a m n).size = 26 := rfl
  have HZ := Lib.hid hsz
  obtain ⟨i0, hi, hz0, hz1, hz2⟩ := info_parts Tryz.infoU8
  have HI := Lib.hid hi
  have H0 := Lib.hid hz0
  have H1 := Lib.hid hz1
  have H2 := Lib.hid hz2
  have hxl : (hdrL a m n).length = 26 := rfl
  have HXL := Lib.hid hxl
  have hdr : hdrB a m n = ident ++ numsB (hdrL a m n) := rfl
  have HDR := Lib.hid hdr
  clear hi hz0 hz1 hz2 h1 h2 h3 h4 h5 h6 hsz hxl hdr
  go_enter Tryz.func71, Tryz.ntmps71
  go_wp2_with fail
  refine (HM.out _).mono ?_
  rintro e w1 ⟨rfl, hb⟩
  have hb1 : Below w.heap.size w w1 := ((Below.refl _ w).alloc (Nat.le_refl _) _).trans (hb.mono (by simp))
  have c0 : w1.cell? ⟨w.heap.size, 0, none⟩ = some (.int .i64 (a : Int)) := by rw [hb.cell (by simp)]; simp
  have c1 : w1.cell? ⟨w.heap.size, 1, none⟩ = some (.int .i64 (m : Int)) := by rw [hb.cell (by simp)]; simp
  have c2 : w1.cell? ⟨w.heap.size, 2, none⟩ = some (.int .i64 (n : Int)) := by rw [hb.cell (by simp)]; simp
  have hz : w.heap.size < w1.heap.size := by have := hb.size; simp at this; omega
  clear hb
  go_wp2_with fail
  refine (HF.out _).mono ?_
  rintro e w2 ⟨rfl, rfl⟩
  go_wp2_with fail
  obtain ⟨gp, hgp⟩ : ∃ gp, gp = w1.heap.size := ⟨_, rfl⟩
  have hown0 := lit_owns w1 ident 16 #[.int .u8 127, .int .u8 69, .int .u8 76, .int .u8 70, .int .u8 2, .int .u8 1, .int .u8 1, .int .u8 0, .int .u8 0, .int .u8 0, .int .u8 0, .int .u8 0, .int .u8 0, .int .u8 0, .int .u8 0, .int .u8 0] rfl rfl (by unfold maxLen; omega)
  obtain ⟨w3, hw3⟩ : ∃ w3 : World, w3 = (((w1.alloc (.cells #[.int .u8 127, .int .u8 69, .int .u8 76, .int .u8 70, .int .u8 2, .int .u8 1, .int .u8 1, .int .u8 0, .int .u8 0, .int .u8 0, .int .u8 0, .int .u8 0, .int .u8 0, .int .u8 0, .int .u8 0, .int .u8 0] 5)).alloc (.cells #[.int .i64 (a : Int), .int .i64 (m : Int), .int .i64 (n : Int)] 132)).alloc (.cells (fcells a m n) 168)) := ⟨_, rfl⟩
  have hown3 : w3.ownsRow w.heap.size 5 1 (.slice (some ⟨gp, 0, none⟩) 16 16) 16 (ident.map u8v) := by
    rw [hw3, hgp]
    exact owns_lower ((hown0.alloc _).alloc _) (by omega)
  have hf3 : w3.heap[gp + 1 + 1]? = some (.cells (fcells a m n) 168 (0, 0)) := by
    rw [hw3, hgp]
    have := heap_alloc_new ((w1.alloc (.cells #[.int .u8 127, .int .u8 69, .int .u8 76, .int .u8 70, .int .u8 2, .int .u8 1, .int .u8 1, .int .u8 0, .int .u8 0, .int .u8 0, .int .u8 0, .int .u8 0, .int .u8 0, .int .u8 0, .int .u8 0, .int .u8 0] 5)).alloc (.cells #[.int .i64 (a : Int), .int .i64 (m : Int), .int .i64 (n : Int)] 132)) (.cells (fcells a m n) 168)
    simpa using this
  have hb3 : Below w.heap.size w w3 := by
    rw [hw3]
    exact ((hb1.alloc hb1.size _).alloc (by simp; omega) _).alloc (by simp; omega) _
  rw [← hgp, ← hw3]
  have hgl : w.heap.size < gp + 1 + 1 := by omega
  clear hw3 hown0 hb1 c0 c1 c2 hgp hz
  clear w1
  go_loopw [3, 5, 13] (fun out _ ii wr => ∃ k q : Nat, k ≤ 13 ∧ q ≤ 16 + 8 * k ∧ ii = .int .i64 (k : Int) ∧ wr.ownsRow w.heap.size 5 1 out q ((ident ++ numsB ((hdrL a m n).take (2 * k))).map u8v) ∧ wr.heap[gp + 1 + 1]? = some (.cells (fcells a m n) 168 (0, 0)) ∧ Below w.heap.size w wr) (fun _ _ ii _ => 13 - (intOf ii).toNat)
  case atStart => exact ⟨0, 16, Nat.zero_le _, Nat.le_refl _, rfl, by simpa [numsB] using hown3, hf3, hb3⟩
  case round =>
    obtain ⟨k, q, hk, hq, rfl, hown, hcs, hb⟩ := hrel
    by_cases hlt : k < 13
    · obtain ⟨v, wd, hx1, hx2, hy1, hy2⟩ := HC.out k hlt
      have d1 : wr.cell? ⟨gp + 1 + 1, k * 2, none⟩ = some (.int .u64 (v : Int)) := by
        rw [cell_of_row wr (gp + 1 + 1) (k * 2) _ _ (0, 0) hcs, Nat.mul_comm]; exact hy1
      have d2 : wr.cell? ⟨gp + 1 + 1, k * 2 + 1, none⟩ = some (.int .i64 (wd : Int)) := by
        rw [cell_of_row wr (gp + 1 + 1) (k * 2 + 1) _ _ (0, 0) hcs, Nat.mul_comm]; exact hy2
      have hI : (k : Int) < 13 := by omega
      have hI0 : (0 : Int) ≤ (k : Int) := by omega
      have hwid := HW.out k wd hx2
      have hwd := (wid_iff wd).1 hwid
      have hvb := HD.out (2 * k) v hx1
      have hun : u64n (v : Int) = v := u64n_nat v (by omega)
      have ht2 := numsB_two (k := k) hx1 hx2
      rw [hun, Int.toNat_natCast] at ht2
      have HT := Lib.hid ht2
      have HP := Lib.hid fun W => (put_yes v wd W (by omega) hwid).mono fun _ _ x => x.toH
      have hw1 : 1 ≤ wd := by omega
      have hw8 : wd ≤ 8 := by omega
      rw [leB_length] at HP
      have hgs : gp + 1 + 1 < wr.heap.size := World.block_lt_of_cell? wr _ d1
      clear hx1 hx2 hy1 hy2 hwid hwd hvb hun ht2 hown3 hf3 hb3
      go_wp2_with fail
      refine (HP.out _).mono ?_
      rintro e w2 ⟨p2, c2, rfl, hl2, hnc2, hcm2, hH2, hbb2⟩
      have hbA : Below w.heap.size w (wr.alloc (.cells #[.int .u64 (v : Int), .int .i64 (wd : Int)] 168)) := hb.alloc hb.size _
      have hb2 : Below w.heap.size w w2 := hbA.trans (hbb2.mono (by exact hbA.size))
      have hown2 := owns_below (hown.alloc (.cells #[.int .u64 (v : Int), .int .i64 (wd : Int)] 168)) hbb2
      have hcs2 : w2.heap[gp + 1 + 1]? = some (.cells (fcells a m n) 168 (0, 0)) := by
        refine heap_of_below hbb2 ?_ (by simp; omega)
        rw [Below.heap_alloc _ _ _ hgs]
        exact hcs
      have hap := apart_block hown2 hcs2 (by decide)
      obtain ⟨b2, o2, rfl, _⟩ := hH2.plain (by rw [hl2]; omega)
      have HH2 := Lib.hid hH2
      have HL2 := Lib.hid hl2
      clear hH2 hl2 hbb2 hbA hown hcs hb d1 d2
      go_wp2_with (at_builtin; refine wpList_append_own _ rfl _ _ 31 rfl w.heap.size 5 i0 (.int .u8 0) 1 1 Tryz.underlying31 HI.out H0.out H1.out H2.out rfl (by decide) _ q _ rfl hown2 ⟨b2, o2, none⟩ wd c2 ((leB wd v).map u8v) rfl (by rw [List.length_map, HL2.out, Nat.mul_one]) HH2.out.cells (map_oneCell _) (by unfold maxLen; omega) (by omega) hb2.size ?_)
      intro v3 w4 hown4 hgrow _
      have hb4 : Below w.heap.size w w4 := hb2.grown hgrow hb2.size (fun g hg => (hown2.lt g hg).1)
      have hcs4 : w4.heap[gp + 1 + 1]? = some (.cells (fcells a m n) 168 (0, 0)) := by
        rw [hgrow.block _ (lt_of_heap hcs2) hap]; exact hcs2
      have hown5 : w4.ownsRow w.heap.size 5 1 v3 (q + wd) ((ident ++ numsB ((hdrL a m n).take (2 * (k + 1)))).map u8v) := by
        rw [HT.out, ← List.append_assoc, List.map_append, List.map_append]
        simpa using hown4
      clear hown4
      clear hgrow hown2 hb2 hcs2 hap
      go_wp2_with fail
      go_roundw
      case rel => exact ⟨k + 1, q + wd, hlt, by omega, by go_num, hown5, hcs4, hb4⟩
      case measure => simp [intOf]; omega
    · obtain rfl : k = 13 := by omega
      have ht : (hdrL a m n).take (2 * 13) = hdrL a m n := List.take_of_length_le (by rw [HXL.out]; omega)
      rw [ht, ← HDR.out] at hown
      have hn1 : (hdrB a m n).length = q := by have := hown.1; simpa using this
      clear ht
      go_wp2_with fail
      go_ret
      exact ⟨_, rfl, by rw [hn1]; exact hown, hb⟩

theorem cell_two (w : World) (o : Obj) (cs : Array Value) (t : TypeId) (i : Nat) (v : Value) (h : cs[i]? = some v) : ((w.alloc o).alloc (.cells cs t)).drew.cell? ⟨w.heap.size + 1, i, none⟩ = some v := by
  have hs : (w.alloc o).heap.size = w.heap.size + 1 := by simp
  have hn := heap_alloc_new (w.alloc o) (.cells cs t)
  rw [hs] at hn
  have hc := cell_of_row ((w.alloc o).alloc (.cells cs t)) (w.heap.size + 1) i cs t (0, 0) hn
  exact hc.trans h
/-- What Put tells, at any head. -/
def hputO (a m n : Int) : List UInt8 := if mayH a m n then hdrB a.toNat m.toNat n.toNat else []
theorem hPut_any (a m n : Int) (w : World) : Calls Tryz.prog 71 #[hd3 a m n] w (GivesH (hputO a m n).length (hputO a m n) w) := by
  by_cases h : mayH a m n
  · obtain ⟨x, rfl⟩ := Int.eq_ofNat_of_zero_le h.1
    obtain ⟨y, rfl⟩ := Int.eq_ofNat_of_zero_le (show 0 ≤ m by have := h.2.2.1; omega)
    obtain ⟨z, rfl⟩ := Int.eq_ofNat_of_zero_le (show 0 ≤ n by have := h.2.2.2.2.1; omega)
    have e : hputO x y z = hdrB x y z := by simp only [hputO, if_pos h]; rfl
    rw [e]
    exact (hPut_yes x y z w h).mono fun _ _ h => h.toH
  · have e : hputO a m n = [] := by simp only [hputO, if_neg h]
    rw [e]
    exact hPut_no a m n w h
theorem wrap64_small (n : Nat) (h : n < 9223372036854775808) : wrap64 (n : Int) = n := by unfold wrap64; omega
theorem hgot_by (l : List UInt8) (h64 : 64 ≤ l.length) (a m n : Int) (ha : a = wrap64 (num (win l 40 8) : Int)) (hm : m = (num (win l 60 2) : Int)) (hn : n = (num (win l 62 2) : Int)) :
    hgot l = .returned (if l.take 64 = hputO a m n then .tuple #[hd3 a m n, .bool true] else .tuple #[hd3 0 0 0, .bool false]) := by
  have hb : num (win l 40 8) < 18446744073709551616 := num_lt64 _ (by rw [win_length l 40 8 (by omega)]; omega)
  by_cases hmay : mayH a m n
  · obtain ⟨h1, h2, h3, h4, h5, h6⟩ := hmay
    have e1 : a = (num (win l 40 8) : Int) := by rw [ha] at h1 ⊢; unfold wrap64 at h1 ⊢; omega
    subst e1 hm hn
    have e : hputO (num (win l 40 8)) (num (win l 60 2)) (num (win l 62 2)) = hdrB (num (win l 40 8)) (num (win l 60 2)) (num (win l 62 2)) := by
      simp only [hputO, if_pos (show mayH _ _ _ from ⟨h1, h2, h3, h4, h5, h6⟩)]; rfl
    rw [e]
    by_cases hq : l.take 64 = hdrB (num (win l 40 8)) (num (win l 60 2)) (num (win l 62 2))
    · have := (begunB_iff l (num (win l 40 8)) (num (win l 60 2)) (num (win l 62 2))).2 ⟨⟨h1, h2, h3, h4, h5, h6⟩, hq.symm⟩
      unfold hgot
      rw [this, if_pos hq]
    · unfold hgot begunB
      rw [if_neg fun hc => hq hc.2.2.symm, if_neg hq]
  · have e : hputO a m n = [] := by simp only [hputO, if_neg hmay]
    have hl : ¬ l.take 64 = [] := fun e => by have := congrArg List.length e; rw [List.length_take, List.length_nil] at this; omega
    rw [e, if_neg hl]
    unfold hgot begunB
    rw [if_neg fun hc => hmay (by
      have h2 := hc.2.1.2.1
      have e1 : a = (num (win l 40 8) : Int) := by rw [ha]; unfold wrap64; omega
      rw [e1, hm, hn]; exact hc.2.1)]

theorem hGet_short (p : Option Addr) (len cap : Nat) (w : World) (h : len < 64) :
    Calls Tryz.prog 82 #[.slice p len cap] w fun e w' => e = .returned (.tuple #[hd3 0 0 0, .bool false]) ∧ Below w.heap.size w w' := by
  have hI : (len : Int) < 64 := by omega
  have hb := (Below.refl _ w).alloc (Nat.le_refl _) (.cells #[.int .i64 0, .int .i64 0, .int .i64 0] 132)
  go_enter Tryz.func82, Tryz.ntmps82
  go_wp2_with fail
  exact bodyPost_ret (v := .tuple #[hd3 0 0 0, .bool false]) (by simp [results, Tryz.results82, go_sem]) rfl ⟨rfl, hb⟩

/-- What Get's region asks: Put of the head that it has laid, and Equal of what that tells. -/
theorem hput_then (w : World) (x y z : Int) (b off cap n : Nat) (put : List UInt8) (D : Bool) (HP : ∀ W, Calls Tryz.prog 71 #[hd3 x y z] W (GivesH n put W))
    (HE : ∀ W, Below w.heap.size w W → ∀ q c, Has W q put → Calls Tryz.prog 117 #[.slice (some ⟨b, off, none⟩) 64 cap, .slice q n c] W fun e w' => e = .returned (.bool D) ∧ W = w') :
    Calls Tryz.prog 71 #[hd3 x y z] ((w.alloc (.cells #[.int .i64 0, .int .i64 0, .int .i64 0] 132)).alloc (.cells #[.int .i64 x, .int .i64 y, .int .i64 z] 132)).drew fun e w2 => ∃ p2 c2, e = .returned (.slice p2 n c2) ∧ Below w.heap.size w w2 ∧
      (w2.cell? ⟨w.heap.size, 0, none⟩ = some (.int .i64 0) ∧ w2.cell? ⟨w.heap.size, 1, none⟩ = some (.int .i64 0) ∧ w2.cell? ⟨w.heap.size, 2, none⟩ = some (.int .i64 0)) ∧
      (w2.frozen? ⟨w.heap.size, 0, none⟩ = false ∧ w2.frozen? ⟨w.heap.size, 1, none⟩ = false ∧ w2.frozen? ⟨w.heap.size, 2, none⟩ = false) ∧
      (w2.cell? ⟨w.heap.size + 1, 0, none⟩ = some (.int .i64 x) ∧ w2.cell? ⟨w.heap.size + 1, 1, none⟩ = some (.int .i64 y) ∧ w2.cell? ⟨w.heap.size + 1, 2, none⟩ = some (.int .i64 z)) ∧
      w.heap.size + 1 < w2.heap.size ∧
      Calls Tryz.prog 117 #[.slice (some ⟨b, off, none⟩) 64 cap, .slice p2 n c2] w2 (fun e w' => e = .returned (.bool D) ∧ w2 = w') := by
  refine (HP _).mono ?_
  rintro e w2 ⟨p2, c2, rfl, _, _, _, hH2, hb2⟩
  have hbz : Below w.heap.size w (w.alloc (.cells #[.int .i64 0, .int .i64 0, .int .i64 0] 132)) := (Below.refl _ w).alloc (Nat.le_refl _) _
  have hbX : Below w.heap.size w w2 := ((hbz.alloc (by simp) _).drew).trans (hb2.mono (by simp; omega))
  have q0 := cell_two w (.cells #[.int .i64 0, .int .i64 0, .int .i64 0] 132) #[.int .i64 x, .int .i64 y, .int .i64 z] 132 0 (.int .i64 x) rfl
  have q1 := cell_two w (.cells #[.int .i64 0, .int .i64 0, .int .i64 0] 132) #[.int .i64 x, .int .i64 y, .int .i64 z] 132 1 (.int .i64 y) rfl
  have q2 := cell_two w (.cells #[.int .i64 0, .int .i64 0, .int .i64 0] 132) #[.int .i64 x, .int .i64 y, .int .i64 z] 132 2 (.int .i64 z) rfl
  refine ⟨p2, c2, rfl, hbX, ⟨?_, ?_, ?_⟩, ⟨?_, ?_, ?_⟩, ⟨?_, ?_, ?_⟩, ?_, HE w2 hbX p2 c2 hH2⟩
  · rw [hb2.cell (by simp; omega)]; simp
  · rw [hb2.cell (by simp; omega)]; simp
  · rw [hb2.cell (by simp; omega)]; simp
  · rw [hb2.frozen (by simp; omega)]; simp
  · rw [hb2.frozen (by simp; omega)]; simp
  · rw [hb2.frozen (by simp; omega)]; simp
  · rw [hb2.cell (by simp)]; exact q0
  · rw [hb2.cell (by simp)]; exact q1
  · rw [hb2.cell (by simp)]; exact q2
  · have := hb2.size; simp at this; omega

set_option maxHeartbeats 1000000 in
theorem hGet_long (p : Option Addr) (len cap : Nat) (l : List UInt8) (w : World) (h : Has w p l) (hlen : l.length = len) (hcap : len ≤ cap) (h64 : 64 ≤ len) (hm : cap ≤ maxLen) :
    Calls Tryz.prog 82 #[.slice p len cap] w fun e w' => e = hgot l ∧ Below w.heap.size w w' := by
  have hm' := hm
  unfold maxLen at hm'
  obtain ⟨b, off, rfl, _⟩ := h.plain (by omega)
  have g1 : getB l 40 8 = num (win l 40 8) := by rw [getB, if_pos ((fitB_iff _ _ _).2 (by omega))]; rfl
  have g2 : getB l 60 2 = num (win l 60 2) := by rw [getB, if_pos ((fitB_iff _ _ _).2 (by omega))]; rfl
  have g3 : getB l 62 2 = num (win l 62 2) := by rw [getB, if_pos ((fitB_iff _ _ _).2 (by omega))]; rfl
  have b2 := num_lt (win l 60 2)
  have b3 := num_lt (win l 62 2)
  rw [win_length l 60 2 (by omega)] at b2
  rw [win_length l 62 2 (by omega)] at b3
  have hN1 := fun W (hb : Below w.heap.size w W) => number_any (some ⟨b, off, none⟩) len cap l 40 8 W (h.below hb) hlen hcap hm
  have hN2 := fun W (hb : Below w.heap.size w W) => number_any (some ⟨b, off, none⟩) len cap l 60 2 W (h.below hb) hlen hcap hm
  have hN3 := fun W (hb : Below w.heap.size w W) => number_any (some ⟨b, off, none⟩) len cap l 62 2 W (h.below hb) hlen hcap hm
  rw [g1] at hN1
  rw [g2, wrap64_small _ (by omega)] at hN2
  rw [g3, wrap64_small _ (by omega)] at hN3
  have hO := hgot_by l (by omega) _ _ _ rfl rfl rfl
  have hE := fun W (hb : Below w.heap.size w W) q n c r (hq : Has W q r) (hr : r.length = n) => equal_any (some ⟨b, off, none⟩) q 64 cap n c (l.take 64) r W (by
      have h0 := (h.cut 0 64 len (by omega) (by omega)).below hb
      rw [if_neg (by omega), List.drop_zero] at h0
      have hz : (⟨b, off, none⟩ : Addr).add 0 = ⟨b, off, none⟩ := by unfold Addr.add; rfl
      simp only [Option.map_some, hz] at h0
      exact h0) hq (by simp; omega) hr
  generalize wrap64 (num (win l 40 8) : Int) = x at *
  generalize (num (win l 60 2) : Int) = y at *
  generalize (num (win l 62 2) : Int) = z at *
  obtain ⟨n, put, D, hP, hE2, hO2⟩ : ∃ (n : Nat) (put : List UInt8) (D : Bool), (∀ W, Calls Tryz.prog 71 #[hd3 x y z] W (GivesH n put W)) ∧
      (∀ W, Below w.heap.size w W → ∀ q c, Has W q put → Calls Tryz.prog 117 #[.slice (some ⟨b, off, none⟩) 64 cap, .slice q n c] W fun e w' => e = .returned (.bool D) ∧ W = w') ∧
      hgot l = .returned (bif D then .tuple #[hd3 x y z, .bool true] else .tuple #[hd3 0 0 0, .bool false]) := by
    refine ⟨(hputO x y z).length, hputO x y z, decide (l.take 64 = hputO x y z), fun W => hPut_any x y z W, fun W hb q c hq => hE W hb q _ c _ hq rfl, ?_⟩
    rw [hO]
    by_cases hq : l.take 64 = hputO x y z
    · rw [if_pos hq, decide_eq_true hq]; rfl
    · rw [if_neg hq, decide_eq_false hq]; rfl
  have N1 := Lib.hid hN1
  have N2 := Lib.hid hN2
  have N3 := Lib.hid hN3
  rw [hO2]
  have HPX := Lib.hid (hput_then w x y z b off cap n put D hP hE2)
  clear hO2 hE2 hP
  have hI : ¬ (len : Int) < 64 := by omega
  have h64c : 64 ≤ cap := by omega
  have h64i : (64 : Int) ≤ (cap : Int) := by omega
  have hc0 : ¬ cap = 0 := by omega
  have q0 := cell_two w (.cells #[.int .i64 0, .int .i64 0, .int .i64 0] 132) #[.int .i64 x, .int .i64 y, .int .i64 z] 132 0 (.int .i64 x) rfl
  have q1 := cell_two w (.cells #[.int .i64 0, .int .i64 0, .int .i64 0] 132) #[.int .i64 x, .int .i64 y, .int .i64 z] 132 1 (.int .i64 y) rfl
  have q2 := cell_two w (.cells #[.int .i64 0, .int .i64 0, .int .i64 0] 132) #[.int .i64 x, .int .i64 y, .int .i64 z] 132 2 (.int .i64 z) rfl
  have hbz : Below w.heap.size w (w.alloc (.cells #[.int .i64 0, .int .i64 0, .int .i64 0] 132)) := (Below.refl _ w).alloc (Nat.le_refl _) _
  clear hN1 hN2 hN3 hO hE h hlen g1 g2 g3 b2 b3
  go_enter Tryz.func82, Tryz.ntmps82
  go_wp2_with fail
  refine (N1.out _ hbz).mono ?_
  rintro e w' ⟨rfl, rfl⟩
  go_wp2_with fail
  refine (N2.out _ hbz).mono ?_
  rintro e w' ⟨rfl, rfl⟩
  go_wp2_with fail
  refine (N3.out _ hbz).mono ?_
  rintro e w' ⟨rfl, rfl⟩
  clear N1 N2 N3 hm hm' hcap h64 h64c
  go_wp2_with fail
  cases D with
  | true =>
    go_region_held3 (fun w' => w'.cell? ⟨w.heap.size + 1, 0, none⟩ = some (.int .i64 x) ∧ w'.cell? ⟨w.heap.size + 1, 1, none⟩ = some (.int .i64 y) ∧ w'.cell? ⟨w.heap.size + 1, 2, none⟩ = some (.int .i64 z)) (first | exact ⟨q0, q1, q2⟩ | exact ⟨t0, t1, t2⟩ | fail)
      ((first
      | (go_at_call 71
         refine HPX.out.mono ?_
         rintro e w2 ⟨p2, c2, rfl, hbX, ⟨s0, s1, s2⟩, ⟨f0, f1, f2⟩, ⟨t0, t1, t2⟩, hz2, hEE⟩
         have HEE := Lib.hid hEE
         clear hEE)
      | (go_at_call 117
         refine HEE.out.mono ?_
         rintro e w3 ⟨rfl, rfl⟩)
      | fail))
    go_wp2_with fail
    exact bodyPost_ret (v := .tuple #[hd3 x y z, .bool true]) (by simp [results, Tryz.results82, go_sem, s0, s1, s2]) rfl ⟨rfl, ((hbX.setCell (Nat.le_refl _) _).setCell (Nat.le_refl _) _).setCell (Nat.le_refl _) _⟩
  | false =>
    go_region_held3 (fun w' => w'.cell? ⟨w.heap.size + 1, 0, none⟩ = some (.int .i64 x) ∧ w'.cell? ⟨w.heap.size + 1, 1, none⟩ = some (.int .i64 y) ∧ w'.cell? ⟨w.heap.size + 1, 2, none⟩ = some (.int .i64 z)) (first | exact ⟨q0, q1, q2⟩ | exact ⟨t0, t1, t2⟩ | fail)
      ((first
      | (go_at_call 71
         refine HPX.out.mono ?_
         rintro e w2 ⟨p2, c2, rfl, hbX, ⟨s0, s1, s2⟩, ⟨f0, f1, f2⟩, ⟨t0, t1, t2⟩, hz2, hEE⟩
         have HEE := Lib.hid hEE
         clear hEE)
      | (go_at_call 117
         refine HEE.out.mono ?_
         rintro e w3 ⟨rfl, rfl⟩)
      | fail))
    go_wp2_with fail
    exact bodyPost_ret (v := .tuple #[hd3 0 0 0, .bool false]) (by simp [results, Tryz.results82, go_sem, s0, s1, s2]) rfl ⟨rfl, ((hbX.setCell (Nat.le_refl _) _).setCell (Nat.le_refl _) _).setCell (Nat.le_refl _) _⟩

theorem hGet_any (p : Option Addr) (len cap : Nat) (l : List UInt8) (w : World) (h : Has w p l) (hlen : l.length = len) (hcap : len ≤ cap) (hm : cap ≤ maxLen) :
    Calls Tryz.prog 82 #[.slice p len cap] w fun e w' => e = hgot l ∧ Below w.heap.size w w' := by
  by_cases h64 : 64 ≤ len
  · exact hGet_long p len cap l w h hlen hcap h64 hm
  · have := hGet_short p len cap w (by omega)
    simpa only [hgot, begunB_short (l := l) (by omega)] using this

end Go.Proofs.YtenmcmnhiejbgaaGreat
