/-
  Contract: the reference's Fits: a table of which beginnings fit which.
-/
import Derived.Test.YtnhhmfgneipneaaDoorGlobWords
import Derived.Test.YtnhhmfgneipneaaDoorStrs
import Derived.BigRegion
namespace Go.Proofs.YtnhhmfgneipneaaDoor
open Go.RowKit

theorem Tryd.infoBool : (Tryd.prog.info? 4).map (fun i => (i.zero, i.size, i.bytes)) = some (some (.bool false), 1, 1) := by kernel_rfl

/-- Row i of the table, of n cells, its first j filled in. -/
def gridRow (p s : List UInt8) (i j n : Nat) : List Value := (List.range n).map fun k => .bool (decide (k < j) && cellB p s i k)
theorem grid_length (p s : List UInt8) (i j n : Nat) : (gridRow p s i j n).length = n := by simp [gridRow]
theorem grid_zero (p s : List UInt8) (i n : Nat) : gridRow p s i 0 n = List.replicate n (.bool false) := by
  apply List.ext_getElem?
  intro k
  by_cases hk : k < n
  · simp [gridRow, hk]
  · simp [gridRow, hk]
theorem grid_at {p s : List UInt8} {i j n k : Nat} (hk : k < n) (hj : k < j) : (gridRow p s i j n)[k]? = some (.bool (cellB p s i k)) := by simp [gridRow, hk, hj]
theorem grid_step {p s : List UInt8} {i j n : Nat} (_hj : j < n) : (gridRow p s i j n).set j (.bool (cellB p s i j)) = gridRow p s i (j + 1) n := by
  apply List.ext_getElem?
  intro k
  rw [List.getElem?_set]
  by_cases hk : k < n
  · by_cases e : j = k
    · subst e; simp [gridRow, hk]
    · have : (k < j) ↔ (k < j + 1) := by omega
      simp [gridRow, hk, e, this]
  · have : ¬ j = k := by omega
    simp [gridRow, hk, this]
theorem grid_start (p s : List UInt8) : gridRow p s 0 1 (s.length + 1) = gridRow p s 0 (s.length + 1) (s.length + 1) := by
  apply List.ext_getElem?
  intro k
  by_cases hk : k < s.length + 1
  · cases k with
    | zero => simp [gridRow]
    | succ k => simp [gridRow, hk, cellB_0k p s k (by omega)]
  · simp [gridRow, hk]

theorem u8_is (x y : UInt8) : ((x.toNat : Int) == (y.toNat : Int)) = (x == y) := by
  by_cases h : x = y
  · subst h; simp
  · have h2 : ¬ (x.toNat : Int) = (y.toNat : Int) := fun e => h (UInt8.toNat_inj.1 (by omega))
    have e1 : ((x.toNat : Int) == (y.toNat : Int)) = false := by simpa using h2
    have e2 : (x == y) = false := by simpa using h
    rw [e1, e2]
theorem lst_at {p : ByteArray} {i : Nat} (h : i < p.size) : (lst p)[i]? = some p[i] := by
  have : (lst p)[i]? = some ((lst p)[i]'(by simpa using h)) := List.getElem?_eq_getElem _
  rw [this]
  rfl

set_option maxRecDepth 100000 in
set_option maxHeartbeats 4000000 in
theorem refFits_any (p s : ByteArray) (w : World) (hp : p.size ≤ 1000) (hs : s.size ≤ 1000) :
    Calls Tryd.prog 7 #[.string p, .string s] w fun e w' => e = .returned (.bool (fitR (lst p) (lst s))) ∧ Below w.heap.size w w' := by
  obtain ⟨i0, hi, hz0, hz1, hz2⟩ := info_parts Tryd.infoBool
  have hml : (lst s).length = s.size := by simp
  have hpl : (lst p).length = p.size := by simp
  have hb8 : i0.bytes * (s.size + 1) ≤ 281474976710656 := by rw [hz2]; omega
  have HI := Lib.hid hi
  have H0 := Lib.hid hz0
  have H1 := Lib.hid hz1
  have HM := Lib.hid hml
  have HP := Lib.hid hpl
  have k1 : IntKind.i64.wrap ((s.size : Int) + 1) = ((s.size + 1 : Nat) : Int) := by rw [IntWalk.i64_in _ (by omega)]; omega
  clear hi hz0 hz1 hz2 hml hpl
  go_enter Tryd.func7, Tryd.ntmps7
  go_wp2_with (at_make; refine wpList_make_full _ rfl _ _ 29 rfl w.heap.size 4 i0 (.bool false) 1 Tryd.underlying29 HI.out H0.out H1.out _ _ _ _ (s.size + 1) rfl rfl rfl rfl hb8 (by unfold maxLen; omega) (Nat.le_refl _) ?_)
  intro w1 hown hgrow
  have hbel : Below w.heap.size w w1 := (Below.refl _ w).grown hgrow (Nat.le_refl _) (fun k h => by cases h)
  have hown0 : w1.ownsRow w.heap.size 4 1 (.slice (some ⟨w.heap.size, 0, none⟩) (s.size + 1) (s.size + 1)) (s.size + 1) (gridRow (lst p) (lst s) 0 0 (s.size + 1)) := by
    rw [grid_zero, ← toList_madeCells_one]
    exact hown
  clear hown hgrow
  have hc0 := hown0.cellAt 0 (by omega)
  rw [grid_zero, List.getElem?_replicate, if_pos (by omega)] at hc0
  have hf0 := hown0.frozenAt 0
  have hst := hown0.stored 0 (.bool true)
  have e0 := grid_step (p := lst p) (s := lst s) (i := 0) (j := 0) (n := s.size + 1) (by omega)
  rw [cellB_00] at e0
  rw [e0] at hst
  have hgs := grid_start (lst p) (lst s)
  rw [HM.out] at hgs
  rw [hgs] at hst
  have HS := Lib.hid hst.1
  have hb1 := hbel.setCell (p := ⟨w.heap.size, 0, none⟩) (Nat.le_refl _) (.bool true)
  clear hst e0 hgs hown0
  go_wp2_with fail
  have HS2 := HS.out
  clear HS hc0 hf0 hbel
  generalize w1.setCell ⟨w.heap.size, 0, none⟩ (.bool true) = wz at *
  clear w1
  generalize hg0 : w.heap.size = g0 at *
  go_loopw [5, 6] (fun r5 r6 wr => ∃ i g : Nat, i ≤ p.size ∧ r6 = .int .i64 (i : Int) ∧ r5 = .slice (some ⟨g, 0, none⟩) (s.size + 1) (s.size + 1) ∧ wr.ownsRow g0 4 1 (.slice (some ⟨g, 0, none⟩) (s.size + 1) (s.size + 1)) (s.size + 1) (gridRow (lst p) (lst s) i (s.size + 1) (s.size + 1)) ∧ Below g0 w wr) (fun _ r6 _ => p.size - (intOf r6).toNat)
  case atStart => exact ⟨0, g0, Nat.zero_le _, rfl, rfl, HS2, hb1⟩
  case round =>
    obtain ⟨i, g, hi, rfl, rfl, hrow, hb⟩ := hrel
    clear HS2 hb1
    by_cases hlt : i < p.size
    · have hI1 : (i : Int) < (p.size : Int) := by omega
      have hgw : g0 ≤ wr.heap.size := by rw [← hg0]; exact hb.size
      go_wp2_with (at_make; refine wpList_make_full _ rfl _ _ 29 rfl g0 4 i0 (.bool false) 1 Tryd.underlying29 HI.out H0.out H1.out _ _ _ _ (s.size + 1) rfl rfl rfl rfl hb8 (by unfold maxLen; omega) hgw ?_)
      intro w2 hnx hgrow
      obtain ⟨g2, hg2⟩ : ∃ g2, g2 = wr.heap.size := ⟨_, rfl⟩
      have hgg : g < g2 := by rw [hg2]; exact (hrow.lt g rfl).2
      have hnx0 : w2.ownsRow g0 4 1 (.slice (some ⟨g2, 0, none⟩) (s.size + 1) (s.size + 1)) (s.size + 1) (gridRow (lst p) (lst s) (i + 1) 0 (s.size + 1)) := by
        rw [grid_zero, ← toList_madeCells_one, hg2]
        exact hnx
      have hrow2 := hrow.kept hgrow (.inr (by simp [Value.ownBlock]))
      have hb2 : Below g0 w w2 := hb.grown hgrow hgw (fun k h => by cases h)
      rw [← hg2]
      have hgl : g0 ≤ g2 := by rw [hg2]; exact hgw
      clear hnx hgrow hrow hb hg2 hgw
      have hc0 := hrow2.cellAt 0 (by omega)
      rw [grid_at (by omega) (by omega)] at hc0
      have hd0 := hnx0.cellAt 0 (by omega)
      rw [grid_zero, List.getElem?_replicate, if_pos (by omega)] at hd0
      have hf0 := hnx0.frozenAt 0
      have hc := lst_at hlt
      have hci := cellB_i0 (lst s) hc
      have hst := fun b => hnx0.stored 0 (.bool b)
      have e0 := grid_step (p := lst p) (s := lst s) (i := i + 1) (j := 0) (n := s.size + 1) (by omega)
      obtain ⟨q0, hq0⟩ : ∃ q, q = cellB (lst p) (lst s) i 0 := ⟨_, rfl⟩
      rw [← hq0] at hc0 hci
      have h42 := u8_is p[i] 42
      rw [← h42] at hci
      rw [hci] at e0
      have hrow3 := fun b => hrow2.kept (hst b).2 (.inr (by simp [Value.ownBlock]; omega))
      have hb3 := fun b => hb2.setCell (p := ⟨g2, 0, none⟩) hgl (.bool b)
      have HST := Lib.hid hst
      have HE := Lib.hid e0
      have HR3 := Lib.hid hrow3
      have HB3 := Lib.hid hb3
      clear hst e0 hci hc hq0 h42 hrow3 hb3
      go_upto_region 7 with fail
      go_cut [25] (fun _ wx => wx.ownsRow g0 4 1 (.slice (some ⟨g2, 0, none⟩) (s.size + 1) (s.size + 1)) (s.size + 1) (gridRow (lst p) (lst s) (i + 1) 1 (s.size + 1)) ∧ wx.ownsRow g0 4 1 (.slice (some ⟨g, 0, none⟩) (s.size + 1) (s.size + 1)) (s.size + 1) (gridRow (lst p) (lst s) i (s.size + 1) (s.size + 1)) ∧ Below g0 w wx)
      case first =>
        cases q0 with
        | true =>
          go_wp2_with fail
          go_meet
          exact ⟨by rw [← HE.out]; exact (HST.out _).1, HR3.out _, HB3.out _⟩
        | false =>
          go_wp2_with fail
          go_meet
          exact ⟨by rw [← HE.out]; exact (HST.out _).1, HR3.out _, HB3.out _⟩
      case rest =>
        obtain ⟨hn1, hr1, hb1⟩ := hcut
        clear hrow2 hnx0 hb2 hc0 hd0 hf0 HST HE HR3 HB3
        go_wp2_with fail
        go_loopw [8] (fun r8 wn => ∃ k : Nat, k ≤ s.size ∧ r8 = .int .i64 ((k : Int) + 1) ∧ wn.ownsRow g0 4 1 (.slice (some ⟨g2, 0, none⟩) (s.size + 1) (s.size + 1)) (s.size + 1) (gridRow (lst p) (lst s) (i + 1) (k + 1) (s.size + 1)) ∧ wn.ownsRow g0 4 1 (.slice (some ⟨g, 0, none⟩) (s.size + 1) (s.size + 1)) (s.size + 1) (gridRow (lst p) (lst s) i (s.size + 1) (s.size + 1)) ∧ Below g0 w wn) (fun r8 _ => s.size + 1 - (intOf r8).toNat)
        case atStart => exact ⟨0, Nat.zero_le _, rfl, hn1, hr1, hb1⟩
        case round =>
          obtain ⟨k, hk, rfl, hn, hr, hbk⟩ := hrel
          clear hn1 hr1 hb1
          by_cases hks : k < s.size
          · have hI2 : (k : Int) + 1 ≤ (s.size : Int) := by omega
            have hc := lst_at hlt
            have hx := lst_at hks
            have t1 := hr.cellAt (k + 1) (by omega)
            rw [grid_at (by omega) (by omega)] at t1
            have t2 := hn.cellAt k (by omega)
            rw [grid_at (by omega) (by omega)] at t2
            have t3 := hr.cellAt k (by omega)
            rw [grid_at (by omega) (by omega)] at t3
            have t4 : wr.cell? ⟨g2, k + 1, none⟩ = some (.bool false) := by
              rw [hn.cellAt (k + 1) (by omega)]
              have hkk : k + 1 < s.size + 1 := by omega
              simp [gridRow, hkk]
            have f4 := hn.frozenAt (k + 1)
            have hst := fun b => hn.stored (k + 1) (.bool b)
            have hrow3 := fun b => hr.kept (hst b).2 (.inr (by simp [Value.ownBlock]; omega))
            have hb3 := fun b => hbk.setCell (p := ⟨g2, k + 1, none⟩) hgl (.bool b)
            have e0 := grid_step (p := lst p) (s := lst s) (i := i + 1) (j := k + 1) (n := s.size + 1) (by omega)
            have HST := Lib.hid hst
            have HR3 := Lib.hid hrow3
            have HB3 := Lib.hid hb3
            have hk1 : ((k : Int) + 1).toNat = k + 1 := by omega
            have hk2 : (0 : Int) ≤ (k : Int) + 1 := by omega
            have hk3 : (k : Int) + 1 < (s.size : Int) + 1 := by omega
            clear hst hrow3 hb3 hr hn hbk
            by_cases h42 : p[i] = 42
            · have hq : ((p[i].toNat : Int) == 42) = true := by rw [h42]; rfl
              have hcs := cellB_star (h42 ▸ hc) hx
              obtain ⟨b1, hb1⟩ : ∃ b, b = cellB (lst p) (lst s) i (k + 1) := ⟨_, rfl⟩
              obtain ⟨b2, hb2⟩ : ∃ b, b = cellB (lst p) (lst s) (i + 1) k := ⟨_, rfl⟩
              rw [← hb1] at t1 hcs
              rw [← hb2] at t2 hcs
              rw [hcs] at e0
              have HE := Lib.hid e0
              clear hb1 hb2 hcs e0 hc hx h42 t3
              cases b1 with
              | true =>
                go_wp2_with fail
                go_roundw
                case rel => exact ⟨k + 1, hks, by go_num, by rw [← HE.out]; exact (HST.out _).1, HR3.out _, HB3.out _⟩
                case measure => simp [intOf]; omega
              | false =>
                go_wp2_with fail
                go_roundw
                case rel => exact ⟨k + 1, hks, by go_num, by rw [← HE.out]; exact (HST.out _).1, HR3.out _, HB3.out _⟩
                case measure => simp [intOf]; omega
            · have hq : ((p[i].toNat : Int) == 42) = false := by
                have := u8_is p[i] 42
                rw [show ((42 : UInt8).toNat : Int) = 42 from rfl] at this
                rw [this]
                simpa using h42
              have hcs := cellB_one hc h42 hx
              obtain ⟨b3, hb3⟩ : ∃ b, b = cellB (lst p) (lst s) i k := ⟨_, rfl⟩
              rw [← hb3] at t3 hcs
              rw [hcs] at e0
              have HE := Lib.hid e0
              clear hb3 hcs e0 hc hx h42 t1 t2
              cases b3 with
              | true =>
                by_cases h63 : p[i] = 63
                · have hq3 : ((p[i].toNat : Int) == 63) = true := by rw [h63]; rfl
                  have hqe : (p[i] == 63) = true := by rw [h63]; rfl
                  rw [hqe] at HE
                  clear h63 hqe
                  go_wp2_with fail
                  go_region
                  all_goals
                    go_wp2_with fail
                    go_roundw
                    case rel => exact ⟨k + 1, hks, by go_num, by rw [← HE.out]; exact (HST.out _).1.drew, (HR3.out _).drew, (HB3.out _).drew⟩
                    case measure => simp [intOf]; omega
                · have hq3 : ((p[i].toNat : Int) == 63) = false := by
                    have := u8_is p[i] 63
                    rw [show ((63 : UInt8).toNat : Int) = 63 from rfl] at this
                    rw [this]
                    simpa using h63
                  have hqe : (p[i] == 63) = false := by simpa using h63
                  rw [hqe, ← u8_is] at HE
                  clear h63 hqe
                  go_wp2_with fail
                  go_region
                  all_goals
                    go_wp2_with fail
                    go_roundw
                    case rel => exact ⟨k + 1, hks, by go_num, by rw [← HE.out]; exact (HST.out _).1.drew, (HR3.out _).drew, (HB3.out _).drew⟩
                    case measure => simp [intOf]; omega
              | false =>
                go_wp2_with fail
                go_region
                all_goals
                  go_wp2_with fail
                  go_roundw
                  case rel => exact ⟨k + 1, hks, by go_num, by rw [← HE.out]; exact (HST.out _).1.drew, (HR3.out _).drew, (HB3.out _).drew⟩
                  case measure => simp [intOf]; omega
          · have hks2 : k = s.size := by omega
            have hI2 : ¬ (k : Int) + 1 ≤ (s.size : Int) := by omega
            rw [hks2] at hn
            clear hks2
            go_wp2_with fail
            go_roundw
            case rel => exact ⟨i + 1, g2, hlt, by go_num, rfl, hn, hbk⟩
            case measure => simp [intOf]; omega
    · obtain rfl : i = p.size := by omega
      have hcl := hrow.cellAt s.size (by omega)
      rw [grid_at (by omega) (by omega), cellB_all _ _ _ _ (by rw [HP.out]; exact Nat.le_refl _) (by rw [HM.out]; exact Nat.le_refl _)] at hcl
      subst hg0
      clear hrow
      go_wp2_with fail
      go_ret
      exact ⟨rfl, hb⟩

end Go.Proofs.YtnhhmfgneipneaaDoor
