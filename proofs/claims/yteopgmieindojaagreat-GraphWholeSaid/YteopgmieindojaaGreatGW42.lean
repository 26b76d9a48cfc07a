/-
  Parts of a proof.
-/
import Derived.Test.YteopgmieindojaaGreatGW31
import Derived.Test.YteopgmieindojaaGreatGW27
import Derived.Deep.RegionWith
import Derived.Deep.DeepCutAuto
import Derived.StillTailTactics
import Derived.Test.YteopgmieindojaaGreatGW32
import Derived.Deep.RegionHeld3
import Derived.Deep.AppendLies
import Derived.Test.YteopgmieindojaaGreatGW40
import Derived.Test.YteopgmieindojaaGreatGW41
namespace Go.Proofs.YteopgmieindojaaGreat
open Go.RowKit
def tfcells (b : Nat) : Array Value := #[.pointer (some ⟨b, 0, none⟩), .int .i64 4, .pointer (some ⟨b, 1, none⟩), .int .i64 4, .pointer (some ⟨b, 2, none⟩), .int .i64 8, .pointer (some ⟨b, 3, none⟩), .int .i64 8, .pointer (some ⟨b, 4, none⟩), .int .i64 8, .pointer (some ⟨b, 5, none⟩), .int .i64 8, .pointer (some ⟨b, 6, none⟩), .int .i64 4, .pointer (some ⟨b, 7, none⟩), .int .i64 4, .pointer (some ⟨b, 8, none⟩), .int .i64 8, .pointer (some ⟨b, 9, none⟩), .int .i64 8]
set_option maxRecDepth 100000 in
set_option maxHeartbeats 2000000 in
theorem tfields_any (b : Nat) (w : World) : Calls Tryz.prog 170 #[.pointer (some ⟨b, 0, none⟩)] w fun e w' => e = .returned (.slice (some ⟨w.heap.size, 0, none⟩) 10 10) ∧ w' = (w.alloc (.cells (tfcells b) 271)).drew := by
 go_enter Tryz.func170, Tryz.ntmps170
 go_wp2_with fail
 go_still_tail 40, (by kernel_rfl)
 change wpList _ _ _ _ _ w.drew
 go_wp2_with fail
 go_ret
 refine ⟨?_, ?_⟩
 ·rfl
 ·rfl
def toff : List Nat := [0, 4, 8, 16, 24, 32, 40, 44, 48, 56, 64]
theorem tfcells_at (b k : Nat) (hk : k < 10) : ∃ o wd : Nat, toff[k]? = some o ∧ toff[k + 1]? = some (o + wd) ∧ (wd = 4 ∨ wd = 8) ∧ o + wd ≤ 64 ∧ (tfcells b)[2 * k]? = some (.pointer (some ⟨b, k, none⟩)) ∧ (tfcells b)[2 * k + 1]? = some (.int .i64 (wd : Int)) ∧
  (∀ t : Ten, ∃ x, t.l[k]? = some x ∧ t.nums[2 * k]? = some x ∧ t.nums[2 * k + 1]? = some (wd : Int)) ∧ (∀ l a, (tenAt l a).l[k]? = some (numI l (a + o) wd)) := by
 match k, hk with
 | 0, _ => exact ⟨0, 4, rfl, rfl, .inl rfl, by omega, rfl, rfl, fun t => ⟨t.a, rfl, rfl, rfl⟩, fun _ _ => rfl⟩
 | 1, _ => exact ⟨4, 4, rfl, rfl, .inl rfl, by omega, rfl, rfl, fun t => ⟨t.b, rfl, rfl, rfl⟩, fun _ _ => rfl⟩
 | 2, _ => exact ⟨8, 8, rfl, rfl, .inr rfl, by omega, rfl, rfl, fun t => ⟨t.c, rfl, rfl, rfl⟩, fun _ _ => rfl⟩
 | 3, _ => exact ⟨16, 8, rfl, rfl, .inr rfl, by omega, rfl, rfl, fun t => ⟨t.d, rfl, rfl, rfl⟩, fun _ _ => rfl⟩
 | 4, _ => exact ⟨24, 8, rfl, rfl, .inr rfl, by omega, rfl, rfl, fun t => ⟨t.e, rfl, rfl, rfl⟩, fun _ _ => rfl⟩
 | 5, _ => exact ⟨32, 8, rfl, rfl, .inr rfl, by omega, rfl, rfl, fun t => ⟨t.f, rfl, rfl, rfl⟩, fun _ _ => rfl⟩
 | 6, _ => exact ⟨40, 4, rfl, rfl, .inl rfl, by omega, rfl, rfl, fun t => ⟨t.g, rfl, rfl, rfl⟩, fun _ _ => rfl⟩
 | 7, _ => exact ⟨44, 4, rfl, rfl, .inl rfl, by omega, rfl, rfl, fun t => ⟨t.h, rfl, rfl, rfl⟩, fun _ _ => rfl⟩
 | 8, _ => exact ⟨48, 8, rfl, rfl, .inr rfl, by omega, rfl, rfl, fun t => ⟨t.i, rfl, rfl, rfl⟩, fun _ _ => rfl⟩
 | 9, _ => exact ⟨56, 8, rfl, rfl, .inr rfl, by omega, rfl, rfl, fun t => ⟨t.j, rfl, rfl, rfl⟩, fun _ _ => rfl⟩
end Go.Proofs.YteopgmieindojaaGreat

namespace Go.Proofs.YteopgmieindojaaGreat
open Go.RowKit
theorem tapart_block {w : World} {base : Nat} {e e2 : TypeId} {s n g : Nat} {v : Value} {xs : List Value} {cs : Array Value} (h : w.ownsRow base e s v n xs) (hg : w.heap[g]? = some (.cells cs e2 (0, 0))) (he : e ≠ e2) : some g ≠ v.ownBlock := by
 rcases h.2 with ⟨rfl, _⟩ | ⟨g', cap, cur, rfl, _, hg', _⟩
 ·simp [Value.ownBlock]
 ·simp only [Value.ownBlock, ne_eq, Option.some.injEq]
  intro e
  subst e
  rw [hg] at hg'
  simp only [Option.some.injEq, Obj.cells.injEq] at hg'
  exact he hg'.2.1.symm
theorem tlt_of_heap {w : World} {g : Nat} {o : Obj} (h : w.heap[g]? = some o) : g < w.heap.size := (Array.getElem?_eq_some_iff.1 h).1
theorem theap_of_below {w w' : World} {B g : Nat} {o : Obj} (hb : Below B w w') (hg : w.heap[g]? = some o) (hB : g < B) : w'.heap[g]? = some o := by
 rw [hb.block g hB]; exact hg
def tcells (t : Ten) : Array Value := #[.int .i64 t.a, .int .i64 t.b, .int .i64 t.c, .int .i64 t.d, .int .i64 t.e, .int .i64 t.f, .int .i64 t.g, .int .i64 t.h, .int .i64 t.i, .int .i64 t.j]
theorem tcells_l (t : Ten) : tcells t = (t.l.map (Value.int .i64)).toArray := rfl
theorem tcells_at {t : Ten} {k : Nat} {x : Int} (h : t.l[k]? = some x) : (tcells t)[k]? = some (.int .i64 x) := by
 rw [tcells_l]; simp [h]
set_option maxRecDepth 100000 in
set_option maxHeartbeats 2000000 in
theorem tput_any (t : Ten) (w : World) : Calls Tryz.prog 126 #[t.v] w fun e w' => (t.may → Gives (sectB t) w e w') ∧ (¬ t.may → GivesH 0 [] w e w') := by
  have HF := Lib.hid fun W => tfields_any w.heap.size W
  have HC := Lib.hid (tfcells_at w.heap.size)
  have hsz : (tfcells w.heap.size).size = 20 := rfl
  have HZ := Lib.hid hsz
  have hal : (t.l).length = 10 := rfl
  have HAL := Lib.hid hal
  have hnl : (t.nums).length = 20 := rfl
  have HNL := Lib.hid hnl
  have hse : sectB t = numsB t.nums := rfl
  have HSE := Lib.hid hse
  have hmay : t.may ↔ ∀ x ∈ t.l, fitsB x = true := Iff.rfl
  have HMAY := Lib.hid hmay
  obtain ⟨i0, hi, hz0, hz1, hz2⟩ := info_parts Tryz.infoU8
  have HI := Lib.hid hi
  have H0 := Lib.hid hz0
  have H1 := Lib.hid hz1
  have H2 := Lib.hid hz2
  have hf1 : (w.alloc (.cells (tcells t) 183)).heap[w.heap.size]? = some (.cells (tcells t) 183 (0, 0)) := heap_alloc_new w _
  have hf2 : ((w.alloc (.cells (tcells t) 183)).alloc (.cells (tfcells w.heap.size) 271)).heap[w.heap.size + 1]? = some (.cells (tfcells w.heap.size) 271 (0, 0)) := by
    have := heap_alloc_new (w.alloc (.cells (tcells t) 183)) (.cells (tfcells w.heap.size) 271)
    simpa using this
  have hf3 : ((w.alloc (.cells (tcells t) 183)).alloc (.cells (tfcells w.heap.size) 271)).heap[w.heap.size]? = some (.cells (tcells t) 183 (0, 0)) := by
    rw [Below.heap_alloc _ _ _ (by simp)]; exact hf1
  have hb3 : Below w.heap.size w (((w.alloc (.cells (tcells t) 183)).alloc (.cells (tfcells w.heap.size) 271)).drew) := (((Below.refl _ w).alloc (Nat.le_refl _) _).alloc (by simp) _).drew
  clear hi hz0 hz1 hz2 hsz hal hnl hse hmay hf1
  go_enter Tryz.func126, Tryz.ntmps126
  go_wp2_with fail
  refine (HF.out _).mono ?_
  rintro e w2 ⟨rfl, rfl⟩
  go_wp2_with fail
  obtain ⟨w3, hw3⟩ : ∃ w3 : World, w3 = (((w.alloc (.cells #[.int .i64 t.a, .int .i64 t.b, .int .i64 t.c, .int .i64 t.d, .int .i64 t.e, .int .i64 t.f, .int .i64 t.g, .int .i64 t.h, .int .i64 t.i, .int .i64 t.j] 183)).alloc (.cells (tfcells w.heap.size) 271)).drew) := ⟨_, rfl⟩
  have g1 : w3.heap[w.heap.size]? = some (.cells (tcells t) 183 (0, 0)) := by rw [hw3]; exact hf3
  have g2 : w3.heap[w.heap.size + 1]? = some (.cells (tfcells w.heap.size) 271 (0, 0)) := by rw [hw3]; exact hf2
  have g3 : Below w.heap.size w w3 := by rw [hw3]; exact hb3
  rw [← hw3]
  clear hw3 hf2 hf3 hb3 HF
  go_loopw [3, 5, 8] (fun out _ ii wr => ∃ k q : Nat, k ≤ 10 ∧ q ≤ 8 * k ∧ ii = .int .i64 (k : Int) ∧ (∀ (j : Nat) (y : Int), j < k → t.l[j]? = some y → fitsB y = true) ∧ wr.ownsRow w.heap.size 5 1 out q ((numsB (t.nums.take (2 * k))).map u8v) ∧ wr.heap[w.heap.size]? = some (.cells (tcells t) 183 (0, 0)) ∧ wr.heap[w.heap.size + 1]? = some (.cells (tfcells w.heap.size) 271 (0, 0)) ∧ Below w.heap.size w wr) (fun _ _ ii _ => 10 - (intOf ii).toNat)
  case atStart => exact ⟨0, 0, Nat.zero_le _, Nat.le_refl _, rfl, fun j y hj => absurd hj (by omega), by simpa [numsB] using World.ownsRow_nil w3 w.heap.size 5 1, g1, g2, g3⟩
  case round =>
    obtain ⟨k, q, hk, hq, rfl, hfit, hown, hh1, hh2, hb⟩ := hrel
    clear g1 g2 g3
    by_cases hlt : k < 10
    · obtain ⟨o, wd, _, _, hwd, _, hy1, hy2, hxs, _⟩ := HC.out k hlt
      obtain ⟨x, hx, hx1, hx2⟩ := hxs t
      have d1 : wr.cell? ⟨w.heap.size + 1, k * 2, none⟩ = some (.pointer (some ⟨w.heap.size, k, none⟩)) := by
        rw [cell_of_row wr (w.heap.size + 1) (k * 2) _ _ (0, 0) hh2, Nat.mul_comm]; exact hy1
      have d2 : wr.cell? ⟨w.heap.size + 1, k * 2 + 1, none⟩ = some (.int .i64 (wd : Int)) := by
        rw [cell_of_row wr (w.heap.size + 1) (k * 2 + 1) _ _ (0, 0) hh2, Nat.mul_comm]; exact hy2
      have d3 : wr.cell? ⟨w.heap.size, k, none⟩ = some (.int .i64 x) := by
        rw [cell_of_row wr w.heap.size k _ _ (0, 0) hh1]; exact tcells_at hx
      have hI : (k : Int) < 10 := by omega
      have hI0 : (0 : Int) ≤ (k : Int) := by omega
      have hxl := List.mem_of_getElem? hx
      have hgs : w.heap.size < wr.heap.size := tlt_of_heap hh1
      have hba : Below wr.heap.size wr (wr.alloc (.cells #[.pointer (some ⟨w.heap.size, k, none⟩), .int .i64 (wd : Int)] 271)) := (Below.refl _ wr).alloc (Nat.le_refl _) _
      have d4 : (wr.alloc (.cells #[.pointer (some ⟨w.heap.size, k, none⟩), .int .i64 (wd : Int)] 271)).cell? ⟨w.heap.size, k, none⟩ = some (.int .i64 x) := by rw [hba.cell (by exact hgs)]; exact d3
      by_cases x0 : 0 ≤ x
      · by_cases x1 : x ≤ 2147483647
        · obtain ⟨v, rfl⟩ := Int.eq_ofNat_of_zero_le x0
          have hwid : wid (wd : Int) = true := (wid_iff _).2 (by omega)
          have hun : u64n (v : Int) = v := u64n_nat v (by omega)
          have ht2 := numsB_two (k := k) hx1 hx2
          rw [hun, Int.toNat_natCast] at ht2
          have HT := Lib.hid ht2
          have HP := Lib.hid fun W => (put_yes v wd W (by omega) hwid).mono fun _ _ x => x.toH
          rw [leB_length] at HP
          have hJ : ¬ (v : Int) < 0 := by omega
          have hJ1 : ¬ (2147483647 : Int) < (v : Int) := by omega
          have hcv : IntKind.u64.wrap (v : Int) = (v : Int) := by rw [conv_u64, hun]
          have hfit' : ∀ (j : Nat) (y : Int), j < k + 1 → t.l[j]? = some y → fitsB y = true := fun j y hj hy => by
            by_cases hjk : j < k
            · exact hfit j y hjk hy
            · obtain rfl : j = k := by omega
              rw [hx] at hy; cases hy
              exact (fitsB_iff _).2 ⟨x0, x1⟩
          have HFT := Lib.hid hfit'
          have hw1 : 1 ≤ wd := by omega
          have hw8 : wd ≤ 8 := by omega
          clear hxl hx hx1 hx2 hy1 hy2 hxs hfit hwd x0 x1 hfit' hun ht2 hwid
          go_wp2_with fail
          have e0 : (wr.alloc (.cells #[.pointer (some ⟨w.heap.size, k, none⟩), .int .i64 (wd : Int)] 271)).cell? ⟨wr.heap.size, 0, none⟩ = some (.pointer (some ⟨w.heap.size, k, none⟩)) := by simp
          have e1 : (wr.alloc (.cells #[.pointer (some ⟨w.heap.size, k, none⟩), .int .i64 (wd : Int)] 271)).cell? ⟨wr.heap.size, 1, none⟩ = some (.int .i64 (wd : Int)) := by simp
          have hh1A := theap_of_below hba hh1 hgs
          have hh2A := theap_of_below hba hh2 (tlt_of_heap hh2)
          have hown1 : (wr.alloc (.cells #[.pointer (some ⟨w.heap.size, k, none⟩), .int .i64 (wd : Int)] 271)).ownsRow w.heap.size 5 1 u3 q ((numsB (t.nums.take (2 * k))).map u8v) := hown.alloc _
          have hb1 : Below w.heap.size w (wr.alloc (.cells #[.pointer (some ⟨w.heap.size, k, none⟩), .int .i64 (wd : Int)] 271)) := hb.alloc hb.size _
          have hn3 : (wr.alloc (.cells #[.pointer (some ⟨w.heap.size, k, none⟩), .int .i64 (wd : Int)] 271)).heap[wr.heap.size]? = some (.cells #[.pointer (some ⟨w.heap.size, k, none⟩), .int .i64 (wd : Int)] 271 (0, 0)) := heap_alloc_new wr _
          generalize hW1 : (wr.alloc (.cells #[.pointer (some ⟨w.heap.size, k, none⟩), .int .i64 (wd : Int)] 271)) = w1 at *
          clear d1 d2 d3 hown hb hh1 hh2 hW1
          generalize wr.heap.size = gn at *
          have q2 : q + wd ≤ maxLen := by unfold maxLen; omega
          have q3 : (q + wd) * 1 ≤ 140737488355328 := by omega
          go_region_held3 (fun w' => w'.cell? ⟨gn, 0, none⟩ = some (.pointer (some ⟨w.heap.size, k, none⟩)) ∧ w'.cell? ⟨gn, 1, none⟩ = some (.int .i64 (wd : Int)) ∧ w'.cell? ⟨w.heap.size, k, none⟩ = some (.int .i64 (v : Int))) (first | go_keep | exact ⟨e0, e1, d4⟩ | exact ⟨t0, t1, t2⟩ | exact ⟨f0, f1, f2⟩ | fail)
            ((first
              | (go_at_call 171
                 refine (HP.out _).mono ?_
                 rintro e w2 ⟨p2, c2, rfl, hl2, hnc2, hcm2, hH2, hbb2⟩
                 obtain ⟨b2, o2, rfl, _⟩ := hH2.plain (by omega)
                 have hb2 : Below w.heap.size w w2 := hb1.drew.trans (hbb2.mono (by exact hb1.size))
                 have t0 := cell_later hbb2 e0
                 have t1 := cell_later hbb2 e1
                 have t2 := cell_later hbb2 d4
                 have hown2 := owns_below hown1.drew hbb2
                 have hh1B := theap_of_below hbb2 hh1A (tlt_of_heap hh1A)
                 have hh2B := theap_of_below hbb2 hh2A (tlt_of_heap hh2A)
                 have hn3B := theap_of_below hbb2 hn3 (tlt_of_heap hn3)
                 have HH2 := Lib.hid hH2
                 have HL2 := Lib.hid hl2
                 clear hH2 hl2 hbb2)
              | (refine step_append_lies _ (by rfl) _ _ _ (by rfl) w.heap.size 5 i0 (.int .u8 0) 1 1 Tryz.underlying31 HI.out H0.out H1.out H2.out rfl (by decide) _ q _ (by rfl) hown2 ⟨b2, o2, none⟩ wd c2 ((leB wd v).map u8v) (by rfl) (by rw [List.length_map, HL2.out, Nat.mul_one]) HH2.out.cells (map_oneCell _) hw1 q2 q3 hb2.size _ rfl ?_
                 intro g3 cap3 w3 hown3 hgrow3 _ _
                 have f0 := hgrow3.cell t0 (tapart_block hown2 hn3B (by decide))
                 have f1 := hgrow3.cell t1 (tapart_block hown2 hn3B (by decide))
                 have f2 := hgrow3.cell t2 (tapart_block hown2 hh1B (by decide)))
              | fail))
          have hb3 : Below w.heap.size w w3 := hb2.grown hgrow3 hb2.size (fun g hg => (hown2.lt g hg).1)
          have hh1C : w3.heap[w.heap.size]? = some (.cells (tcells t) 183 (0, 0)) := by
            rw [hgrow3.block _ (tlt_of_heap hh1B) (tapart_block hown2 hh1B (by decide))]; exact hh1B
          have hh2C : w3.heap[w.heap.size + 1]? = some (.cells (tfcells w.heap.size) 271 (0, 0)) := by
            rw [hgrow3.block _ (tlt_of_heap hh2B) (tapart_block hown2 hh2B (by decide))]; exact hh2B
          rw [← List.map_append, ← HT.out] at hown3
          clear hgrow3 hown2 hown1 hb1 hb2 hh1B hh2B hn3B
          go_wp2_with fail
          go_roundw
          case rel => exact ⟨k + 1, q + wd, hlt, by omega, by go_num, HFT.out, hown3, hh1C, hh2C, hb3⟩
          case measure => simp [intOf]; omega
        · have hno : ¬ t.may := fun hc => by have := (fitsB_iff x).1 (HMAY.out.1 hc x hxl); omega
          have HNO := Lib.hid hno
          have hJ : ¬ x < 0 := by omega
          have hJ1 : 2147483647 < x := by omega
          have hbb : Below w.heap.size w (wr.alloc (.cells #[.pointer (some ⟨w.heap.size, k, none⟩), .int .i64 (wd : Int)] 271)) := hb.alloc hb.size _
          clear hno hxl hx hx1 hx2 hy1 hy2 hxs hfit hwd x1 x0
          go_wp2_with fail
          go_ret
          exact ⟨fun h => absurd h HNO.out, fun _ => ⟨none, 0, rfl, rfl, Nat.le_refl _, Nat.zero_le _, Has.none_ _ _, hbb⟩⟩
      · have hno : ¬ t.may := fun hc => by have := (fitsB_iff x).1 (HMAY.out.1 hc x hxl); omega
        have HNO := Lib.hid hno
        have hJ : x < 0 := by omega
        have hbb : Below w.heap.size w (wr.alloc (.cells #[.pointer (some ⟨w.heap.size, k, none⟩), .int .i64 (wd : Int)] 271)) := hb.alloc hb.size _
        clear hno hxl hx hx1 hx2 hy1 hy2 hxs hfit hwd x0
        go_wp2_with fail
        go_ret
        exact ⟨fun h => absurd h HNO.out, fun _ => ⟨none, 0, rfl, rfl, Nat.le_refl _, Nat.zero_le _, Has.none_ _ _, hbb⟩⟩
    · obtain rfl : k = 10 := by omega
      have ht : (t.nums).take (2 * 10) = t.nums := List.take_of_length_le (by rw [HNL.out]; omega)
      rw [ht, ← HSE.out] at hown
      have hn1 : (sectB t).length = q := by have := hown.1; simpa using this
      have hyes : t.may := HMAY.out.2 fun y hy => by
        obtain ⟨j, hj⟩ := List.getElem?_of_mem hy
        exact hfit j y (by have := (List.getElem?_eq_some_iff.1 hj).1; have := HAL.out; omega) hj
      have HY := Lib.hid hyes
      clear ht hyes hfit
      go_wp2_with fail
      go_ret
      exact ⟨fun _ => ⟨_, rfl, by rw [hn1]; exact hown, hb⟩, fun h => absurd HY.out h⟩
theorem tput_ok : TPutOK := fun t w => ⟨fun h => (tput_any t w).mono fun _ _ x => x.1 h, fun h => (tput_any t w).mono fun _ _ x => x.2 h⟩
end Go.Proofs.YteopgmieindojaaGreat

namespace Go.Proofs.YteopgmieindojaaGreat
open Go.RowKit
def ownHeadAt (pl : List Nat) (i off : Nat) (p : PartD) : Ten := ⟨((pl.getD i 0 : Nat) : Int), p.h.b, p.h.c, p.h.d, 64 + (off : Int), p.h.f, p.h.g, p.h.h, p.h.i, p.h.j⟩
def ownHeadBy (pl : List Nat) (l : List PartD) (i : Nat) : List UInt8 := match l[i]? with
 | some p => sectB (ownHeadAt pl i (bodyOf (l.take i)).length p)
 | none => []
def ownHeads (pl : List Nat) (l : List PartD) (k : Nat) : List UInt8 := sectB nul10 ++ (List.range k).flatMap (ownHeadBy pl l)
theorem ownHeads_succ {pl : List Nat} {l : List PartD} {k : Nat} {p : PartD} (h : l[k]? = some p) : ownHeads pl l (k + 1) = ownHeads pl l k ++ sectB (ownHeadAt pl k (bodyOf (l.take k)).length p) := by
 unfold ownHeads
 rw [List.range_succ, List.flatMap_append]
 simp [ownHeadBy, h]
def ownAll (pd : List PartD) : List PartD := pd ++ [szP ⟨tabHead, nShstr, (tabOf (headNames pd)).tb⟩]
def ownLay (pd : List PartD) : List UInt8 := hdrB (64 + (bodyOf (ownAll pd)).length) (1 + (ownAll pd).length) (ownAll pd).length ++ bodyOf (ownAll pd) ++ ownHeads (placesOf (headNames pd)) (ownAll pd) (ownAll pd).length
structure LayOK (pd : List PartD) : Prop where
 len : pd.length ≤ 130
 ok : ∀ p ∈ pd, PartOK p
 nm : ∀ p ∈ pd, mayB (lst p.name) = true
theorem lay_names {pd : List PartD} (h : LayOK pd) : ∀ n ∈ headNames pd, mayB n = true := fun n hn => by
 unfold headNames at hn
 rcases List.mem_append.1 hn with hn | hn
 ·obtain ⟨p, hp, rfl⟩ := List.mem_map.1 hn
  exact h.nm p hp
 ·simp only [List.mem_singleton] at hn
  subst hn
  decide
theorem lay_tab {pd : List PartD} (h : LayOK pd) : (tabOf (headNames pd)).tb.length ≤ 330001 := tab_small _ (by rw [headNames_length]; have := h.len; omega) (lay_names h)
theorem ownAll_ok {pd : List PartD} (h : LayOK pd) : ∀ p ∈ ownAll pd, PartOK p := fun p hp => by
 unfold ownAll at hp
 rcases List.mem_append.1 hp with hp | hp
 ·exact h.ok p hp
 ·simp only [List.mem_singleton] at hp
  subst hp
  have := lay_tab h
  exact ⟨by show (tabOf _).tb.length ≤ _; omega, rfl, rfl, rfl, rfl, fitsN _ (by show (tabOf _).tb.length ≤ _; omega), rfl, rfl, rfl, rfl⟩
theorem ownAll_length (pd : List PartD) : (ownAll pd).length = pd.length + 1 := by unfold ownAll; simp
theorem own_body {pd : List PartD} (h : LayOK pd) (i : Nat) : (bodyOf ((ownAll pd).take i)).length ≤ 60000000 := by
 have h1 := body_len ((ownAll pd).take i) fun p hp => ownAll_ok h p (List.mem_of_mem_take hp)
 have h2 : ((ownAll pd).take i).length ≤ pd.length + 1 := by rw [← ownAll_length]; simp; omega
 have := h.len
 omega
theorem own_may {pd : List PartD} (h : LayOK pd) (i : Nat) (p : PartD) (hp : (ownAll pd)[i]? = some p) : (ownHeadAt (placesOf (headNames pd)) i (bodyOf ((ownAll pd).take i)).length p).may := by
 obtain ⟨h0, h1, h2, h3, h4, h5, h6, h7, h8, h9⟩ := ownAll_ok h p (List.mem_of_getElem? hp)
 have hb := own_body h i
 have hi : i < (placesOf (headNames pd)).length := by
  rw [placesOf_length', headNames_length]
  have := (List.getElem?_eq_some_iff.1 hp).1
  rw [ownAll_length] at this
  omega
 have hpl : (placesOf (headNames pd))[i] ≤ 330001 := by
  have e : (placesOf (headNames pd))[i]? = some ((placesOf (headNames pd))[i]) := List.getElem?_eq_getElem hi
  unfold placesOf at e
  rw [List.getElem?_map] at e
  obtain ⟨n, hn, he⟩ := Option.map_eq_some_iff.1 e
  have h6 := lay_tab h
  have h7 := placeOf_le (headNames pd) n (.inr (List.mem_of_getElem? hn))
  have h8 : placeOf (headNames pd) n = (placesOf (headNames pd))[i] := he
  omega
 intro x hx
 unfold ownHeadAt Ten.l at hx
 simp only [List.mem_cons, List.not_mem_nil, or_false] at hx
 rcases hx with rfl | rfl | rfl | rfl | rfl | rfl | rfl | rfl | rfl | rfl
 ·refine fitsN _ ?_
  rw [List.getD_eq_getElem?_getD, List.getElem?_eq_getElem hi]
  simp only [Option.getD_some]
  omega
 ·exact h1
 ·exact h2
 ·exact h3
 ·exact (fitsB_iff _).2 ⟨by omega, by omega⟩
 ·exact h5
 ·exact h6
 ·exact h7
 ·exact h8
 ·exact h9
theorem cells12 (w : World) (g : Nat) (v0 v1 v2 v3 v4 v5 v6 v7 v8 v9 v10 v11 : Value) (T : TypeId) (h : w.heap[g]? = some (.cells #[v0, v1, v2, v3, v4, v5, v6, v7, v8, v9, v10, v11] T (0, 0))) :
  w.cell? ⟨g, 0, none⟩ = some v0 ∧ w.cell? ⟨g, 1, none⟩ = some v1 ∧ w.cell? ⟨g, 2, none⟩ = some v2 ∧ w.cell? ⟨g, 3, none⟩ = some v3 ∧ w.cell? ⟨g, 4, none⟩ = some v4 ∧ w.cell? ⟨g, 5, none⟩ = some v5 ∧ w.cell? ⟨g, 6, none⟩ = some v6 ∧ w.cell? ⟨g, 7, none⟩ = some v7 ∧ w.cell? ⟨g, 8, none⟩ = some v8 ∧ w.cell? ⟨g, 9, none⟩ = some v9 ∧ w.cell? ⟨g, 10, none⟩ = some v10 ∧ w.cell? ⟨g, 11, none⟩ = some v11 := by
 refine ⟨?_, ?_, ?_, ?_, ?_, ?_, ?_, ?_, ?_, ?_, ?_, ?_⟩ <;> exact (cell_of_row w g _ _ _ (0, 0) h).trans rfl
theorem Below.toGrown {w w' : World} (h : Below w.heap.size w w') (row : Option Nat) : w.grownBy w' row := ⟨h.os, h.tape, h.output, h.size, fun k hk _ => h.block k hk⟩
theorem nul_may : nul10.may := fun x hx => by
 simp only [Ten.l, nul10, List.mem_cons, List.not_mem_nil, or_false, or_self] at hx
 subst hx
 rfl
theorem own_at {w : World} {base n : Nat} {T : TypeId} {p0 : Option Addr} {c0 : Nat} {pv : List PV} {pd : List PartD} {K : Nat → Prop} (h : w.ownsRow base T 12 (.slice p0 n c0) n (pvs false pv)) (hpa : PartsAt w K pv pd) (hn : pd.length = n) {k : Nat} (hk : k < n) :
  ∃ (g : Nat) (y : PartD) (q : Option Addr) (c : Nat), p0 = some ⟨g, 0, none⟩ ∧ pd[k]? = some y ∧ y.b.length ≤ c ∧ c ≤ maxLen ∧ (q = none → c = 0) ∧ Has w q y.b ∧
   w.cell? ⟨g, k * 12, none⟩ = some (.string y.name) ∧ w.cell? ⟨g, k * 12 + 1, none⟩ = some (.int .i64 y.h.a) ∧ w.cell? ⟨g, k * 12 + 2, none⟩ = some (.int .i64 y.h.b) ∧ w.cell? ⟨g, k * 12 + 3, none⟩ = some (.int .i64 y.h.c) ∧ w.cell? ⟨g, k * 12 + 4, none⟩ = some (.int .i64 y.h.d) ∧
   w.cell? ⟨g, k * 12 + 5, none⟩ = some (.int .i64 y.h.e) ∧ w.cell? ⟨g, k * 12 + 6, none⟩ = some (.int .i64 y.h.f) ∧ w.cell? ⟨g, k * 12 + 7, none⟩ = some (.int .i64 y.h.g) ∧ w.cell? ⟨g, k * 12 + 8, none⟩ = some (.int .i64 y.h.h) ∧ w.cell? ⟨g, k * 12 + 9, none⟩ = some (.int .i64 y.h.i) ∧
   w.cell? ⟨g, k * 12 + 10, none⟩ = some (.int .i64 y.h.j) ∧ w.cell? ⟨g, k * 12 + 11, none⟩ = some (.slice q y.b.length c) := by
 obtain ⟨g, p, y, hp0, hy, hh, hn2, hs, hc⟩ := part_at h hpa hn hk
 obtain ⟨q, c, hv, h1, h2, h3, h4⟩ := hs.has
 refine ⟨g, y, q, c, hp0, hy, h1, h2, h3, h4, ?_, ?_, ?_, ?_, ?_, ?_, ?_, ?_, ?_, ?_, ?_, ?_⟩
 ·have := hc 0 (by omega); rw [Nat.add_zero] at this; rw [this, ← hn2]; rfl
 ·rw [hc 1 (by omega), ← hh]; rfl
 ·rw [hc 2 (by omega), ← hh]; rfl
 ·rw [hc 3 (by omega), ← hh]; rfl
 ·rw [hc 4 (by omega), ← hh]; rfl
 ·rw [hc 5 (by omega), ← hh]; rfl
 ·rw [hc 6 (by omega), ← hh]; rfl
 ·rw [hc 7 (by omega), ← hh]; rfl
 ·rw [hc 8 (by omega), ← hh]; rfl
 ·rw [hc 9 (by omega), ← hh]; rfl
 ·rw [hc 10 (by omega), ← hh]; rfl
 ·rw [hc 11 (by omega), ← hv]; rfl
end Go.Proofs.YteopgmieindojaaGreat

namespace Go.Proofs.YteopgmieindojaaGreat
open Go.RowKit
def szR (p : PartD) : PartD := if p.h.b = 8 then p else szP p
def tailOf (o : ObjD) : List PartD := o.secs.map secPart ++ relPs (symNo o) o.secs o.secs.length ++ groupPs (symNo o) o.groups o.hasSig o.sig ++ symPs (symNo o) o.syms
theorem partsOf_tail (o : ObjD) : partsOf o = zeroPart :: tailOf o := by unfold partsOf tailOf; simp
theorem szR_sec {o : ObjD} (hl : Lays o) {s : SecD} (hs : s ∈ o.secs) : szR (secPart s) = secPart s := by
 unfold szR
 split
 ·rfl
 ·rename_i h
  have h2 := (hl.secs s hs).2.2.2.2.2.2.2.2.2.1 h
  unfold szP szT secPart secHead
  rw [h2]
theorem szR_of {p : PartD} (h : p.h.b ≠ 8) : szR p = szP p := if_neg h
theorem map_szR {l : List PartD} (h : ∀ p ∈ l, p.h.b ≠ 8) : l.map szR = l.map szP := List.map_congr_left fun p hp => szR_of (h p hp)
theorem rel_b (a : Int) (secs : List SecD) (k : Nat) : ∀ p ∈ relPs a secs k, p.h.b ≠ 8 := fun p hp => by
 unfold relPs at hp
 obtain ⟨i, _, hp⟩ := List.mem_flatMap.1 hp
 unfold relPartAt at hp
 split at hp
 ·unfold relPart at hp
  split at hp
  ·simp at hp
  ·simp only [List.mem_singleton] at hp
   subst hp
   show (4 : Int) ≠ 8
   decide
 ·simp at hp
theorem group_b (a : Int) (gs : List GroupD) (sg : Bool) (sig : List Int) : ∀ p ∈ groupPs a gs sg sig, p.h.b ≠ 8 := fun p hp => by
 unfold groupPs at hp
 rcases List.mem_append.1 hp with hp | hp
 ·obtain ⟨g, _, rfl⟩ := List.mem_map.1 hp
  show (17 : Int) ≠ 8
  decide
 ·cases sg with
  | false => simp at hp
  | true =>
   simp only [cond_true, List.mem_singleton] at hp
   subst hp
   show (1879002115 : Int) ≠ 8
   decide
theorem sym_b (a : Int) (l : List SymD) : ∀ p ∈ symPs a l, p.h.b ≠ 8 := fun p hp => by
 unfold symPs at hp
 simp only [List.mem_cons, List.not_mem_nil, or_false] at hp
 rcases hp with rfl | rfl
 ·show (2 : Int) ≠ 8
  decide
 ·show (3 : Int) ≠ 8
  decide
theorem ownPs_eq {o : ObjD} (hl : Lays o) : ownPs o = (tailOf o).map szR := by
 unfold ownPs tailOf
 simp only [List.map_append]
 rw [map_szR (rel_b _ _ _), map_szR (group_b _ _ _ _), map_szR (sym_b _ _)]
 have : (o.secs.map secPart).map szR = o.secs.map secPart := by
  rw [List.map_map]
  exact List.map_congr_left fun s hs => szR_sec hl hs
 rw [this]
 simp only [List.append_assoc]
theorem szR_name (p : PartD) : (szR p).name = p.name := by unfold szR; split <;> rfl
theorem szR_bytes (p : PartD) : (szR p).b = p.b := by unfold szR; split <;> rfl
theorem szR_head (p : PartD) : (szR p).h = szT p.h (if p.h.b = 8 then p.h.f else (p.b.length : Int)) := by
 unfold szR
 split
 ·rfl
 ·rfl
theorem names_szR (l : List PartD) : headNames (l.map szR) = headNames l := by
 unfold headNames
 rw [List.map_map]
 congr 1
 exact List.map_congr_left fun p _ => by show lst (szR p).name = lst p.name; rw [szR_name]
theorem names_zero (l : List PartD) : headNames (zeroPart :: l) = [] :: headNames l := rfl
theorem tab_zero (ns : List Nm) : tabOf ([] :: ns) = tabOf ns := rfl
theorem places_zero (ns : List Nm) : placesOf ([] :: ns) = 0 :: placesOf ns := by
 have h : ∀ m, placeOf ([] :: ns) m = placeOf ns m := fun m => by unfold placeOf; rw [tab_zero]
 unfold placesOf
 rw [List.map_cons, h, placeOf_nil, show List.map (placeOf ([] :: ns)) ns = List.map (placeOf ns) ns from List.map_congr_left fun m _ => h m]
def Sim (r q : List PartD) : Prop := r.length = q.length ∧ ∀ (i : Nat) (p p' : PartD), r[i]? = some p → q[i]? = some p' → p'.b = p.b ∧ p'.h = szT p.h (if p.h.b = 8 then p.h.f else (p.b.length : Int))
theorem Sim.snoc {r q : List PartD} {p p' : PartD} (h : Sim r q) (h1 : p'.b = p.b) (h2 : p'.h = szT p.h (if p.h.b = 8 then p.h.f else (p.b.length : Int))) : Sim (r ++ [p]) (q ++ [p']) := by
 refine ⟨by simp [h.1], fun i x x' hx hx' => ?_⟩
 rw [List.getElem?_append] at hx hx'
 rw [← h.1] at hx'
 split at hx <;> split at hx'
 ·exact h.2 i x x' hx hx'
 ·omega
 ·omega
 ·have hi : i - r.length = 0 := by
   have := (List.getElem?_eq_some_iff.1 hx).1
   simp at this
   omega
  rw [hi] at hx hx'
  simp at hx hx'
  subst hx hx'
  exact ⟨h1, h2⟩
theorem sim_map (l : List PartD) : Sim l (l.map szR) := by
 refine ⟨by simp, fun i p p' h1 h2 => ?_⟩
 rw [List.getElem?_map, h1] at h2
 simp at h2
 subst h2
 exact ⟨szR_bytes p, szR_head p⟩
theorem Sim.body : ∀ {r q : List PartD}, Sim r q → ∀ i, bodyOf (r.take i) = bodyOf (q.take i)
 | [], [], _, i => by simp
 | [], x :: q, h, _ => by have := h.1; simp at this
 | x :: r, [], h, _ => by have := h.1; simp at this
 | x :: r, y :: q, h, 0 => by simp
 | x :: r, y :: q, h, i + 1 => by
  have h0 := (h.2 0 x y rfl rfl).1
  have ht : Sim r q := ⟨by have := h.1; simpa using this, fun j p p' h1 h2 => h.2 (j + 1) p p' (by simpa using h1) (by simpa using h2)⟩
  have ih := ht.body i
  unfold bodyOf at ih ⊢
  rw [List.take_succ_cons, List.take_succ_cons, List.flatMap_cons, List.flatMap_cons, ih, h0]
theorem Sim.heads {r q : List PartD} (h : Sim r q) (pl : List Nat) : headsBy (0 :: pl) (zeroPart :: r) (r.length + 1) = ownHeads pl q q.length := by
 unfold headsBy ownHeads
 rw [List.range_succ_eq_map, List.flatMap_cons, List.flatMap_map, ← h.1]
 congr 1
 refine congrArg List.flatten (List.map_congr_left fun i hi => ?_)
 have hir : i < r.length := List.mem_range.1 hi
 have hiq : i < q.length := by rw [← h.1]; exact hir
 obtain ⟨h1, h2⟩ := h.2 i _ _ (List.getElem?_eq_getElem hir) (List.getElem?_eq_getElem hiq)
 have hb := h.body i
 unfold headBy ownHeadBy
 rw [show (zeroPart :: r)[i.succ]? = r[i]? from rfl, List.getElem?_eq_getElem hir, List.getElem?_eq_getElem hiq]
 simp only
 have hbt : bodyOf ((zeroPart :: r).take i.succ) = bodyOf (r.take i) := by
  rw [List.take_succ_cons]
  unfold bodyOf
  rw [List.flatMap_cons]
  rfl
 rw [hbt, hb]
 congr 1
 unfold headAt ownHeadAt
 rw [h2]
 simp [szT]
theorem ownLay_eq {o : ObjD} (hl : Lays o) : ownLay (ownPs o) = bytesOf o := by
 have hp := ownPs_eq hl
 have hn : headNames (partsOf o) = [] :: headNames (ownPs o) := by rw [partsOf_tail, names_zero, hp, names_szR]
 have hsim : Sim (tailOf o ++ [lastPart (headNames (partsOf o))]) (ownAll (ownPs o)) := by
  unfold ownAll
  refine Sim.snoc (by rw [hp]; exact sim_map _) ?_ ?_
  ·show (tabOf _).tb = (tabOf _).tb
   rw [hn, tab_zero]
  ·show szT tabHead _ = szT tabHead _
   rw [hn]
   rfl
 have hal : allOf o = zeroPart :: (tailOf o ++ [lastPart (headNames (partsOf o))]) := by unfold allOf; rw [partsOf_tail]; rfl
 have hlen : (allOf o).length = (ownAll (ownPs o)).length + 1 := by rw [hal, List.length_cons, hsim.1]
 have hbody : bodyOf (allOf o) = bodyOf (ownAll (ownPs o)) := by
  have h1 := hsim.body (tailOf o ++ [lastPart (headNames (partsOf o))]).length
  rw [List.take_length, List.take_of_length_le (by rw [hsim.1]; exact Nat.le_refl _)] at h1
  rw [hal]
  unfold bodyOf at h1 ⊢
  rw [List.flatMap_cons, h1]
  rfl
 have hheads : headsBy (placesOf (headNames (partsOf o))) (allOf o) (allOf o).length = ownHeads (placesOf (headNames (ownPs o))) (ownAll (ownPs o)) (ownAll (ownPs o)).length := by
  have h1 := hsim.heads (placesOf (headNames (ownPs o)))
  rw [hn, places_zero, hal, List.length_cons]
  exact h1
 rw [bytesOf_eq, hheads, hbody, hlen]
 unfold ownLay
 rw [show (ownAll (ownPs o)).length + 1 - 1 = (ownAll (ownPs o)).length by omega, Nat.add_comm (ownAll (ownPs o)).length 1]
theorem ownPs_ok {o : ObjD} (hl : Lays o) : LayOK (ownPs o) := by
 have hp := ownPs_eq hl
 have hlen : (ownPs o).length = symNo o + 1 := by
  have h1 := partsOf_length o
  rw [partsOf_tail, List.length_cons] at h1
  rw [hp, List.length_map]
  omega
 have hmem : ∀ p ∈ ownPs o, ∃ r ∈ partsOf o, p = szR r := fun p h => by
  rw [hp] at h
  obtain ⟨r, hr, rfl⟩ := List.mem_map.1 h
  exact ⟨r, by rw [partsOf_tail]; exact List.mem_cons_of_mem _ hr, rfl⟩
 refine ⟨by rw [hlen]; have := symNo_le hl; omega, fun p h => ?_, fun p h => ?_⟩
 ·obtain ⟨r, hr, rfl⟩ := hmem p h
  obtain ⟨h0, h1, h2, h3, h4, h5, h6, h7, h8, h9⟩ := partsOf_ok hl r hr
  refine ⟨by rw [szR_bytes]; exact h0, ?_⟩
  rw [szR_head]
  refine ⟨h1, h2, h3, h4, ?_, h6, h7, h8, h9⟩
  show fitsB (if r.h.b = 8 then r.h.f else (r.b.length : Int)) = true
  split
  ·exact h5
  ·exact fitsN _ (by omega)
 ·obtain ⟨r, hr, rfl⟩ := hmem p h
  rw [szR_name]
  exact partsOf_names hl r hr
end Go.Proofs.YteopgmieindojaaGreat
