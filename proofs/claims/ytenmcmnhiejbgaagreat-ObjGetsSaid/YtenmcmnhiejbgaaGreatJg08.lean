/-
  Contract of the project's shdr.fields.
  Contract of the project's shdr.Put.
  Contract of the project's shdr.Get.
-/
import Derived.Test.YtenmcmnhiejbgaaGreatJg02
import Derived.Test.YtenmcmnhiejbgaaGreatJg07
import Derived.Deep.RegionWith
import Derived.Deep.DeepCutAuto
import Derived.StillTailTactics
import Derived.Deep.RegionHeld3
import Derived.Deep.AppendLies
namespace Go.Proofs.YtenmcmnhiejbgaaGreat
open Go.RowKit

/-- The cells of the list of a header's numbers: where each is, and of how many bytes it is. -/
def tfcells (b : Nat) : Array Value := #[.pointer (some ⟨b, 0, none⟩), .int .i64 4, .pointer (some ⟨b, 1, none⟩), .int .i64 4, .pointer (some ⟨b, 2, none⟩), .int .i64 8, .pointer (some ⟨b, 3, none⟩), .int .i64 8, .pointer (some ⟨b, 4, none⟩), .int .i64 8, .pointer (some ⟨b, 5, none⟩), .int .i64 8, .pointer (some ⟨b, 6, none⟩), .int .i64 4, .pointer (some ⟨b, 7, none⟩), .int .i64 4, .pointer (some ⟨b, 8, none⟩), .int .i64 8, .pointer (some ⟨b, 9, none⟩), .int .i64 8]
set_option maxRecDepth 100000 in
theorem tfields_any (b : Nat) (w : World) : Calls Tryz.prog 106 #[.pointer (some ⟨b, 0, none⟩)] w fun e w' => e = .returned (.slice (some ⟨w.heap.size, 0, none⟩) 10 10) ∧ w' = (w.alloc (.cells (tfcells b) 163)).drew := by
  go_enter Tryz.func106, Tryz.ntmps106
  go_wp2_with fail
  go_still_tail 40, (by kernel_rfl)
  change wpList _ _ _ _ _ w.drew
  go_wp2_with fail
  go_ret
  refine ⟨?_, ?_⟩
  · rfl
  · rfl

/-- Where the k-th number begins. -/
def toff : List Nat := [0, 4, 8, 16, 24, 32, 40, 44, 48, 56, 64]
/-- What the cells are, of any header's block. -/
theorem tfcells_at (b k : Nat) (hk : k < 10) : ∃ o wd : Nat, toff[k]? = some o ∧ toff[k + 1]? = some (o + wd) ∧ (wd = 4 ∨ wd = 8) ∧ o + wd ≤ 64 ∧ (tfcells b)[2 * k]? = some (.pointer (some ⟨b, k, none⟩)) ∧ (tfcells b)[2 * k + 1]? = some (.int .i64 (wd : Int)) ∧
    (∀ t : Ten, ∃ x, t.l[k]? = some x ∧ t.nums[2 * k]? = some x ∧ t.nums[2 * k + 1]? = some (wd : Int)) ∧ (∀ l a, (tenAt l a).l[k]? = some (numI l (a + o) wd)) := by
  match k, hk with
  | 0, _ => exact ⟨0, 4, rfl, rfl, .inl rfl, by omega, rfl, rfl, fun t => ⟨t.a, rfl, rfl, rfl⟩, fun _ _ => rfl⟩
  | 1, _ => exact ⟨4, 4, rfl, rfl, .inl rfl, by omega, rfl, rfl, fun t => ⟨t.b, rfl, rfl, rfl⟩, fun _ _ => rfl⟩
  | 2, _ => exact ⟨8, 8, rfl, rfl, .inr rfl, by omega, rfl, rfl, fun t => ⟨t.c, rfl, rfl, rfl⟩, fun _ _ => rfl⟩
  | 3, _ => exact ⟨16, 8, rfl, rfl, .inr rfl, by omega, rfl, rfl, fun t => ⟨t.d, rfl, rfl, rfl⟩, fun _ _ => rfl⟩
  | 4, _ => exact ⟨24, 8, rfl, rfl, .inr rfl, by omega, rfl, rfl, fun t => ⟨t.e, rfl, rfl, rfl⟩, fun _ _ => rfl⟩
  | 5, _ => exact ⟨32, 8, rfl, rfl, .inr rfl, by omega, rfl, rfl, fun t => ⟨t.f, rfl, rfl, rfl⟩, fun _ _ => rfl⟩
  | 6, _ => exact ⟨40, 4, rfl, rfl, .inl rfl, by omega, rfl, rfl, fun t => ⟨t.g, rfl, rfl, rfl⟩, fun _ _ => rfl⟩
  | 7, _ => exact ⟨44, 4, rfl, rfl, .inl rfl, by omega, rfl, rfl, fun t => ⟨t.h, rfl, rfl, rfl⟩, fun _ _ => rfl⟩
  | 8, _ => exact ⟨48, 8, rfl, rfl, .inr rfl, by omega, rfl, rfl, fun t => ⟨t.i, rfl, rfl, rfl⟩, fun _ _ => rfl⟩
  | 9, _ => exact ⟨56, 8, rfl, rfl, .inr rfl, by omega, rfl, rfl, fun t => ⟨t.j, rfl, rfl, rfl⟩, fun _ _ => rfl⟩

end Go.Proofs.YtenmcmnhiejbgaaGreat

namespace Go.Proofs.YtenmcmnhiejbgaaGreat
open Go.RowKit

/-- A row of another type is not the row's block. -/
theorem tapart_block {w : World} {base : Nat} {e e2 : TypeId} {s n g : Nat} {v : Value} {xs : List Value} {cs : Array Value} (h : w.ownsRow base e s v n xs) (hg : w.heap[g]? = some (.cells cs e2 (0, 0))) (he : e ≠ e2) : some g ≠ v.ownBlock := by
  rcases h.2 with ⟨rfl, _⟩ | ⟨g', cap, cur, rfl, _, hg', _⟩
  · simp [Value.ownBlock]
  · simp only [Value.ownBlock, ne_eq, Option.some.injEq]
    intro e
    subst e
    rw [hg] at hg'
    simp only [Option.some.injEq, Obj.cells.injEq] at hg'
    exact he hg'.2.1.symm
theorem tlt_of_heap {w : World} {g : Nat} {o : Obj} (h : w.heap[g]? = some o) : g < w.heap.size := (Array.getElem?_eq_some_iff.1 h).1
theorem theap_of_below {w w' : World} {B g : Nat} {o : Obj} (hb : Below B w w') (hg : w.heap[g]? = some o) (hB : g < B) : w'.heap[g]? = some o := by
  rw [hb.block g hB]; exact hg
/-- The cells of a header. -/
def tcells (t : Ten) : Array Value := #[.int .i64 t.a, .int .i64 t.b, .int .i64 t.c, .int .i64 t.d, .int .i64 t.e, .int .i64 t.f, .int .i64 t.g, .int .i64 t.h, .int .i64 t.i, .int .i64 t.j]
theorem tcells_l (t : Ten) : tcells t = (t.l.map (Value.int .i64)).toArray := rfl
theorem tcells_at {t : Ten} {k : Nat} {x : Int} (h : t.l[k]? = some x) : (tcells t)[k]? = some (.int .i64 x) := by
  rw [tcells_l]; simp [h]

set_option maxRecDepth 100000 in
set_option maxHeartbeats 2000000 in
theorem tput_any (t : Ten) (w : World) : Calls Tryz.prog 70 #[t.v] w fun e w' => (t.may → Gives (sectB t) w e w') ∧ (¬ t.may → GivesH 0 [] w e w') := by
  have HF := Lib.hid fun W => tfields_any w.heap.size W
  have HC := Lib.hid (tfcells_at w.heap.size)
  have hsz : (tfcells w.heap.size).size = 20 := rfl
  have HZ := Lib.hid hsz
  have hal : (t.l).length = 10 := rfl
  have HAL := Lib.hid hal
  have hnl : (t.nums).length = 20 := rfl
  have HNL := Lib.hid hnl
  have hse : sectB t = numsB t.nums := rfl
  have HSE := Lib.hid hse
  have hmay : t.may ↔ ∀ x ∈ t.l, fitsB x = true := Iff.rfl
  have HMAY := Lib.hid hmay
  obtain ⟨i0, hi, hz0, hz1, hz2⟩ := info_parts Tryz.infoU8
  have HI := Lib.hid hi
  have H0 := Lib.hid hz0
  have H1 := Lib.hid hz1
  have H2 := Lib.hid hz2
  have hf1 : (w.alloc (.cells (tcells t) 104)).heap[w.heap.size]? = some (.cells (tcells t) 104 (0, 0)) := heap_alloc_new w _
  have hf2 : ((w.alloc (.cells (tcells t) 104)).alloc (.cells (tfcells w.heap.size) 163)).heap[w.heap.size + 1]? = some (.cells (tfcells w.heap.size) 163 (0, 0)) := by
    have := heap_alloc_new (w.alloc (.cells (tcells t) 104)) (.cells (tfcells w.heap.size) 163)
    simpa using this
  have hf3 : ((w.alloc (.cells (tcells t) 104)).alloc (.cells (tfcells w.heap.size) 163)).heap[w.heap.size]? = some (.cells (tcells t) 104 (0, 0)) := by
    rw [Below.heap_alloc _ _ _ (by simp)]; exact hf1
  have hb3 : Below w.heap.size w (((w.alloc (.cells (tcells t) 104)).alloc (.cells (tfcells w.heap.size) 163)).drew) := (((Below.refl _ w).alloc (Nat.le_refl _) _).alloc (by simp) _).drew
  clear hi hz0 hz1 hz2 hsz hal hnl hse hmay hf1
  go_enter Tryz.func70, Tryz.ntmps70
  go_wp2_with fail
  refine (HF.out _).mono ?_
  rintro e w2 ⟨rfl, rfl⟩
  go_wp2_with fail
  obtain ⟨w3, hw3⟩ : ∃ w3 : World, w3 = (((w.alloc (.cells #[.int .i64 t.a, .int .i64 t.b, .int .i64 t.c, .int .i64 t.d, .int .i64 t.e, .int .i64 t.f, .int .i64 t.g, .int .i64 t.h, .int .i64 t.i, .int .i64 t.j] 104)).alloc (.cells (tfcells w.heap.size) 163)).drew) := ⟨_, rfl⟩
  have g1 : w3.heap[w.heap.size]? = some (.cells (tcells t) 104 (0, 0)) := by rw [hw3]; exact hf3
  have g2 : w3.heap[w.heap.size + 1]? = some (.cells (tfcells w.heap.size) 163 (0, 0)) := by rw [hw3]; exact hf2
  have g3 : Below w.heap.size w w3 := by rw [hw3]; exact hb3
  rw [← hw3]
  clear hw3 hf2 hf3 hb3 HF
  go_loopw [3, 5, 8] (fun out _ ii wr => ∃ k q : Nat, k ≤ 10 ∧ q ≤ 8 * k ∧ ii = .int .i64 (k : Int) ∧ (∀ (j : Nat) (y : Int), j < k → t.l[j]? = some y → fitsB y = true) ∧ wr.ownsRow w.heap.size 5 1 out q ((numsB (t.nums.take (2 * k))).map u8v) ∧ wr.heap[w.heap.size]? = some (.cells (tcells t) 104 (0, 0)) ∧ wr.heap[w.heap.size + 1]? = some (.cells (tfcells w.heap.size) 163 (0, 0)) ∧ Below w.heap.size w wr) (fun _ _ ii _ => 10 - (intOf ii).toNat)
  case atStart => exact ⟨0, 0, Nat.zero_le _, Nat.le_refl _, rfl, fun j y hj => absurd hj (by omega), by simpa [numsB] using World.ownsRow_nil w3 w.heap.size 5 1, g1, g2, g3⟩
  case round =>
    obtain ⟨k, q, hk, hq, rfl, hfit, hown, hh1, hh2, hb⟩ := hrel
    clear g1 g2 g3
    by_cases hlt : k < 10
    · obtain ⟨o, wd, _, _, hwd, _, hy1, hy2, hxs, _⟩ := HC.out k hlt
      obtain ⟨x, hx, hx1, hx2⟩ := hxs t
      have d1 : wr.cell? ⟨w.heap.size + 1, k * 2, none⟩ = some (.pointer (some ⟨w.heap.size, k, none⟩)) := by
        rw [cell_of_row wr (w.heap.size + 1) (k * 2) _ _ (0, 0) hh2, Nat.mul_comm]; exact hy1
      have d2 : wr.cell? ⟨w.heap.size + 1, k * 2 + 1, none⟩ = some (.int .i64 (wd : Int)) := by
        rw [cell_of_row wr (w.heap.size + 1) (k * 2 + 1) _ _ (0, 0) hh2, Nat.mul_comm]; exact hy2
      have d3 : wr.cell? ⟨w.heap.size, k, none⟩ = some (.int .i64 x) := by
        rw [cell_of_row wr w.heap.size k _ _ (0, 0) hh1]; exact tcells_at hx
      have hI : (k : Int) < 10 := by omega
      have hI0 : (0 : Int) ≤ (k : Int) := by omega
      have hxl := List.mem_of_getElem? hx
      have hgs : w.heap.size < wr.heap.size := tlt_of_heap hh1
      have hba : Below wr.heap.size wr (wr.alloc (.cells #[.pointer (some ⟨w.heap.size, k, none⟩), .int .i64 (wd : Int)] 163)) := (Below.refl _ wr).alloc (Nat.le_refl _) _
      have d4 : (wr.alloc (.cells #[.pointer (some ⟨w.heap.size, k, none⟩), .int .i64 (wd : Int)] 163)).cell? ⟨w.heap.size, k, none⟩ = some (.int .i64 x) := by rw [hba.cell (by exact hgs)]; exact d3
      by_cases x0 : 0 ≤ x
      · by_cases x1 : x ≤ 2147483647
        · obtain ⟨v, rfl⟩ := Int.eq_ofNat_of_zero_le x0
          have hwid : wid (wd : Int) = true := (wid_iff _).2 (by omega)
          have hun : u64n (v : Int) = v := u64n_nat v (by omega)
          have ht2 := numsB_two (k := k) hx1 hx2
          rw [hun, Int.toNat_natCast] at ht2
          have HT := Lib.hid ht2
          have HP := Lib.hid fun W => (put_yes v wd W (by omega) hwid).mono fun _ _ x => x.toH
          rw [leB_length] at HP
          have hJ : ¬ (v : Int) < 0 := by omega
          have hJ1 : ¬ (2147483647 : Int) < (v : Int) := by omega
          have hcv : IntKind.u64.wrap (v : Int) = (v : Int) := by rw [conv_u64, hun]
          have hfit' : ∀ (j : Nat) (y : Int), j < k + 1 → t.l[j]? = some y → fitsB y = true := fun j y hj hy => by
            by_cases hjk : j < k
            · exact hfit j y hjk hy
            · obtain rfl : j = k := by omega
              rw [hx] at hy; cases hy
              exact (fitsB_iff _).2 ⟨x0, x1⟩
          have HFT := Lib.hid hfit'
          have hw1 : 1 ≤ wd := by omega
          have hw8 : wd ≤ 8 := by omega
          clear hxl hx hx1 hx2 hy1 hy2 hxs hfit hwd x0 x1 hfit' hun ht2 hwid
          go_wp2_with fail
          have e0 : (wr.alloc (.cells #[.pointer (some ⟨w.heap.size, k, none⟩), .int .i64 (wd : Int)] 163)).cell? ⟨wr.heap.size, 0, none⟩ = some (.pointer (some ⟨w.heap.size, k, none⟩)) := by simp
          have e1 : (wr.alloc (.cells #[.pointer (some ⟨w.heap.size, k, none⟩), .int .i64 (wd : Int)] 163)).cell? ⟨wr.heap.size, 1, none⟩ = some (.int .i64 (wd : Int)) := by simp
          have hh1A := theap_of_below hba hh1 hgs
          have hh2A := theap_of_below hba hh2 (tlt_of_heap hh2)
          have hown1 : (wr.alloc (.cells #[.pointer (some ⟨w.heap.size, k, none⟩), .int .i64 (wd : Int)] 163)).ownsRow w.heap.size 5 1 u3 q ((numsB (t.nums.take (2 * k))).map u8v) := hown.alloc _
          have hb1 : Below w.heap.size w (wr.alloc (.cells #[.pointer (some ⟨w.heap.size, k, none⟩), .int .i64 (wd : Int)] 163)) := hb.alloc hb.size _
          have hn3 : (wr.alloc (.cells #[.pointer (some ⟨w.heap.size, k, none⟩), .int .i64 (wd : Int)] 163)).heap[wr.heap.size]? = some (.cells #[.pointer (some ⟨w.heap.size, k, none⟩), .int .i64 (wd : Int)] 163 (0, 0)) := heap_alloc_new wr _
          generalize hW1 : (wr.alloc (.cells #[.pointer (some ⟨w.heap.size, k, none⟩), .int .i64 (wd : Int)] 163)) = w1 at *
          clear d1 d2 d3 hown hb hh1 hh2 hW1
          generalize wr.heap.size = gn at *
          have q2 : q + wd ≤ maxLen := by unfold maxLen; omega
          have q3 : (q + wd) * 1 ≤ 140737488355328 := by omega
          go_region_held3 (fun w' => w'.cell? ⟨gn, 0, none⟩ = some (.pointer (some ⟨w.heap.size, k, none⟩)) ∧ w'.cell? ⟨gn, 1, none⟩ = some (.int .i64 (wd : Int)) ∧ w'.cell? ⟨w.heap.size, k, none⟩ = some (.int .i64 (v : Int))) (first | go_keep | exact ⟨e0, e1, d4⟩ | exact ⟨t0, t1, t2⟩ | exact ⟨f0, f1, f2⟩ | fail)
            ((first
              | (go_at_call 107
                 refine (HP.out _).mono ?_
                 rintro e w2 ⟨p2, c2, rfl, hl2, hnc2, hcm2, hH2, hbb2⟩
                 obtain ⟨b2, o2, rfl, _⟩ := hH2.plain (by omega)
                 have hb2 : Below w.heap.size w w2 := hb1.drew.trans (hbb2.mono (by exact hb1.size))
                 have t0 := cell_later hbb2 e0
                 have t1 := cell_later hbb2 e1
                 have t2 := cell_later hbb2 d4
                 have hown2 := owns_below hown1.drew hbb2
                 have hh1B := theap_of_below hbb2 hh1A (tlt_of_heap hh1A)
                 have hh2B := theap_of_below hbb2 hh2A (tlt_of_heap hh2A)
                 have hn3B := theap_of_below hbb2 hn3 (tlt_of_heap hn3)
                 have HH2 := Lib.hid hH2
                 have HL2 := Lib.hid hl2
                 clear hH2 hl2 hbb2)
              | (refine step_append_lies _ (by rfl) _ _ _ (by rfl) w.heap.size 5 i0 (.int .u8 0) 1 1 Tryz.underlying31 HI.out H0.out H1.out H2.out rfl (by decide) _ q _ (by rfl) hown2 ⟨b2, o2, none⟩ wd c2 ((leB wd v).map u8v) (by rfl) (by rw [List.length_map, HL2.out, Nat.mul_one]) HH2.out.cells (map_oneCell _) hw1 q2 q3 hb2.size _ rfl ?_
                 intro g3 cap3 w3 hown3 hgrow3 _ _
                 have f0 := hgrow3.cell t0 (tapart_block hown2 hn3B (by decide))
                 have f1 := hgrow3.cell t1 (tapart_block hown2 hn3B (by decide))
                 have f2 := hgrow3.cell t2 (tapart_block hown2 hh1B (by decide)))
              | fail))
          have hb3 : Below w.heap.size w w3 := hb2.grown hgrow3 hb2.size (fun g hg => (hown2.lt g hg).1)
          have hh1C : w3.heap[w.heap.size]? = some (.cells (tcells t) 104 (0, 0)) := by
            rw [hgrow3.block _ (tlt_of_heap hh1B) (tapart_block hown2 hh1B (by decide))]; exact hh1B
          have hh2C : w3.heap[w.heap.size + 1]? = some (.cells (tfcells w.heap.size) 163 (0, 0)) := by
            rw [hgrow3.block _ (tlt_of_heap hh2B) (tapart_block hown2 hh2B (by decide))]; exact hh2B
          rw [← List.map_append, ← HT.out] at hown3
          clear hgrow3 hown2 hown1 hb1 hb2 hh1B hh2B hn3B
          go_wp2_with fail
          go_roundw
          case rel => exact ⟨k + 1, q + wd, hlt, by omega, by go_num, HFT.out, hown3, hh1C, hh2C, hb3⟩
          case measure => simp [intOf]; omega
        · have hno : ¬ t.may := fun hc => by have := (fitsB_iff x).1 (HMAY.out.1 hc x hxl); omega
          have HNO := Lib.hid hno
          have hJ : ¬ x < 0 := by omega
          have hJ1 : 2147483647 < x := by omega
          have hbb : Below w.heap.size w (wr.alloc (.cells #[.pointer (some ⟨w.heap.size, k, none⟩), .int .i64 (wd : Int)] 163)) := hb.alloc hb.size _
          clear hno hxl hx hx1 hx2 hy1 hy2 hxs hfit hwd x1 x0
          go_wp2_with fail
          go_ret
          exact ⟨fun h => absurd h HNO.out, fun _ => ⟨none, 0, rfl, rfl, Nat.le_refl _, Nat.zero_le _, Has.none_ _ _, hbb⟩⟩
      · have hno : ¬ t.may := fun hc => by have := (fitsB_iff x).1 (HMAY.out.1 hc x hxl); omega
        have HNO := Lib.hid hno
        have hJ : x < 0 := by omega
        have hbb : Below w.heap.size w (wr.alloc (.cells #[.pointer (some ⟨w.heap.size, k, none⟩), .int .i64 (wd : Int)] 163)) := hb.alloc hb.size _
        clear hno hxl hx hx1 hx2 hy1 hy2 hxs hfit hwd x0
        go_wp2_with fail
        go_ret
        exact ⟨fun h => absurd h HNO.out, fun _ => ⟨none, 0, rfl, rfl, Nat.le_refl _, Nat.zero_le _, Has.none_ _ _, hbb⟩⟩
    · obtain rfl : k = 10 := by omega
      have ht : (t.nums).take (2 * 10) = t.nums := List.take_of_length_le (by rw [HNL.out]; omega)
      rw [ht, ← HSE.out] at hown
      have hn1 : (sectB t).length = q := by have := hown.1; simpa using this
      have hyes : t.may := HMAY.out.2 fun y hy => by
        obtain ⟨j, hj⟩ := List.getElem?_of_mem hy
        exact hfit j y (by have := (List.getElem?_eq_some_iff.1 hj).1; have := HAL.out; omega) hj
      have HY := Lib.hid hyes
      clear ht hyes hfit
      go_wp2_with fail
      go_ret
      exact ⟨fun _ => ⟨_, rfl, by rw [hn1]; exact hown, hb⟩, fun h => absurd HY.out h⟩

theorem tput_ok : TPutOK := fun t w => ⟨fun h => (tput_any t w).mono fun _ _ x => x.1 h, fun h => (tput_any t w).mono fun _ _ x => x.2 h⟩

end Go.Proofs.YtenmcmnhiejbgaaGreat

namespace Go.Proofs.YtenmcmnhiejbgaaGreat
open Go.RowKit

/-- A header of which k numbers have been laid. -/
def part (t : Ten) (k : Nat) : List Int := t.l.take k ++ List.replicate (10 - k) 0
def pcells (t : Ten) (k : Nat) : Array Value := ((part t k).map (Value.int .i64)).toArray
theorem pcells_ten (t : Ten) : pcells t 10 = tcells t := rfl
theorem pcells_set (t : Ten) (k : Nat) (hk : k < 10) (x : Int) (hx : t.l[k]? = some x) : (pcells t k).setIfInBounds k (.int .i64 x) = pcells t (k + 1) := by
  match k, hk with
  | 0, _ | 1, _ | 2, _ | 3, _ | 4, _ | 5, _ | 6, _ | 7, _ | 8, _ | 9, _ => cases hx; rfl
theorem pcells_at (t : Ten) (k : Nat) (hk : k < 10) : (pcells t k)[k]? = some (.int .i64 0) := by
  match k, hk with
  | 0, _ | 1, _ | 2, _ | 3, _ | 4, _ | 5, _ | 6, _ | 7, _ | 8, _ | 9, _ => rfl

theorem i64w (x : Int) (h : -9223372036854775808 ≤ x ∧ x ≤ 9223372036854775807) : IntKind.i64.wrap x = x := IntWalk.i64_in x (by omega)
theorem i64n (V : Nat) (h : V < 9223372036854775808) : IntKind.i64.wrap (V : Int) = (V : Int) := i64w _ (by omega)
def zcells : Array Value := #[.int .i64 0, .int .i64 0, .int .i64 0, .int .i64 0, .int .i64 0, .int .i64 0, .int .i64 0, .int .i64 0, .int .i64 0, .int .i64 0]
theorem cells10 (w : World) (g : Nat) (t : Ten) (T : TypeId) (h : w.heap[g]? = some (.cells (tcells t) T (0, 0))) :
    (w.cell? ⟨g, 0, none⟩ = some (.int .i64 t.a) ∧ w.cell? ⟨g, 1, none⟩ = some (.int .i64 t.b) ∧ w.cell? ⟨g, 2, none⟩ = some (.int .i64 t.c) ∧ w.cell? ⟨g, 3, none⟩ = some (.int .i64 t.d) ∧ w.cell? ⟨g, 4, none⟩ = some (.int .i64 t.e) ∧
     w.cell? ⟨g, 5, none⟩ = some (.int .i64 t.f) ∧ w.cell? ⟨g, 6, none⟩ = some (.int .i64 t.g) ∧ w.cell? ⟨g, 7, none⟩ = some (.int .i64 t.h) ∧ w.cell? ⟨g, 8, none⟩ = some (.int .i64 t.i) ∧ w.cell? ⟨g, 9, none⟩ = some (.int .i64 t.j)) := by
  refine ⟨?_, ?_, ?_, ?_, ?_, ?_, ?_, ?_, ?_, ?_⟩ <;> exact (cell_of_row w g _ _ _ (0, 0) h).trans rfl
theorem zcells10 (w : World) (g : Nat) (T : TypeId) (h : w.heap[g]? = some (.cells zcells T (0, 0))) :
    (w.cell? ⟨g, 0, none⟩ = some (.int .i64 0) ∧ w.cell? ⟨g, 1, none⟩ = some (.int .i64 0) ∧ w.cell? ⟨g, 2, none⟩ = some (.int .i64 0) ∧ w.cell? ⟨g, 3, none⟩ = some (.int .i64 0) ∧ w.cell? ⟨g, 4, none⟩ = some (.int .i64 0) ∧
     w.cell? ⟨g, 5, none⟩ = some (.int .i64 0) ∧ w.cell? ⟨g, 6, none⟩ = some (.int .i64 0) ∧ w.cell? ⟨g, 7, none⟩ = some (.int .i64 0) ∧ w.cell? ⟨g, 8, none⟩ = some (.int .i64 0) ∧ w.cell? ⟨g, 9, none⟩ = some (.int .i64 0)) := cells10 w g ten0 T h
theorem two_new (w : World) (x y : Value) (T : TypeId) : (w.alloc (.cells #[x, y] T)).cell? ⟨w.heap.size, 0, none⟩ = some x ∧ (w.alloc (.cells #[x, y] T)).cell? ⟨w.heap.size, 1, none⟩ = some y := by
  constructor <;> simp
theorem frozen10 (w : World) (g : Nat) (cs : Array Value) (T : TypeId) (h : w.heap[g]? = some (.cells cs T (0, 0))) :
    (w.frozen? ⟨g, 0, none⟩ = false ∧ w.frozen? ⟨g, 1, none⟩ = false ∧ w.frozen? ⟨g, 2, none⟩ = false ∧ w.frozen? ⟨g, 3, none⟩ = false ∧ w.frozen? ⟨g, 4, none⟩ = false ∧
     w.frozen? ⟨g, 5, none⟩ = false ∧ w.frozen? ⟨g, 6, none⟩ = false ∧ w.frozen? ⟨g, 7, none⟩ = false ∧ w.frozen? ⟨g, 8, none⟩ = false ∧ w.frozen? ⟨g, 9, none⟩ = false) := by
  refine ⟨?_, ?_, ?_, ?_, ?_, ?_, ?_, ?_, ?_, ?_⟩ <;> exact frozen_of_row w g _ _ _ h

set_option maxRecDepth 100000 in
set_option maxHeartbeats 2000000 in
theorem tget_ok : TGetOK := fun p len cap l at_ w h hlen hcap hm hbig ha0 ha1 => by
  have HF := Lib.hid fun W => tfields_any (w.heap.size + 1) W
  have HC := Lib.hid (tfcells_at (w.heap.size + 1))
  have HG := Lib.hid fun (c n : Int) W (hW : Below w.heap.size w W) => get_any p len cap l c n W (h.below hW) hlen hcap hm
  have hno : ∀ (k : Nat) (c : Int) (o wd : Nat), c = at_ + o → (wd = 4 ∨ wd = 8) → o + wd ≤ 64 → fitB len c wd = false → sectAt l at_ = none := fun k c o wd hc hw ho hf => by
    unfold sectAt
    rw [if_neg fun hh => by
      have := (fitB_iff len c wd).2 ⟨by omega, by omega, by have := hh.2.1; omega⟩
      rw [this] at hf; cases hf]
  have HNO := Lib.hid hno
  have hno2 : ∀ (k : Nat) (a o wd : Nat), at_ = (a : Int) → (tenAt l a).l[k]? = some (numI l (a + o) wd) → 2147483647 < num (win l (a + o) wd) → sectAt l at_ = none := fun k a o wd ha hx hv => by
    unfold sectAt
    rw [if_neg fun hh => by
      have e : at_.toNat = a := by omega
      have h3 : ∀ y ∈ (tenAt l at_.toNat).l, fitsB y = true := hh.2.2
      rw [e] at h3
      have := (fitsB_iff _).1 (h3 _ (List.mem_of_getElem? hx))
      unfold numI at this
      rw [if_neg (by omega)] at this
      omega]
  have HNO2 := Lib.hid hno2
  have hyes : ∀ a : Nat, at_ = (a : Int) → a + 64 ≤ len → (∀ (j : Nat) (y : Int), j < 10 → (tenAt l a).l[j]? = some y → fitsB y = true) → sectAt l at_ = some (tenAt l a) := fun a ha hl hf => by
    have e : at_.toNat = a := by omega
    have hmay : (tenAt l a).may := fun y hy => by
      obtain ⟨j, hj⟩ := List.getElem?_of_mem hy
      exact hf j y (by have := (List.getElem?_eq_some_iff.1 hj).1; simpa [Ten.l] using this) hj
    unfold sectAt
    rw [e, if_pos ⟨by omega, by omega, hmay⟩]
  have HYES := Lib.hid hyes
  have hgb : ∀ (a o wd : Nat), fitB len ((a + o : Nat) : Int) wd = true → getB l ((a + o : Nat) : Int) wd = num (win l (a + o) wd) := fun a o wd hf => by
    unfold getB
    rw [hlen, if_pos hf]; rfl
  have HGB := Lib.hid hgb
  have hz1 : ((w.alloc (.cells zcells 104)).alloc (.cells zcells 104)).heap[w.heap.size + 1]? = some (.cells zcells 104 (0, 0)) := by
    have := heap_alloc_new (w.alloc (.cells zcells 104)) (.cells zcells 104)
    simpa using this
  have hz0 : ((w.alloc (.cells zcells 104)).alloc (.cells zcells 104)).heap[w.heap.size]? = some (.cells zcells 104 (0, 0)) := by
    rw [Below.heap_alloc _ _ _ (by simp)]; exact heap_alloc_new w _
  have hbz : Below w.heap.size w ((w.alloc (.cells zcells 104)).alloc (.cells zcells 104)) := ((Below.refl _ w).alloc (Nat.le_refl _) _).alloc (by simp) _
  have hzz : ((w.alloc (.cells zcells 104)).alloc (.cells zcells 104)).heap.size = w.heap.size + 1 + 1 := by simp
  have HLEN := Lib.hid hlen
  clear hno hno2 hyes hgb h hcap hlen
  go_enter Tryz.func83, Tryz.ntmps83
  go_wp2_with fail
  refine (HF.out _).mono ?_
  rintro e w2 ⟨rfl, rfl⟩
  go_wp2_with fail
  change Below w.heap.size w ((w.alloc (.cells #[.int .i64 0, .int .i64 0, .int .i64 0, .int .i64 0, .int .i64 0, .int .i64 0, .int .i64 0, .int .i64 0, .int .i64 0, .int .i64 0] 104)).alloc (.cells #[.int .i64 0, .int .i64 0, .int .i64 0, .int .i64 0, .int .i64 0, .int .i64 0, .int .i64 0, .int .i64 0, .int .i64 0, .int .i64 0] 104)) at hbz
  change ((w.alloc (.cells #[.int .i64 0, .int .i64 0, .int .i64 0, .int .i64 0, .int .i64 0, .int .i64 0, .int .i64 0, .int .i64 0, .int .i64 0, .int .i64 0] 104)).alloc (.cells #[.int .i64 0, .int .i64 0, .int .i64 0, .int .i64 0, .int .i64 0, .int .i64 0, .int .i64 0, .int .i64 0, .int .i64 0, .int .i64 0] 104)).heap[w.heap.size]? = _ at hz0
  change ((w.alloc (.cells #[.int .i64 0, .int .i64 0, .int .i64 0, .int .i64 0, .int .i64 0, .int .i64 0, .int .i64 0, .int .i64 0, .int .i64 0, .int .i64 0] 104)).alloc (.cells #[.int .i64 0, .int .i64 0, .int .i64 0, .int .i64 0, .int .i64 0, .int .i64 0, .int .i64 0, .int .i64 0, .int .i64 0, .int .i64 0] 104)).heap[w.heap.size + 1]? = _ at hz1
  change ((w.alloc (.cells #[.int .i64 0, .int .i64 0, .int .i64 0, .int .i64 0, .int .i64 0, .int .i64 0, .int .i64 0, .int .i64 0, .int .i64 0, .int .i64 0] 104)).alloc (.cells #[.int .i64 0, .int .i64 0, .int .i64 0, .int .i64 0, .int .i64 0, .int .i64 0, .int .i64 0, .int .i64 0, .int .i64 0, .int .i64 0] 104)).heap.size = _ at hzz
  generalize (w.alloc (.cells #[.int .i64 0, .int .i64 0, .int .i64 0, .int .i64 0, .int .i64 0, .int .i64 0, .int .i64 0, .int .i64 0, .int .i64 0, .int .i64 0] 104)).alloc (.cells #[.int .i64 0, .int .i64 0, .int .i64 0, .int .i64 0, .int .i64 0, .int .i64 0, .int .i64 0, .int .i64 0, .int .i64 0, .int .i64 0] 104) = wz at *
  have hzb := (Below.refl wz.heap.size wz).alloc (Nat.le_refl _) (.cells (tfcells (w.heap.size + 1)) 163)
  have g0 : ((wz.alloc (.cells (tfcells (w.heap.size + 1)) 163)).drew).heap[w.heap.size]? = some (.cells zcells 104 (0, 0)) := theap_of_below hzb.drew hz0 (by omega)
  have g1 : ((wz.alloc (.cells (tfcells (w.heap.size + 1)) 163)).drew).heap[w.heap.size + 1]? = some (.cells zcells 104 (0, 0)) := theap_of_below hzb.drew hz1 (by omega)
  have g2 : ((wz.alloc (.cells (tfcells (w.heap.size + 1)) 163)).drew).heap[w.heap.size + 1 + 1]? = some (.cells (tfcells (w.heap.size + 1)) 163 (0, 0)) := by
    have := heap_alloc_new wz (.cells (tfcells (w.heap.size + 1)) 163)
    rw [hzz] at this; exact this
  have gb : Below w.heap.size w ((wz.alloc (.cells (tfcells (w.heap.size + 1)) 163)).drew) := (hbz.alloc (by omega) _).drew
  generalize ((wz.alloc (.cells (tfcells (w.heap.size + 1)) 163)).drew) = w3 at *
  clear hzb hz0 hz1 hbz hzz
  clear wz
  go_loopw [1, 13] (fun av ii wr => ∃ (k o : Nat) (c : Int), k ≤ 10 ∧ toff[k]? = some o ∧ ii = .int .i64 (k : Int) ∧ av = .int .i64 c ∧ c = at_ + o ∧ (k = 0 ∨ (0 ≤ at_ ∧ c ≤ len)) ∧ (∀ (j : Nat) (y : Int), j < k → (tenAt l at_.toNat).l[j]? = some y → fitsB y = true) ∧
      wr.heap[w.heap.size]? = some (.cells zcells 104 (0, 0)) ∧ wr.heap[w.heap.size + 1]? = some (.cells (pcells (tenAt l at_.toNat) k) 104 (0, 0)) ∧ wr.heap[w.heap.size + 1 + 1]? = some (.cells (tfcells (w.heap.size + 1)) 163 (0, 0)) ∧ Below w.heap.size w wr) (fun _ ii _ => 10 - (intOf ii).toNat)
  case atStart => exact ⟨0, 0, at_, Nat.zero_le _, rfl, rfl, rfl, by simp, .inl rfl, fun j y hj => absurd hj (by omega), g0, g1, g2, gb⟩
  case round =>
    obtain ⟨k, o, c, hk, ho, rfl, rfl, hc, hin, hfit, hh0, hh1, hh2, hb⟩ := hrel
    clear g0 g1 g2 gb
    by_cases hlt : k < 10
    · obtain ⟨o', wd, ho1, ho2, hwd, ho64, hy1, hy2, _, hT⟩ := HC.out k hlt
      rw [ho] at ho1
      cases ho1
      have hgs0 := tlt_of_heap hh0
      have hgs1 := tlt_of_heap hh1
      have hgs2 := tlt_of_heap hh2
      have d1 : wr.cell? ⟨w.heap.size + 1 + 1, k * 2, none⟩ = some (.pointer (some ⟨w.heap.size + 1, k, none⟩)) := by
        rw [cell_of_row wr (w.heap.size + 1 + 1) (k * 2) _ _ (0, 0) hh2, Nat.mul_comm]; exact hy1
      have d2 : wr.cell? ⟨w.heap.size + 1 + 1, k * 2 + 1, none⟩ = some (.int .i64 (wd : Int)) := by
        rw [cell_of_row wr (w.heap.size + 1 + 1) (k * 2 + 1) _ _ (0, 0) hh2, Nat.mul_comm]; exact hy2
      have hba : Below wr.heap.size wr (wr.alloc (.cells #[.pointer (some ⟨w.heap.size + 1, k, none⟩), .int .i64 (wd : Int)] 163)) := (Below.refl _ wr).alloc (Nat.le_refl _) _
      have hh0A := theap_of_below hba hh0 hgs0
      have hh1A := theap_of_below hba hh1 hgs1
      have hh2A := theap_of_below hba hh2 hgs2
      have hbA : Below w.heap.size w (wr.alloc (.cells #[.pointer (some ⟨w.heap.size + 1, k, none⟩), .int .i64 (wd : Int)] 163)) := hb.alloc hb.size _
      have hI : (k : Int) < 10 := by omega
      have hI0 : (0 : Int) ≤ (k : Int) := by omega
      have HGc := Lib.hid (HG.out c wd _ hbA)
      cases hf : fitB len c wd with
      | false =>
        have hnone := HNO.out k c o wd hc hwd ho64 hf
        rw [hf] at HGc
        have HN := Lib.hid hnone
        obtain ⟨c0, c1, c2, c3, c4, c5, c6, c7, c8, c9⟩ := zcells10 _ _ _ hh0A
        obtain ⟨f0, f1, f2, f3, f4, f5, f6, f7, f8, f9⟩ := frozen10 _ _ _ _ hh0A
        generalize getB l c wd = V at *
        clear hnone hf hT hwd ho64 hy1 hy2 hin hfit ho ho2 hc
        go_wp2_with fail
        refine HGc.out.mono ?_
        rintro e w' ⟨rfl, rfl⟩
        clear HG HC HNO HNO2 HYES HGB hba HF
        generalize (wr.alloc (.cells #[.pointer (some ⟨w.heap.size + 1, k, none⟩), .int .i64 (wd : Int)] 163)) = wa at *
        go_wp2_with fail
        rw [HN.out]
        exact bodyPost_ret (v := .tuple #[ten0.v, .bool false]) (by simp [results, Tryz.results83, go_sem, ten0, c0, c1, c2, c3, c4, c5, c6, c7, c8, c9]) rfl ⟨rfl, ((((((((((hbA.setCell (Nat.le_refl _) _).setCell (Nat.le_refl _) _).setCell (Nat.le_refl _) _).setCell (Nat.le_refl _) _).setCell (Nat.le_refl _) _).setCell (Nat.le_refl _) _).setCell (Nat.le_refl _) _).setCell (Nat.le_refl _) _).setCell (Nat.le_refl _) _).setCell (Nat.le_refl _) _)⟩
      | true =>
        obtain ⟨hf1, hf2, hf3⟩ := (fitB_iff _ _ _).1 hf
        have hat0 : 0 ≤ at_ := by
          rcases hin with rfl | hin
          · cases ho; omega
          · exact hin.1
        obtain ⟨a, ha⟩ := Int.eq_ofNat_of_zero_le hat0
        have hta : at_.toNat = a := by omega
        have hca : c = ((a + o : Nat) : Int) := by omega
        have hg := HGB.out a o wd (by rw [← hca]; exact hf)
        rw [← hca] at hg
        rw [hf, hg] at HGc
        have hTx := hT l a
        rw [hta] at hfit hh1 hh1A
        have hvlt : num (win l (a + o) wd) < 18446744073709551616 := num_lt64 _ (by rw [win_length l (a + o) wd (by have := HLEN.out; omega)]; omega)
        by_cases hV : num (win l (a + o) wd) ≤ 2147483647
        · have hx : (tenAt l a).l[k]? = some (num (win l (a + o) wd) : Int) := by rw [hTx, numI, if_pos hV]
          have hset := pcells_set (tenAt l a) k hlt _ hx
          have hfit' : ∀ (j : Nat) (y : Int), j < k + 1 → (tenAt l at_.toNat).l[j]? = some y → fitsB y = true := fun j y hj hy => by
            rw [hta] at hy
            by_cases hjk : j < k
            · exact hfit j y hjk hy
            · obtain rfl : j = k := by omega
              rw [hx] at hy; cases hy
              exact (fitsB_iff _).2 ⟨by omega, by omega⟩
          have HFT := Lib.hid hfit'
          have HST := Lib.hid hset
          have HTA := Lib.hid hta
          have HO2 := Lib.hid ho2
          have HCA := Lib.hid hca
          generalize num (win l (a + o) wd) = V at *
          obtain ⟨e0, e1⟩ := two_new wr (.pointer (some ⟨w.heap.size + 1, k, none⟩)) (.int .i64 (wd : Int)) 163
          have hne : wr.heap.size ≠ w.heap.size + 1 := by omega
          have hJ : ¬ (2147483647 : Int) < (V : Int) := by omega
          have hlen2 : c + wd ≤ len := by omega
          have q5 : -9223372036854775808 ≤ c + (wd : Int) ∧ c + (wd : Int) ≤ 9223372036854775807 := by omega
          have q6 : V < 9223372036854775808 := by omega
          clear hf hT hwd ho64 hy1 hy2 hin hfit ho ho2 hc hg hTx hf1 hf2 hf3 hfit' hset hta hca hx HGB hvlt
          go_wp2_with fail
          refine HGc.out.mono ?_
          rintro e w' ⟨rfl, rfl⟩
          have k5 := i64w _ q5
          have k7 := i64n V q6
          clear q5 q6
          have hfz := frozen_of_row _ _ k _ _ hh1A
          have hck := (cell_of_row _ _ k _ _ (0, 0) hh1A).trans (pcells_at (tenAt l a) k hlt)
          clear HG HC HNO HNO2 HYES hba HF
          generalize (wr.alloc (.cells #[.pointer (some ⟨w.heap.size + 1, k, none⟩), .int .i64 (wd : Int)] 163)) = wa at *
          have e2 : (wa.setCell ⟨w.heap.size + 1, k, none⟩ (.int .i64 (V : Int))).cell? ⟨wr.heap.size, 1, none⟩ = some (.int .i64 (wd : Int)) := by
            rw [World.cell?_setCell_far _ _ _ _ (by exact fun h => hne h.symm)]; exact e1
          have hh0B : (wa.setCell ⟨w.heap.size + 1, k, none⟩ (.int .i64 (V : Int))).heap[w.heap.size]? = some (.cells zcells 104 (0, 0)) := by
            rw [heap_setCell_other _ _ _ _ (by simp)]; exact hh0A
          have hh1B : (wa.setCell ⟨w.heap.size + 1, k, none⟩ (.int .i64 (V : Int))).heap[w.heap.size + 1]? = some (.cells (pcells (tenAt l a) (k + 1)) 104 (0, 0)) := by
            rw [heap_setCell_same _ _ _ _ _ _ hh1A, HST.out]
          have hh2B : (wa.setCell ⟨w.heap.size + 1, k, none⟩ (.int .i64 (V : Int))).heap[w.heap.size + 1 + 1]? = some (.cells (tfcells (w.heap.size + 1)) 163 (0, 0)) := by
            rw [heap_setCell_other _ _ _ _ (by simp)]; exact hh2A
          have hbB : Below w.heap.size w (wa.setCell ⟨w.heap.size + 1, k, none⟩ (.int .i64 (V : Int))) := hbA.setCell (by simp) _
          clear hh0A hh1A hh2A
          go_wp2_with fail
          clear k5 k7
          go_roundw
          case rel => exact ⟨k + 1, o + wd, c + wd, hlt, HO2.out, by go_num, rfl, by have := HCA.out; omega, .inr ⟨hat0, hlen2⟩, HFT.out, hh0B, by rw [HTA.out]; exact hh1B, hh2B, hbB⟩
          case measure => simp [intOf]; omega
        · have hnone := HNO2.out k a o wd ha hTx (by omega)
          have HN := Lib.hid hnone
          obtain ⟨c0, c1, c2, c3, c4, c5, c6, c7, c8, c9⟩ := zcells10 _ _ _ hh0A
          obtain ⟨f0, f1, f2, f3, f4, f5, f6, f7, f8, f9⟩ := frozen10 _ _ _ _ hh0A
          generalize num (win l (a + o) wd) = V at *
          have hJ : (2147483647 : Int) < (V : Int) := by omega
          clear hnone hf hT hwd ho64 hy1 hy2 hin hfit ho ho2 hc hg hTx hf1 hf2 hf3 hta hca
          go_wp2_with fail
          refine HGc.out.mono ?_
          rintro e w' ⟨rfl, rfl⟩
          clear HG HC HNO HNO2 HYES HGB hba HF
          generalize (wr.alloc (.cells #[.pointer (some ⟨w.heap.size + 1, k, none⟩), .int .i64 (wd : Int)] 163)) = wa at *
          go_wp2_with fail
          rw [HN.out]
          exact bodyPost_ret (v := .tuple #[ten0.v, .bool false]) (by simp [results, Tryz.results83, go_sem, ten0, c0, c1, c2, c3, c4, c5, c6, c7, c8, c9]) rfl ⟨rfl, ((((((((((hbA.setCell (Nat.le_refl _) _).setCell (Nat.le_refl _) _).setCell (Nat.le_refl _) _).setCell (Nat.le_refl _) _).setCell (Nat.le_refl _) _).setCell (Nat.le_refl _) _).setCell (Nat.le_refl _) _).setCell (Nat.le_refl _) _).setCell (Nat.le_refl _) _).setCell (Nat.le_refl _) _)⟩
    · obtain rfl : k = 10 := by omega
      obtain ⟨hat0, hcl⟩ := hin.resolve_left (by omega)
      have ho' : o = 64 := by cases ho; rfl
      obtain ⟨a, ha⟩ := Int.eq_ofNat_of_zero_le hat0
      have hta : at_.toNat = a := by omega
      rw [hta] at hfit hh1
      have hsome := HYES.out a ha (by omega) hfit
      have HS := Lib.hid hsome
      rw [pcells_ten] at hh1
      clear hsome hfit
      generalize tenAt l a = T at *
      obtain ⟨v0, v1, v2, v3, v4, v5, v6, v7, v8, v9⟩ := T
      obtain ⟨d0, d1, d2, d3, d4, d5, d6, d7, d8, d9⟩ := cells10 _ _ _ _ hh1
      obtain ⟨c0, c1, c2, c3, c4, c5, c6, c7, c8, c9⟩ := zcells10 _ _ _ hh0
      obtain ⟨f0, f1, f2, f3, f4, f5, f6, f7, f8, f9⟩ := frozen10 _ _ _ _ hh0
      simp only at d0 d1 d2 d3 d4 d5 d6 d7 d8 d9
      clear HG HC HNO HNO2 HYES HGB HF hh0 hh1 hh2
      go_wp2_with fail
      rw [HS.out]
      exact bodyPost_ret (v := .tuple #[Ten.v ⟨v0, v1, v2, v3, v4, v5, v6, v7, v8, v9⟩, .bool true]) (by simp [results, Tryz.results83, go_sem, c0, c1, c2, c3, c4, c5, c6, c7, c8, c9]) rfl ⟨rfl, ((((((((((hb.setCell (Nat.le_refl _) _).setCell (Nat.le_refl _) _).setCell (Nat.le_refl _) _).setCell (Nat.le_refl _) _).setCell (Nat.le_refl _) _).setCell (Nat.le_refl _) _).setCell (Nat.le_refl _) _).setCell (Nat.le_refl _) _).setCell (Nat.le_refl _) _).setCell (Nat.le_refl _) _)⟩

end Go.Proofs.YtenmcmnhiejbgaaGreat
