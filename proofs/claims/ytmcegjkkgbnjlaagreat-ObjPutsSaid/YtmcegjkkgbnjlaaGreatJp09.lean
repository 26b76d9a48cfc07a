/-
  Contract of the project's shdr.Get.
  Contract: the reference's Begun.
-/
import Derived.Test.YtmcegjkkgbnjlaaGreatJp08
import Derived.Test.YtmcegjkkgbnjlaaGreatJp01
import Derived.Deep.RegionHeld
import Derived.Deep.DeepCutAuto
namespace Go.Proofs.YtmcegjkkgbnjlaaGreat
open Go.RowKit

/-- A header of which k numbers have been laid. -/
def part (t : Ten) (k : Nat) : List Int := t.l.take k ++ List.replicate (10 - k) 0
def pcells (t : Ten) (k : Nat) : Array Value := ((part t k).map (Value.int .i64)).toArray
theorem pcells_zero (t : Ten) : pcells t 0 = #[.int .i64 0, .int .i64 0, .int .i64 0, .int .i64 0, .int .i64 0, .int .i64 0, .int .i64 0, .int .i64 0, .int .i64 0, .int .i64 0] := rfl
theorem pcells_ten (t : Ten) : pcells t 10 = tcells t := rfl
theorem pcells_set (t : Ten) (k : Nat) (hk : k < 10) (x : Int) (hx : t.l[k]? = some x) : (pcells t k).setIfInBounds k (.int .i64 x) = pcells t (k + 1) := by
  match k, hk with
  | 0, _ | 1, _ | 2, _ | 3, _ | 4, _ | 5, _ | 6, _ | 7, _ | 8, _ | 9, _ => cases hx; rfl
theorem pcells_size (t : Ten) (k : Nat) (hk : k ≤ 10) : (pcells t k).size = 10 := by
  simp [pcells, part, Ten.l]; omega
theorem pcells_at (t : Ten) (k : Nat) (hk : k < 10) : (pcells t k)[k]? = some (.int .i64 0) := by
  match k, hk with
  | 0, _ | 1, _ | 2, _ | 3, _ | 4, _ | 5, _ | 6, _ | 7, _ | 8, _ | 9, _ => rfl

theorem i64w (x : Int) (h : -9223372036854775808 ≤ x ∧ x ≤ 9223372036854775807) : IntKind.i64.wrap x = x := IntWalk.i64_in x (by omega)
theorem w64w (V : Nat) (h : V < 9223372036854775808) : wrap64 (V : Int) = (V : Int) := by unfold wrap64; omega
theorem i64n (V : Nat) (h : V < 9223372036854775808) : IntKind.i64.wrap (V : Int) = (V : Int) := i64w _ (by omega)
def zcells : Array Value := #[.int .i64 0, .int .i64 0, .int .i64 0, .int .i64 0, .int .i64 0, .int .i64 0, .int .i64 0, .int .i64 0, .int .i64 0, .int .i64 0]
theorem cells10 (w : World) (g : Nat) (t : Ten) (T : TypeId) (h : w.heap[g]? = some (.cells (tcells t) T (0, 0))) :
    (w.cell? ⟨g, 0, none⟩ = some (.int .i64 t.a) ∧ w.cell? ⟨g, 1, none⟩ = some (.int .i64 t.b) ∧ w.cell? ⟨g, 2, none⟩ = some (.int .i64 t.c) ∧ w.cell? ⟨g, 3, none⟩ = some (.int .i64 t.d) ∧ w.cell? ⟨g, 4, none⟩ = some (.int .i64 t.e) ∧
     w.cell? ⟨g, 5, none⟩ = some (.int .i64 t.f) ∧ w.cell? ⟨g, 6, none⟩ = some (.int .i64 t.g) ∧ w.cell? ⟨g, 7, none⟩ = some (.int .i64 t.h) ∧ w.cell? ⟨g, 8, none⟩ = some (.int .i64 t.i) ∧ w.cell? ⟨g, 9, none⟩ = some (.int .i64 t.j)) := by
  refine ⟨?_, ?_, ?_, ?_, ?_, ?_, ?_, ?_, ?_, ?_⟩ <;> exact (cell_of_row w g _ _ _ (0, 0) h).trans rfl
theorem zcells10 (w : World) (g : Nat) (T : TypeId) (h : w.heap[g]? = some (.cells zcells T (0, 0))) :
    (w.cell? ⟨g, 0, none⟩ = some (.int .i64 0) ∧ w.cell? ⟨g, 1, none⟩ = some (.int .i64 0) ∧ w.cell? ⟨g, 2, none⟩ = some (.int .i64 0) ∧ w.cell? ⟨g, 3, none⟩ = some (.int .i64 0) ∧ w.cell? ⟨g, 4, none⟩ = some (.int .i64 0) ∧
     w.cell? ⟨g, 5, none⟩ = some (.int .i64 0) ∧ w.cell? ⟨g, 6, none⟩ = some (.int .i64 0) ∧ w.cell? ⟨g, 7, none⟩ = some (.int .i64 0) ∧ w.cell? ⟨g, 8, none⟩ = some (.int .i64 0) ∧ w.cell? ⟨g, 9, none⟩ = some (.int .i64 0)) := cells10 w g ten0 T h
theorem two_new (w : World) (x y : Value) (T : TypeId) : (w.alloc (.cells #[x, y] T)).cell? ⟨w.heap.size, 0, none⟩ = some x ∧ (w.alloc (.cells #[x, y] T)).cell? ⟨w.heap.size, 1, none⟩ = some y := by
  constructor <;> simp
theorem frozen10 (w : World) (g : Nat) (cs : Array Value) (T : TypeId) (h : w.heap[g]? = some (.cells cs T (0, 0))) :
    (w.frozen? ⟨g, 0, none⟩ = false ∧ w.frozen? ⟨g, 1, none⟩ = false ∧ w.frozen? ⟨g, 2, none⟩ = false ∧ w.frozen? ⟨g, 3, none⟩ = false ∧ w.frozen? ⟨g, 4, none⟩ = false ∧
     w.frozen? ⟨g, 5, none⟩ = false ∧ w.frozen? ⟨g, 6, none⟩ = false ∧ w.frozen? ⟨g, 7, none⟩ = false ∧ w.frozen? ⟨g, 8, none⟩ = false ∧ w.frozen? ⟨g, 9, none⟩ = false) := by
  refine ⟨?_, ?_, ?_, ?_, ?_, ?_, ?_, ?_, ?_, ?_⟩ <;> exact frozen_of_row w g _ _ _ h

set_option maxRecDepth 100000 in
set_option maxHeartbeats 2000000 in
theorem tget_ok : TGetOK := fun p len cap l at_ w h hlen hcap hm hbig ha0 ha1 => by
  have HF := Lib.hid fun W => tfields_any (w.heap.size + 1) W
  have HC := Lib.hid (tfcells_at (w.heap.size + 1))
  have HG := Lib.hid fun (c n : Int) W (hW : Below w.heap.size w W) => get_any p len cap l c n W (h.below hW) hlen hcap hm
  have hno : ∀ (k : Nat) (c : Int) (o wd : Nat), c = at_ + o → (wd = 4 ∨ wd = 8) → o + wd ≤ 64 → fitB len c wd = false → sectAt l at_ = none := fun k c o wd hc hw ho hf => by
    unfold sectAt
    rw [if_neg fun hh => by
      have := (fitB_iff len c wd).2 ⟨by omega, by omega, by have := hh.2.1; omega⟩
      rw [this] at hf; cases hf]
  have HNO := Lib.hid hno
  have hno2 : ∀ (k : Nat) (a o wd : Nat), at_ = (a : Int) → (tenAt l a).l[k]? = some (numI l (a + o) wd) → 2147483647 < num (win l (a + o) wd) → sectAt l at_ = none := fun k a o wd ha hx hv => by
    unfold sectAt
    rw [if_neg fun hh => by
      have e : at_.toNat = a := by omega
      have h3 : ∀ y ∈ (tenAt l at_.toNat).l, fitsB y = true := hh.2.2
      rw [e] at h3
      have := (fitsB_iff _).1 (h3 _ (List.mem_of_getElem? hx))
      unfold numI at this
      rw [if_neg (by omega)] at this
      omega]
  have HNO2 := Lib.hid hno2
  have hyes : ∀ a : Nat, at_ = (a : Int) → a + 64 ≤ len → (∀ (j : Nat) (y : Int), j < 10 → (tenAt l a).l[j]? = some y → fitsB y = true) → sectAt l at_ = some (tenAt l a) := fun a ha hl hf => by
    have e : at_.toNat = a := by omega
    have hmay : (tenAt l a).may := fun y hy => by
      obtain ⟨j, hj⟩ := List.getElem?_of_mem hy
      exact hf j y (by have := (List.getElem?_eq_some_iff.1 hj).1; simpa [Ten.l] using this) hj
    unfold sectAt
    rw [e, if_pos ⟨by omega, by omega, hmay⟩]
  have HYES := Lib.hid hyes
  have hgb : ∀ (a o wd : Nat), fitB len ((a + o : Nat) : Int) wd = true → getB l ((a + o : Nat) : Int) wd = num (win l (a + o) wd) := fun a o wd hf => by
    unfold getB
    rw [hlen, if_pos hf]; rfl
  have HGB := Lib.hid hgb
  have hz1 : ((w.alloc (.cells zcells 104)).alloc (.cells zcells 104)).heap[w.heap.size + 1]? = some (.cells zcells 104 (0, 0)) := by
    have := heap_alloc_new (w.alloc (.cells zcells 104)) (.cells zcells 104)
    simpa using this
  have hz0 : ((w.alloc (.cells zcells 104)).alloc (.cells zcells 104)).heap[w.heap.size]? = some (.cells zcells 104 (0, 0)) := by
    rw [Below.heap_alloc _ _ _ (by simp)]; exact heap_alloc_new w _
  have hbz : Below w.heap.size w ((w.alloc (.cells zcells 104)).alloc (.cells zcells 104)) := ((Below.refl _ w).alloc (Nat.le_refl _) _).alloc (by simp) _
  have hzz : ((w.alloc (.cells zcells 104)).alloc (.cells zcells 104)).heap.size = w.heap.size + 1 + 1 := by simp
  have HLEN := Lib.hid hlen
  clear hno hno2 hyes hgb h hcap hlen
  go_enter Tryz.func83, Tryz.ntmps83
  go_wp2_with fail
  refine (HF.out _).mono ?_
  rintro e w2 ⟨rfl, rfl⟩
  go_wp2_with fail
  change Below w.heap.size w ((w.alloc (.cells #[.int .i64 0, .int .i64 0, .int .i64 0, .int .i64 0, .int .i64 0, .int .i64 0, .int .i64 0, .int .i64 0, .int .i64 0, .int .i64 0] 104)).alloc (.cells #[.int .i64 0, .int .i64 0, .int .i64 0, .int .i64 0, .int .i64 0, .int .i64 0, .int .i64 0, .int .i64 0, .int .i64 0, .int .i64 0] 104)) at hbz
  change ((w.alloc (.cells #[.int .i64 0, .int .i64 0, .int .i64 0, .int .i64 0, .int .i64 0, .int .i64 0, .int .i64 0, .int .i64 0, .int .i64 0, .int .i64 0] 104)).alloc (.cells #[.int .i64 0, .int .i64 0, .int .i64 0, .int .i64 0, .int .i64 0, .int .i64 0, .int .i64 0, .int .i64 0, .int .i64 0, .int .i64 0] 104)).heap[w.heap.size]? = _ at hz0
  change ((w.alloc (.cells #[.int .i64 0, .int .i64 0, .int .i64 0, .int .i64 0, .int .i64 0, .int .i64 0, .int .i64 0, .int .i64 0, .int .i64 0, .int .i64 0] 104)).alloc (.cells #[.int .i64 0, .int .i64 0, .int .i64 0, .int .i64 0, .int .i64 0, .int .i64 0, .int .i64 0, .int .i64 0, .int .i64 0, .int .i64 0] 104)).heap[w.heap.size + 1]? = _ at hz1
  change ((w.alloc (.cells #[.int .i64 0, .int .i64 0, .int .i64 0, .int .i64 0, .int .i64 0, .int .i64 0, .int .i64 0, .int .i64 0, .int .i64 0, .int .i64 0] 104)).alloc (.cells #[.int .i64 0, .int .i64 0, .int .i64 0, .int .i64 0, .int .i64 0, .int .i64 0, .int .i64 0, .int .i64 0, .int .i64 0, .int .i64 0] 104)).heap.size = _ at hzz
  generalize (w.alloc (.cells #[.int .i64 0, .int .i64 0, .int .i64 0, .int .i64 0, .int .i64 0, .int .i64 0, .int .i64 0, .int .i64 0, .int .i64 0, .int .i64 0] 104)).alloc (.cells #[.int .i64 0, .int .i64 0, .int .i64 0, .int .i64 0, .int .i64 0, .int .i64 0, .int .i64 0, .int .i64 0, .int .i64 0, .int .i64 0] 104) = wz at *
  have hzb := (Below.refl wz.heap.size wz).alloc (Nat.le_refl _) (.cells (tfcells (w.heap.size + 1)) 163)
  have g0 : ((wz.alloc (.cells (tfcells (w.heap.size + 1)) 163)).drew).heap[w.heap.size]? = some (.cells zcells 104 (0, 0)) := theap_of_below hzb.drew hz0 (by omega)
  have g1 : ((wz.alloc (.cells (tfcells (w.heap.size + 1)) 163)).drew).heap[w.heap.size + 1]? = some (.cells zcells 104 (0, 0)) := theap_of_below hzb.drew hz1 (by omega)
  have g2 : ((wz.alloc (.cells (tfcells (w.heap.size + 1)) 163)).drew).heap[w.heap.size + 1 + 1]? = some (.cells (tfcells (w.heap.size + 1)) 163 (0, 0)) := by
    have := heap_alloc_new wz (.cells (tfcells (w.heap.size + 1)) 163)
    rw [hzz] at this; exact this
  have gb : Below w.heap.size w ((wz.alloc (.cells (tfcells (w.heap.size + 1)) 163)).drew) := (hbz.alloc (by omega) _).drew
  generalize ((wz.alloc (.cells (tfcells (w.heap.size + 1)) 163)).drew) = w3 at *
  clear hzb hz0 hz1 hbz hzz
  clear wz
  go_loopw [1, 13] (fun av ii wr => ∃ (k o : Nat) (c : Int), k ≤ 10 ∧ toff[k]? = some o ∧ ii = .int .i64 (k : Int) ∧ av = .int .i64 c ∧ c = at_ + o ∧ (k = 0 ∨ (0 ≤ at_ ∧ c ≤ len)) ∧ (∀ (j : Nat) (y : Int), j < k → (tenAt l at_.toNat).l[j]? = some y → fitsB y = true) ∧
      wr.heap[w.heap.size]? = some (.cells zcells 104 (0, 0)) ∧ wr.heap[w.heap.size + 1]? = some (.cells (pcells (tenAt l at_.toNat) k) 104 (0, 0)) ∧ wr.heap[w.heap.size + 1 + 1]? = some (.cells (tfcells (w.heap.size + 1)) 163 (0, 0)) ∧ Below w.heap.size w wr) (fun _ ii _ => 10 - (intOf ii).toNat)
  case atStart => exact ⟨0, 0, at_, Nat.zero_le _, rfl, rfl, rfl, by simp, .inl rfl, fun j y hj => absurd hj (by omega), g0, g1, g2, gb⟩
  case round =>
    obtain ⟨k, o, c, hk, ho, rfl, rfl, hc, hin, hfit, hh0, hh1, hh2, hb⟩ := hrel
    clear g0 g1 g2 gb
    by_cases hlt : k < 10
    · obtain ⟨o', wd, ho1, ho2, hwd, ho64, hy1, hy2, _, hT⟩ := HC.out k hlt
      rw [ho] at ho1
      cases ho1
      have hgs0 := tlt_of_heap hh0
      have hgs1 := tlt_of_heap hh1
      have hgs2 := tlt_of_heap hh2
      have d1 : wr.cell? ⟨w.heap.size + 1 + 1, k * 2, none⟩ = some (.pointer (some ⟨w.heap.size + 1, k, none⟩)) := by
        rw [cell_of_row wr (w.heap.size + 1 + 1) (k * 2) _ _ (0, 0) hh2, Nat.mul_comm]; exact hy1
      have d2 : wr.cell? ⟨w.heap.size + 1 + 1, k * 2 + 1, none⟩ = some (.int .i64 (wd : Int)) := by
        rw [cell_of_row wr (w.heap.size + 1 + 1) (k * 2 + 1) _ _ (0, 0) hh2, Nat.mul_comm]; exact hy2
      have hba : Below wr.heap.size wr (wr.alloc (.cells #[.pointer (some ⟨w.heap.size + 1, k, none⟩), .int .i64 (wd : Int)] 163)) := (Below.refl _ wr).alloc (Nat.le_refl _) _
      have hh0A := theap_of_below hba hh0 hgs0
      have hh1A := theap_of_below hba hh1 hgs1
      have hh2A := theap_of_below hba hh2 hgs2
      have hbA : Below w.heap.size w (wr.alloc (.cells #[.pointer (some ⟨w.heap.size + 1, k, none⟩), .int .i64 (wd : Int)] 163)) := hb.alloc hb.size _
      have hI : (k : Int) < 10 := by omega
      have hI0 : (0 : Int) ≤ (k : Int) := by omega
      have HGc := Lib.hid (HG.out c wd _ hbA)
      cases hf : fitB len c wd with
      | false =>
        have hnone := HNO.out k c o wd hc hwd ho64 hf
        rw [hf] at HGc
        have HN := Lib.hid hnone
        obtain ⟨c0, c1, c2, c3, c4, c5, c6, c7, c8, c9⟩ := zcells10 _ _ _ hh0A
        obtain ⟨f0, f1, f2, f3, f4, f5, f6, f7, f8, f9⟩ := frozen10 _ _ _ _ hh0A
        generalize getB l c wd = V at *
        clear hnone hf hT hwd ho64 hy1 hy2 hin hfit ho ho2 hc
        go_wp2_with fail
        refine HGc.out.mono ?_
        rintro e w' ⟨rfl, rfl⟩
        clear HG HC HNO HNO2 HYES HGB hba HF
        generalize (wr.alloc (.cells #[.pointer (some ⟨w.heap.size + 1, k, none⟩), .int .i64 (wd : Int)] 163)) = wa at *
        go_wp2_with fail
        rw [HN.out]
        exact bodyPost_ret (v := .tuple #[ten0.v, .bool false]) (by simp [results, Tryz.results83, go_sem, ten0, c0, c1, c2, c3, c4, c5, c6, c7, c8, c9]) rfl ⟨rfl, ((((((((((hbA.setCell (Nat.le_refl _) _).setCell (Nat.le_refl _) _).setCell (Nat.le_refl _) _).setCell (Nat.le_refl _) _).setCell (Nat.le_refl _) _).setCell (Nat.le_refl _) _).setCell (Nat.le_refl _) _).setCell (Nat.le_refl _) _).setCell (Nat.le_refl _) _).setCell (Nat.le_refl _) _)⟩
      | true =>
        obtain ⟨hf1, hf2, hf3⟩ := (fitB_iff _ _ _).1 hf
        have hat0 : 0 ≤ at_ := by
          rcases hin with rfl | hin
          · cases ho; omega
          · exact hin.1
        obtain ⟨a, ha⟩ := Int.eq_ofNat_of_zero_le hat0
        have hta : at_.toNat = a := by omega
        have hca : c = ((a + o : Nat) : Int) := by omega
        have hg := HGB.out a o wd (by rw [← hca]; exact hf)
        rw [← hca] at hg
        rw [hf, hg] at HGc
        have hTx := hT l a
        rw [hta] at hfit hh1 hh1A
        have hvlt : num (win l (a + o) wd) < 18446744073709551616 := num_lt64 _ (by rw [win_length l (a + o) wd (by have := HLEN.out; omega)]; omega)
        by_cases hV : num (win l (a + o) wd) ≤ 2147483647
        · have hx : (tenAt l a).l[k]? = some (num (win l (a + o) wd) : Int) := by rw [hTx, numI, if_pos hV]
          have hset := pcells_set (tenAt l a) k hlt _ hx
          have hfit' : ∀ (j : Nat) (y : Int), j < k + 1 → (tenAt l at_.toNat).l[j]? = some y → fitsB y = true := fun j y hj hy => by
            rw [hta] at hy
            by_cases hjk : j < k
            · exact hfit j y hjk hy
            · obtain rfl : j = k := by omega
              rw [hx] at hy; cases hy
              exact (fitsB_iff _).2 ⟨by omega, by omega⟩
          have HFT := Lib.hid hfit'
          have HST := Lib.hid hset
          have HTA := Lib.hid hta
          have HO2 := Lib.hid ho2
          have HCA := Lib.hid hca
          generalize num (win l (a + o) wd) = V at *
          obtain ⟨e0, e1⟩ := two_new wr (.pointer (some ⟨w.heap.size + 1, k, none⟩)) (.int .i64 (wd : Int)) 163
          have hne : wr.heap.size ≠ w.heap.size + 1 := by omega
          have hJ : ¬ (2147483647 : Int) < (V : Int) := by omega
          have hlen2 : c + wd ≤ len := by omega
          have q5 : -9223372036854775808 ≤ c + (wd : Int) ∧ c + (wd : Int) ≤ 9223372036854775807 := by omega
          have q6 : V < 9223372036854775808 := by omega
          clear hf hT hwd ho64 hy1 hy2 hin hfit ho ho2 hc hg hTx hf1 hf2 hf3 hfit' hset hta hca hx HGB hvlt
          go_wp2_with fail
          refine HGc.out.mono ?_
          rintro e w' ⟨rfl, rfl⟩
          have k5 := i64w _ q5
          have k7 := i64n V q6
          clear q5 q6
          have hfz := frozen_of_row _ _ k _ _ hh1A
          have hck := (cell_of_row _ _ k _ _ (0, 0) hh1A).trans (pcells_at (tenAt l a) k hlt)
          clear HG HC HNO HNO2 HYES hba HF
          generalize (wr.alloc (.cells #[.pointer (some ⟨w.heap.size + 1, k, none⟩), .int .i64 (wd : Int)] 163)) = wa at *
          have e2 : (wa.setCell ⟨w.heap.size + 1, k, none⟩ (.int .i64 (V : Int))).cell? ⟨wr.heap.size, 1, none⟩ = some (.int .i64 (wd : Int)) := by
            rw [World.cell?_setCell_far _ _ _ _ (by exact fun h => hne h.symm)]; exact e1
          have hh0B : (wa.setCell ⟨w.heap.size + 1, k, none⟩ (.int .i64 (V : Int))).heap[w.heap.size]? = some (.cells zcells 104 (0, 0)) := by
            rw [heap_setCell_other _ _ _ _ (by simp)]; exact hh0A
          have hh1B : (wa.setCell ⟨w.heap.size + 1, k, none⟩ (.int .i64 (V : Int))).heap[w.heap.size + 1]? = some (.cells (pcells (tenAt l a) (k + 1)) 104 (0, 0)) := by
            rw [heap_setCell_same _ _ _ _ _ _ hh1A, HST.out]
          have hh2B : (wa.setCell ⟨w.heap.size + 1, k, none⟩ (.int .i64 (V : Int))).heap[w.heap.size + 1 + 1]? = some (.cells (tfcells (w.heap.size + 1)) 163 (0, 0)) := by
            rw [heap_setCell_other _ _ _ _ (by simp)]; exact hh2A
          have hbB : Below w.heap.size w (wa.setCell ⟨w.heap.size + 1, k, none⟩ (.int .i64 (V : Int))) := hbA.setCell (by simp) _
          clear hh0A hh1A hh2A
          go_wp2_with fail
          clear k5 k7
          go_roundw
          case rel => exact ⟨k + 1, o + wd, c + wd, hlt, HO2.out, by go_num, rfl, by have := HCA.out; omega, .inr ⟨hat0, hlen2⟩, HFT.out, hh0B, by rw [HTA.out]; exact hh1B, hh2B, hbB⟩
          case measure => simp [intOf]; omega
        · have hnone := HNO2.out k a o wd ha hTx (by omega)
          have HN := Lib.hid hnone
          obtain ⟨c0, c1, c2, c3, c4, c5, c6, c7, c8, c9⟩ := zcells10 _ _ _ hh0A
          obtain ⟨f0, f1, f2, f3, f4, f5, f6, f7, f8, f9⟩ := frozen10 _ _ _ _ hh0A
          generalize num (win l (a + o) wd) = V at *
          have hJ : (2147483647 : Int) < (V : Int) := by omega
          clear hnone hf hT hwd ho64 hy1 hy2 hin hfit ho ho2 hc hg hTx hf1 hf2 hf3 hta hca
          go_wp2_with fail
          refine HGc.out.mono ?_
          rintro e w' ⟨rfl, rfl⟩
          clear HG HC HNO HNO2 HYES HGB hba HF
          generalize (wr.alloc (.cells #[.pointer (some ⟨w.heap.size + 1, k, none⟩), .int .i64 (wd : Int)] 163)) = wa at *
          go_wp2_with fail
          rw [HN.out]
          exact bodyPost_ret (v := .tuple #[ten0.v, .bool false]) (by simp [results, Tryz.results83, go_sem, ten0, c0, c1, c2, c3, c4, c5, c6, c7, c8, c9]) rfl ⟨rfl, ((((((((((hbA.setCell (Nat.le_refl _) _).setCell (Nat.le_refl _) _).setCell (Nat.le_refl _) _).setCell (Nat.le_refl _) _).setCell (Nat.le_refl _) _).setCell (Nat.le_refl _) _).setCell (Nat.le_refl _) _).setCell (Nat.le_refl _) _).setCell (Nat.le_refl _) _).setCell (Nat.le_refl _) _)⟩
    · obtain rfl : k = 10 := by omega
      obtain ⟨hat0, hcl⟩ := hin.resolve_left (by omega)
      have ho' : o = 64 := by cases ho; rfl
      obtain ⟨a, ha⟩ := Int.eq_ofNat_of_zero_le hat0
      have hta : at_.toNat = a := by omega
      rw [hta] at hfit hh1
      have hsome := HYES.out a ha (by omega) hfit
      have HS := Lib.hid hsome
      rw [pcells_ten] at hh1
      clear hsome hfit
      generalize tenAt l a = T at *
      obtain ⟨v0, v1, v2, v3, v4, v5, v6, v7, v8, v9⟩ := T
      obtain ⟨d0, d1, d2, d3, d4, d5, d6, d7, d8, d9⟩ := cells10 _ _ _ _ hh1
      obtain ⟨c0, c1, c2, c3, c4, c5, c6, c7, c8, c9⟩ := zcells10 _ _ _ hh0
      obtain ⟨f0, f1, f2, f3, f4, f5, f6, f7, f8, f9⟩ := frozen10 _ _ _ _ hh0
      simp only at d0 d1 d2 d3 d4 d5 d6 d7 d8 d9
      clear HG HC HNO HNO2 HYES HGB HF hh0 hh1 hh2
      go_wp2_with fail
      rw [HS.out]
      exact bodyPost_ret (v := .tuple #[Ten.v ⟨v0, v1, v2, v3, v4, v5, v6, v7, v8, v9⟩, .bool true]) (by simp [results, Tryz.results83, go_sem, c0, c1, c2, c3, c4, c5, c6, c7, c8, c9]) rfl ⟨rfl, ((((((((((hb.setCell (Nat.le_refl _) _).setCell (Nat.le_refl _) _).setCell (Nat.le_refl _) _).setCell (Nat.le_refl _) _).setCell (Nat.le_refl _) _).setCell (Nat.le_refl _) _).setCell (Nat.le_refl _) _).setCell (Nat.le_refl _) _).setCell (Nat.le_refl _) _).setCell (Nat.le_refl _) _)⟩

end Go.Proofs.YtmcegjkkgbnjlaaGreat

namespace Go.Proofs.YtmcegjkkgbnjlaaGreat
open Go.RowKit

abbrev four (a m n : Int) (ok : Bool) : Ending := .returned (.tuple #[.int .i64 a, .int .i64 m, .int .i64 n, .bool ok])
/-- What Begun tells. -/
def begunOut (l : List UInt8) : Ending :=
  match begunB l with
  | some (a, m, n) => four a m n true
  | none => four 0 0 0 false
theorem begunOut_no {l : List UInt8} (h : ¬ (64 ≤ l.length ∧ mayH (num (win l 40 8)) (num (win l 60 2)) (num (win l 62 2)) ∧ hdrB (num (win l 40 8)) (num (win l 60 2)) (num (win l 62 2)) = l.take 64)) : begunOut l = four 0 0 0 false := by
  simp only [begunOut, begunB, if_neg h]
theorem begunOut_yes {l : List UInt8} (h : 64 ≤ l.length ∧ mayH (num (win l 40 8)) (num (win l 60 2)) (num (win l 62 2)) ∧ hdrB (num (win l 40 8)) (num (win l 60 2)) (num (win l 62 2)) = l.take 64) :
    begunOut l = four (num (win l 40 8)) (num (win l 60 2)) (num (win l 62 2)) true := by
  simp only [begunOut, begunB, if_pos h]

theorem eq_no' {x y : ByteArray} (h : ¬ y = x) : (y.toList == x.toList) = false := by
  rw [ByteArray.toList_eq, ByteArray.toList_eq, beq_eq_false_iff_ne]
  exact fun e => h (ByteArray.ext (Array.toList_inj.1 e))
theorem begun_short (p : Option Addr) (len cap : Nat) (w : World) (h : len < 64) :
    Calls Tryz.prog 55 #[.slice p len cap] w fun e w' => e = four 0 0 0 false ∧ Below w.heap.size w w' := by
  have hI : (len : Int) < 64 := by omega
  go_enter Tryz.func55, Tryz.ntmps55
  go_wp2_with fail
  exact bodyPost_ret (v := .tuple #[.int .i64 0, .int .i64 0, .int .i64 0, .bool false]) (by simp [results, Tryz.results55, go_sem]) rfl ⟨rfl, Below.refl _ _⟩

set_option maxHeartbeats 2000000 in
theorem begun_long (p : Option Addr) (len cap : Nat) (l : List UInt8) (w : World) (h : Has w p l) (hlen : l.length = len) (hcap : len ≤ cap) (h64 : 64 ≤ len) (hm : cap ≤ maxLen) :
    Calls Tryz.prog 55 #[.slice p len cap] w fun e w' => e = begunOut l ∧ Below w.heap.size w w' := by
  unfold maxLen at hm
  obtain ⟨b, off, rfl, _⟩ := h.plain (by omega)
  have w1 := win_length l 40 8 (by omega)
  have w2 := win_length l 60 2 (by omega)
  have w3 := win_length l 62 2 (by omega)
  have h1 := Lib.hid fun (c : Nat) => num_any _ c _ w (has_win h 40 8 (by omega)) (by omega) 8 w1
  have h2 := Lib.hid fun (c : Nat) => num_any _ c _ w (has_win h 60 2 (by omega)) (by omega) 2 w2
  have h3 := Lib.hid fun (c : Nat) => num_any _ c _ w (has_win h 62 2 (by omega)) (by omega) 2 w3
  have b2 := num_lt (win l 60 2)
  have b3 := num_lt (win l 62 2)
  rw [w2] at b2
  rw [w3] at b3
  have hyes := Lib.hid (@begunOut_yes l)
  have hno := Lib.hid (@begunOut_no l)
  generalize num (win l 40 8) = a at *
  generalize num (win l 60 2) = m at *
  generalize num (win l 62 2) = n at *
  have hm16 : m < 65536 := b2
  have hn16 : n < 65536 := b3
  have HL := Lib.hid hlen
  have HH := Lib.hid h
  have hI : ¬ (len : Int) < 64 := by omega
  have hc1 : ¬ cap = 40 := by omega
  have hc2 : ¬ cap = 60 := by omega
  have hc3 : ¬ cap = 62 := by omega
  clear b2 b3 w1 w2 w3 h hlen
  by_cases hat : 2147483647 < a
  · have hJ : (2147483647 : Int) < (a : Int) := by omega
    have HO := Lib.hid (hno.out fun hc => by have := hc.2.1.2.1; omega)
    go_enter Tryz.func55, Tryz.ntmps55
    go_wp2_with fail
    refine (h1.out _).mono ?_
    rintro e w' ⟨rfl, rfl⟩
    go_wp2_with fail
    refine (h2.out _).mono ?_
    rintro e w' ⟨rfl, rfl⟩
    go_wp2_with fail
    refine (h3.out _).mono ?_
    rintro e w' ⟨rfl, rfl⟩
    go_wp2_with fail
    rw [HO.out]
    exact bodyPost_ret (v := .tuple #[.int .i64 0, .int .i64 0, .int .i64 0, .bool false]) (by simp [results, Tryz.results55, go_sem]) rfl ⟨rfl, Below.refl _ _⟩
  have hJ : ¬ (2147483647 : Int) < (a : Int) := by omega
  by_cases hmay : mayH a m n
  · have HB : Hid (∀ W, Calls Tryz.prog 21 #[.int .i64 a, .int .i64 m, .int .i64 n] W (Str 64 (hdrB a m n) W)) := Lib.hid fun W => (begin_yes a m n W hmay).mono fun _ _ h => h.toH.toStr
    have hcv : ∀ w2 : World, Below w.heap.size w w2 → ∀ N, N = w2.heap.size → ∀ W, Below N w2 W → (convert 31 9 (.slice (some ⟨b, off, none⟩) 64 cap)).run Tryz.prog W = .ok (.string (str (l.take 64))) W := fun w2 hb N hN => by
      have h0 := (HH.out.cut 0 64 len (by have := HL.out; omega) (by have := HL.out; omega)).below hb
      rw [if_neg (by omega), List.drop_zero] at h0
      have hz : (⟨b, off, none⟩ : Addr).add 0 = ⟨b, off, none⟩ := by unfold Addr.add; rfl
      simp only [Option.map_some, hz] at h0
      exact conv_at h0 (by simp; have := HL.out; omega) hN
    have HCV := Lib.hid hcv
    have h64c : 64 ≤ cap := by omega
    by_cases heq : hdrB a m n = l.take 64
    · have HO := Lib.hid (hyes.out ⟨by have := HL.out; omega, hmay, heq⟩)
      have heq2 : (!((str (hdrB a m n)).toList == (str (l.take 64)).toList)) = false := by rw [heq]; simp
      clear hmay heq hcv
      go_enter Tryz.func55, Tryz.ntmps55
      go_wp2_with fail
      refine (h1.out _).mono ?_
      rintro e w' ⟨rfl, rfl⟩
      go_wp2_with fail
      refine (h2.out _).mono ?_
      rintro e w' ⟨rfl, rfl⟩
      go_wp2_with fail
      refine (h3.out _).mono ?_
      rintro e w' ⟨rfl, rfl⟩
      go_wp2_with fail
      refine (HB.out _).mono ?_
      rintro e w2 ⟨p2, c2, N, rfl, hcv1, hN, hb2⟩
      have hcv2 := HCV.out w2 hb2 N hN
      have hr := (Below.refl N w2).drew
      have HN := Lib.hid hN
      clear hN
      generalize hdrB a m n = hd at *
      generalize l.take 64 = lt at *
      go_upto_region 9 with fail
      go_region_held (fun _ => True) (trivial) (fail)
      all_goals
        go_wp2_with fail
        rw [HO.out]
        exact bodyPost_ret (v := .tuple #[.int .i64 a, .int .i64 m, .int .i64 n, .bool true]) (by simp [results, Tryz.results55, go_sem]) rfl ⟨rfl, hb2.drew⟩
    · have HO := Lib.hid (hno.out fun hc => heq hc.2.2)
      have heq2 : (!((str (hdrB a m n)).toList == (str (l.take 64)).toList)) = true := by
        have hne : ¬ str (hdrB a m n) = str (l.take 64) := fun e => heq (str_inj e)
        have := eq_no' hne
        rw [this]
        rfl
      clear hmay heq hcv
      go_enter Tryz.func55, Tryz.ntmps55
      go_wp2_with fail
      refine (h1.out _).mono ?_
      rintro e w' ⟨rfl, rfl⟩
      go_wp2_with fail
      refine (h2.out _).mono ?_
      rintro e w' ⟨rfl, rfl⟩
      go_wp2_with fail
      refine (h3.out _).mono ?_
      rintro e w' ⟨rfl, rfl⟩
      go_wp2_with fail
      refine (HB.out _).mono ?_
      rintro e w2 ⟨p2, c2, N, rfl, hcv1, hN, hb2⟩
      have hcv2 := HCV.out w2 hb2 N hN
      have hr := (Below.refl N w2).drew
      have HN := Lib.hid hN
      clear hN
      generalize hdrB a m n = hd at *
      generalize l.take 64 = lt at *
      go_upto_region 9 with fail
      go_region_held (fun _ => True) (trivial) (fail)
      all_goals
        go_wp2_with fail
        rw [HO.out]
        exact bodyPost_ret (v := .tuple #[.int .i64 0, .int .i64 0, .int .i64 0, .bool false]) (by simp [results, Tryz.results55, go_sem]) rfl ⟨rfl, hb2.drew⟩
  · have HB := Lib.hid fun W => begin_no a m n W hmay
    have HO := Lib.hid (hno.out fun hc => hmay hc.2.1)
    clear hmay
    go_enter Tryz.func55, Tryz.ntmps55
    go_wp2_with fail
    refine (h1.out _).mono ?_
    rintro e w' ⟨rfl, rfl⟩
    go_wp2_with fail
    refine (h2.out _).mono ?_
    rintro e w' ⟨rfl, rfl⟩
    go_wp2_with fail
    refine (h3.out _).mono ?_
    rintro e w' ⟨rfl, rfl⟩
    go_wp2_with fail
    refine (HB.out _).mono ?_
    rintro e w' ⟨rfl, rfl⟩
    go_wp2_with fail
    go_quiet (fail)
    go_wp2_with fail
    rw [HO.out]
    exact bodyPost_ret (v := .tuple #[.int .i64 0, .int .i64 0, .int .i64 0, .bool false]) (by simp [results, Tryz.results55, go_sem]) rfl ⟨rfl, below_drewN (Below.refl _ _) _⟩

abbrev hd3 (a m n : Int) : Value := .agg #[.int .i64 a, .int .i64 m, .int .i64 n]
/-- What Get tells. -/
def hgot (l : List UInt8) : Ending :=
  match begunB l with
  | some (a, m, n) => .returned (.tuple #[hd3 a m n, .bool true])
  | none => .returned (.tuple #[hd3 0 0 0, .bool false])

theorem begunB_short {l : List UInt8} (h : l.length < 64) : begunB l = none := by
  unfold begunB
  rw [if_neg (by omega)]
theorem begun_any (p : Option Addr) (len cap : Nat) (l : List UInt8) (w : World) (h : Has w p l) (hlen : l.length = len) (hcap : len ≤ cap) (hm : cap ≤ maxLen) :
    Calls Tryz.prog 55 #[.slice p len cap] w fun e w' => e = begunOut l ∧ Below w.heap.size w w' := by
  by_cases h64 : 64 ≤ len
  · exact begun_long p len cap l w h hlen hcap h64 hm
  · have := begun_short p len cap w (by omega)
    simpa only [begunOut, begunB_short (l := l) (by omega)] using this

end Go.Proofs.YtmcegjkkgbnjlaaGreat
