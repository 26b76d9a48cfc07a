/-
  Contracts of the project's sym: Put whatever the entry, Get.
  Contract of the project's sym.
  What the project's readSyms tells. Nothing here walks the program.
-/
import Derived.Test.YtenmcmnhiejbgaaGreatJg14
import Derived.Test.YtenmcmnhiejbgaaGreatJg11
namespace Go.Proofs.YtenmcmnhiejbgaaGreat
open Go.RowKit

set_option maxRecDepth 100000 in
theorem ynumber_any (p : Option Addr) (len cap : Nat) (l : List UInt8) (at_ n : Int) (w : World) (h : Has w p l) (hlen : l.length = len) (hcap : len ≤ cap) (hm : cap ≤ maxLen) :
    Calls Tryz.prog 133 #[.slice p len cap, .int .i64 at_, .int .i64 n] w fun e w' => e = .returned (.int .i64 (wrap64 (getB l at_ n : Int))) ∧ w = w' := by
  have HG := Lib.hid (get_any p len cap l at_ n w h hlen hcap hm)
  generalize getB l at_ n = q at *
  clear h hlen
  go_enter Tryz.func133, Tryz.ntmps133
  go_wp2_with (go_at_call 118; refine HG.out.mono ?_; rintro e w' ⟨rfl, rfl⟩)
  go_ret
  exact ⟨rfl, rfl⟩

/-- What Put tells, at any entry. -/
def entO (t : Six) : List UInt8 := if fitsB t.a && fitsB t.e && fitsB t.f && decide (0 ≤ t.b) && decide (t.b ≤ 2) && decide (0 ≤ t.c) && decide (t.c ≤ 3) && decide (0 ≤ t.d) && decide (t.d ≤ 65535) then entB t else []
theorem may_bool (t : Six) : (fitsB t.a && fitsB t.e && fitsB t.f && decide (0 ≤ t.b) && decide (t.b ≤ 2) && decide (0 ≤ t.c) && decide (t.c ≤ 3) && decide (0 ≤ t.d) && decide (t.d ≤ 65535)) = true ↔ t.may := by
  simp [Six.may, and_assoc]
theorem entO_yes {t : Six} (h : t.may) : entO t = entB t := by unfold entO; rw [if_pos ((may_bool t).2 h)]
theorem entO_no {t : Six} (h : ¬ t.may) : entO t = [] := by unfold entO; rw [if_neg fun hc => h ((may_bool t).1 hc)]
theorem yput_any (t : Six) (w : World) : Calls Tryz.prog 115 #[t.v] w (GivesH (entO t).length (entO t) w) := by
  by_cases h : t.may
  · rw [entO_yes h]
    obtain ⟨a, b, c, d, e, f⟩ := t
    have h' := h
    obtain ⟨f0, f4, f5, x1, x2, x3, x4, x5, x6⟩ := h'
    simp only [fitsB_iff] at f0 f4 f5 x1 x2 x3 x4 x5 x6
    obtain ⟨a, rfl⟩ := Int.eq_ofNat_of_zero_le f0.1
    obtain ⟨b, rfl⟩ := Int.eq_ofNat_of_zero_le x1
    obtain ⟨c, rfl⟩ := Int.eq_ofNat_of_zero_le x3
    obtain ⟨d, rfl⟩ := Int.eq_ofNat_of_zero_le x5
    obtain ⟨e, rfl⟩ := Int.eq_ofNat_of_zero_le f4.1
    obtain ⟨f, rfl⟩ := Int.eq_ofNat_of_zero_le f5.1
    exact (yput_yes a b c d e f w h).mono fun _ _ h => h.toH
  · rw [entO_no h]
    exact yput_no t w h

/-- The entry that Get reads, may it be or not. -/
def entR (l : List UInt8) (a : Nat) : Six := ⟨(num (win l a 4) : Int), (num (win l (a + 4) 1) : Int) / 16, (num (win l (a + 4) 1) : Int) % 16, (num (win l (a + 6) 2) : Int), wrap64 (num (win l (a + 8) 8) : Int), wrap64 (num (win l (a + 16) 8) : Int)⟩
theorem numI_fits {l : List UInt8} {a n : Nat} (h : fitsB (numI l a n) = true) : numI l a n = (num (win l a n) : Int) ∧ num (win l a n) ≤ 2147483647 := by
  unfold numI at h ⊢
  split at h
  · rename_i hc
    rw [if_pos hc]
    exact ⟨rfl, hc⟩
  · have := (fitsB_iff _).1 h
    omega
theorem entR_of {l : List UInt8} {a : Nat} {t : Six} (h : symAt l a = some t) : entR l a = t := by
  have h0 := (symAt_iff l a t).1 h
  obtain ⟨hm, hl, _⟩ := h0
  unfold symAt at h
  split at h
  · have ht : entAt l a = t := by simpa using h
    obtain ⟨x, hx⟩ : ∃ x, l[a + 4]? = some x := ⟨_, List.getElem?_eq_getElem (by omega)⟩
    have hxd : l.getD (a + 4) 0 = x := by simp [List.getD, hx]
    have hn4 : num (win l (a + 4) 1) = x.toNat := by rw [win_one hx]; simp [num]
    rw [← ht] at hm ⊢
    obtain ⟨f0, f4, f5, _, _, _, _, g1, g2⟩ := hm
    simp only [entAt] at f0 f4 f5 g1 g2
    have f3 : fitsB (numI l (a + 6) 2) = true := (fitsB_iff _).2 ⟨g1, by omega⟩
    have e0 := numI_fits f0
    have e3 := numI_fits f3
    have e4 := numI_fits f4
    have e5 := numI_fits f5
    have w4 : wrap64 (num (win l (a + 8) 8) : Int) = (num (win l (a + 8) 8) : Int) := by unfold wrap64; omega
    have w5 : wrap64 (num (win l (a + 16) 8) : Int) = (num (win l (a + 16) 8) : Int) := by unfold wrap64; omega
    unfold entR entAt
    rw [hxd, hn4, w4, w5, e0.1, e3.1, e4.1, e5.1]
  · cases h
/-- What Get tells is what the bytes say. -/
theorem symAt_by (l : List UInt8) (a : Nat) (hl : a + 24 ≤ l.length) : symAt l a = if win l a 24 = entO (entR l a) then some (entR l a) else none := by
  have hw : (win l a 24).length = 24 := win_length l a 24 hl
  split
  · rename_i hq
    have hm : (entR l a).may := by
      by_cases hm : (entR l a).may
      · exact hm
      · rw [entO_no hm] at hq; rw [hq] at hw; simp at hw
    rw [entO_yes hm] at hq
    exact (symAt_iff l a _).2 ⟨hm, hl, hq.symm⟩
  · rename_i hq
    cases hs : symAt l a with
    | none => rfl
    | some t =>
      have e := entR_of hs
      obtain ⟨hm, _, hb⟩ := (symAt_iff l a t).1 hs
      rw [e, entO_yes hm] at hq
      exact absurd hb.symm hq

set_option maxRecDepth 100000 in
theorem yget_out (p : Option Addr) (len cap : Nat) (at_ : Int) (w : World) (hbig : len ≤ 100000) (h : at_ < 0 ∨ (len : Int) < at_ + 24) (h0 : -9223372036854775808 ≤ at_) (h1 : at_ ≤ 9223372036854775807) :
    Calls Tryz.prog 120 #[.slice p len cap, .int .i64 at_] w fun e w' => e = .returned (.tuple #[six0.v, .bool false]) ∧ Below w.heap.size w w' := by
  have hb := (Below.refl _ w).alloc (Nat.le_refl _) (.cells #[.int .i64 0, .int .i64 0, .int .i64 0, .int .i64 0, .int .i64 0, .int .i64 0] 173)
  by_cases hneg : at_ < 0
  · go_enter Tryz.func120, Tryz.ntmps120
    go_wp2_with fail
    exact bodyPost_ret (v := .tuple #[six0.v, .bool false]) (by simp [results, Tryz.results120, go_sem, six0]) rfl ⟨rfl, by first | exact hb | exact (((((hb.setCell (Nat.le_refl _) _).setCell (Nat.le_refl _) _).setCell (Nat.le_refl _) _).setCell (Nat.le_refl _) _).setCell (Nat.le_refl _) _).setCell (Nat.le_refl _) _⟩
  · have hI : (len : Int) - 24 < at_ := by omega
    have hI0 : 0 ≤ at_ := by omega
    go_enter Tryz.func120, Tryz.ntmps120
    go_wp2_with fail
    exact bodyPost_ret (v := .tuple #[six0.v, .bool false]) (by simp [results, Tryz.results120, go_sem, six0]) rfl ⟨rfl, by first | exact hb | exact (((((hb.setCell (Nat.le_refl _) _).setCell (Nat.le_refl _) _).setCell (Nat.le_refl _) _).setCell (Nat.le_refl _) _).setCell (Nat.le_refl _) _).setCell (Nat.le_refl _) _⟩

/-- What Get asks last: Put of the entry that it has read, and Equal of what that tells. -/
theorem ycell_two (w : World) (o : Obj) (cs : Array Value) (t : TypeId) (i : Nat) (v : Value) (h : cs[i]? = some v) : ((w.alloc o).alloc (.cells cs t)).cell? ⟨w.heap.size + 1, i, none⟩ = some v := by
  have hs : (w.alloc o).heap.size = w.heap.size + 1 := by simp
  have hn := heap_alloc_new (w.alloc o) (.cells cs t)
  rw [hs] at hn
  exact (cell_of_row ((w.alloc o).alloc (.cells cs t)) (w.heap.size + 1) i cs t (0, 0) hn).trans h
theorem yput_then (w : World) (t : Six) (b off cap n : Nat) (put : List UInt8) (D : Bool) (HP : ∀ W, Calls Tryz.prog 115 #[t.v] W (GivesH n put W))
    (HE : ∀ W, Below w.heap.size w W → ∀ q c, Has W q put → Calls Tryz.prog 117 #[.slice (some ⟨b, off, none⟩) 24 cap, .slice q n c] W fun e w' => e = .returned (.bool D) ∧ W = w') :
    Calls Tryz.prog 115 #[t.v] ((w.alloc (.cells #[.int .i64 0, .int .i64 0, .int .i64 0, .int .i64 0, .int .i64 0, .int .i64 0] 173)).alloc (.cells #[.int .i64 t.a, .int .i64 t.b, .int .i64 t.c, .int .i64 t.d, .int .i64 t.e, .int .i64 t.f] 173)) fun e w2 => ∃ p2 c2, e = .returned (.slice p2 n c2) ∧ Below w.heap.size w w2 ∧
      (w2.cell? ⟨w.heap.size, 0, none⟩ = some (.int .i64 0) ∧ w2.cell? ⟨w.heap.size, 1, none⟩ = some (.int .i64 0) ∧ w2.cell? ⟨w.heap.size, 2, none⟩ = some (.int .i64 0) ∧ w2.cell? ⟨w.heap.size, 3, none⟩ = some (.int .i64 0) ∧ w2.cell? ⟨w.heap.size, 4, none⟩ = some (.int .i64 0) ∧ w2.cell? ⟨w.heap.size, 5, none⟩ = some (.int .i64 0)) ∧
      (w2.frozen? ⟨w.heap.size, 0, none⟩ = false ∧ w2.frozen? ⟨w.heap.size, 1, none⟩ = false ∧ w2.frozen? ⟨w.heap.size, 2, none⟩ = false ∧ w2.frozen? ⟨w.heap.size, 3, none⟩ = false ∧ w2.frozen? ⟨w.heap.size, 4, none⟩ = false ∧ w2.frozen? ⟨w.heap.size, 5, none⟩ = false) ∧
      (w2.cell? ⟨w.heap.size + 1, 0, none⟩ = some (.int .i64 t.a) ∧ w2.cell? ⟨w.heap.size + 1, 1, none⟩ = some (.int .i64 t.b) ∧ w2.cell? ⟨w.heap.size + 1, 2, none⟩ = some (.int .i64 t.c) ∧ w2.cell? ⟨w.heap.size + 1, 3, none⟩ = some (.int .i64 t.d) ∧ w2.cell? ⟨w.heap.size + 1, 4, none⟩ = some (.int .i64 t.e) ∧ w2.cell? ⟨w.heap.size + 1, 5, none⟩ = some (.int .i64 t.f)) ∧
      w.heap.size + 1 < w2.heap.size ∧
      Calls Tryz.prog 117 #[.slice (some ⟨b, off, none⟩) 24 cap, .slice p2 n c2] w2 (fun e w' => e = .returned (.bool D) ∧ w2 = w') := by
  refine (HP _).mono ?_
  rintro e w2 ⟨p2, c2, rfl, _, _, _, hH2, hb2⟩
  have hbz : Below w.heap.size w (w.alloc (.cells #[.int .i64 0, .int .i64 0, .int .i64 0, .int .i64 0, .int .i64 0, .int .i64 0] 173)) := (Below.refl _ w).alloc (Nat.le_refl _) _
  have hbX : Below w.heap.size w w2 := (hbz.alloc (by simp) _).trans (hb2.mono (by simp; omega))
  have q := fun i v => ycell_two w (.cells #[.int .i64 0, .int .i64 0, .int .i64 0, .int .i64 0, .int .i64 0, .int .i64 0] 173) #[.int .i64 t.a, .int .i64 t.b, .int .i64 t.c, .int .i64 t.d, .int .i64 t.e, .int .i64 t.f] 173 i v
  refine ⟨p2, c2, rfl, hbX, ⟨?_, ?_, ?_, ?_, ?_, ?_⟩, ⟨?_, ?_, ?_, ?_, ?_, ?_⟩, ⟨?_, ?_, ?_, ?_, ?_, ?_⟩, ?_, HE w2 hbX p2 c2 hH2⟩
  iterate 6 · rw [hb2.cell (by simp; omega)]; simp
  iterate 6 · rw [hb2.frozen (by simp; omega)]; simp
  · rw [hb2.cell (by simp)]; exact q 0 _ rfl
  · rw [hb2.cell (by simp)]; exact q 1 _ rfl
  · rw [hb2.cell (by simp)]; exact q 2 _ rfl
  · rw [hb2.cell (by simp)]; exact q 3 _ rfl
  · rw [hb2.cell (by simp)]; exact q 4 _ rfl
  · rw [hb2.cell (by simp)]; exact q 5 _ rfl
  · have := hb2.size; simp at this; omega

theorem yw64 (n : Nat) (h : n < 9223372036854775808) : wrap64 (n : Int) = n := by unfold wrap64; omega

set_option maxRecDepth 100000 in
set_option maxHeartbeats 2000000 in
theorem yget_in (p : Option Addr) (len cap a : Nat) (l : List UInt8) (w : World) (h : Has w p l) (hlen : l.length = len) (hcap : len ≤ cap) (hm : cap ≤ maxLen) (hbig : len ≤ 100000) (hin : a + 24 ≤ len) :
    Calls Tryz.prog 120 #[.slice p len cap, .int .i64 (a : Int)] w fun e w' => e = .returned (.tuple #[(symV (symAt l a)).1, .bool (symV (symAt l a)).2]) ∧ Below w.heap.size w w' := by
  have hm' := hm
  unfold maxLen at hm'
  obtain ⟨b, off, rfl, _⟩ := h.plain (by omega)
  have hst : Has w (some ⟨b, off + a, none⟩) (win l a 24) := has_win h a 24 (by omega)
  have hsl : (win l a 24).length = 24 := win_length l a 24 (by omega)
  have gw := fun (o n : Nat) (hw : wid n = true) (hn : o + n ≤ 24) => show getB (win l a 24) o n = num (win l (a + o) n) from by
    unfold getB
    rw [hsl, if_pos ((fitB_iff _ _ _).2 ⟨(wid_iff _).1 hw, by omega, by omega⟩)]
    exact congrArg num (win_win l a 24 o n hn)
  have hN := fun (o n : Int) W (hb : Below w.heap.size w W) => ynumber_any (some ⟨b, off + a, none⟩) 24 (cap - a) (win l a 24) o n W (hst.below hb) hsl (by omega) (by unfold maxLen; omega)
  have hN0 := hN 0 4
  have hN1 := hN 4 1
  have hN3 := hN 6 2
  have hN4 := hN 8 8
  have hN5 := hN 16 8
  have b0 := num_lt (win l a 4)
  have b1 := num_lt (win l (a + 4) 1)
  have b3 := num_lt (win l (a + 6) 2)
  rw [win_length l _ _ (by omega)] at b0 b1 b3
  rw [show getB (win l a 24) 0 4 = num (win l a 4) from gw 0 4 rfl (by omega), yw64 _ (by omega)] at hN0
  rw [show getB (win l a 24) 4 1 = num (win l (a + 4) 1) from gw 4 1 rfl (by omega), yw64 _ (by omega)] at hN1
  rw [show getB (win l a 24) 6 2 = num (win l (a + 6) 2) from gw 6 2 rfl (by omega), yw64 _ (by omega)] at hN3
  rw [show getB (win l a 24) 8 8 = num (win l (a + 8) 8) from gw 8 8 rfl (by omega)] at hN4
  rw [show getB (win l a 24) 16 8 = num (win l (a + 16) 8) from gw 16 8 rfl (by omega)] at hN5
  have hO := symAt_by l a (by omega)
  unfold entR at hO
  have hE := fun W (hb : Below w.heap.size w W) q n c r (hq : Has W q r) (hr : r.length = n) => yequal_any (some ⟨b, off + a, none⟩) q 24 (cap - a) n c (win l a 24) r W (hst.below hb) hq hsl hr
  have hy : num (win l (a + 4) 1) ≤ 255 := by omega
  generalize num (win l (a + 4) 1) = y at *
  generalize (num (win l a 4) : Int) = x0 at *
  generalize (num (win l (a + 6) 2) : Int) = x3 at *
  generalize wrap64 (num (win l (a + 8) 8) : Int) = x4 at *
  generalize wrap64 (num (win l (a + 16) 8) : Int) = x5 at *
  obtain ⟨n, put, D, hP, hE2, hO2⟩ : ∃ (n : Nat) (put : List UInt8) (D : Bool), (∀ W, Calls Tryz.prog 115 #[Six.v ⟨x0, (y : Int) / 16, (y : Int) % 16, x3, x4, x5⟩] W (GivesH n put W)) ∧
      (∀ W, Below w.heap.size w W → ∀ q c, Has W q put → Calls Tryz.prog 117 #[.slice (some ⟨b, off + a, none⟩) 24 (cap - a), .slice q n c] W fun e w' => e = .returned (.bool D) ∧ W = w') ∧
      symAt l a = (bif D then some ⟨x0, (y : Int) / 16, (y : Int) % 16, x3, x4, x5⟩ else none) := by
    refine ⟨(entO ⟨x0, (y : Int) / 16, (y : Int) % 16, x3, x4, x5⟩).length, entO ⟨x0, (y : Int) / 16, (y : Int) % 16, x3, x4, x5⟩, decide (win l a 24 = entO ⟨x0, (y : Int) / 16, (y : Int) % 16, x3, x4, x5⟩), fun W => yput_any _ W, fun W hb q c hq => hE W hb q _ c _ hq rfl, ?_⟩
    rw [hO]
    by_cases hq : win l a 24 = entO ⟨x0, (y : Int) / 16, (y : Int) % 16, x3, x4, x5⟩
    · rw [if_pos hq, decide_eq_true hq]; rfl
    · rw [if_neg hq, decide_eq_false hq]; rfl
  have N0 := Lib.hid hN0
  have N1 := Lib.hid hN1
  have N3 := Lib.hid hN3
  have N4 := Lib.hid hN4
  have N5 := Lib.hid hN5
  have HPX := Lib.hid (yput_then w ⟨x0, (y : Int) / 16, (y : Int) % 16, x3, x4, x5⟩ b (off + a) (cap - a) n put D hP hE2)
  rw [hO2]
  have hI : ¬ (len : Int) - 24 < (a : Int) := by omega
  have hI0 : ¬ (a : Int) < 0 := by omega
  have hc0 : ¬ cap = a := by omega
  have hc1 : (a : Int) + 24 ≤ (cap : Int) := by omega
  have hbz : Below w.heap.size w (w.alloc (.cells #[.int .i64 0, .int .i64 0, .int .i64 0, .int .i64 0, .int .i64 0, .int .i64 0] 173)) := (Below.refl _ w).alloc (Nat.le_refl _) _
  clear hN hN0 hN1 hN3 hN4 hN5 hO hE h hlen gw b0 b1 b3 hO2 hE2 hP hst hsl hm
  go_enter Tryz.func120, Tryz.ntmps120
  go_wp2_with fail
  refine (N1.out _ hbz).mono ?_
  rintro e w' ⟨rfl, rfl⟩
  go_wp2_with fail
  refine (N0.out _ hbz).mono ?_
  rintro e w' ⟨rfl, rfl⟩
  go_wp2_with fail
  refine (N3.out _ hbz).mono ?_
  rintro e w' ⟨rfl, rfl⟩
  go_wp2_with fail
  refine (N4.out _ hbz).mono ?_
  rintro e w' ⟨rfl, rfl⟩
  go_wp2_with fail
  refine (N5.out _ hbz).mono ?_
  rintro e w' ⟨rfl, rfl⟩
  go_wp2_with fail
  refine HPX.out.mono ?_
  rintro e w2 ⟨p2, c2, rfl, hbX, ⟨s0, s1, s2, s3, s4, s5⟩, ⟨f0, f1, f2, f3, f4, f5⟩, ⟨t0, t1, t2, t3, t4, t5⟩, hz2, hEE⟩
  have HEE := Lib.hid hEE
  clear hEE N0 N1 N3 N4 N5 HPX
  go_wp2_with fail
  refine HEE.out.mono ?_
  rintro e w3 ⟨rfl, rfl⟩
  cases D with
  | true =>
    go_wp2_with fail
    exact bodyPost_ret (v := .tuple #[Six.v ⟨x0, (y : Int) / 16, (y : Int) % 16, x3, x4, x5⟩, .bool true]) (by simp [results, Tryz.results120, go_sem, s0, s1, s2, s3, s4, s5]) rfl ⟨rfl, (((((hbX.setCell (Nat.le_refl _) _).setCell (Nat.le_refl _) _).setCell (Nat.le_refl _) _).setCell (Nat.le_refl _) _).setCell (Nat.le_refl _) _).setCell (Nat.le_refl _) _⟩
  | false =>
    go_wp2_with fail
    exact bodyPost_ret (v := .tuple #[six0.v, .bool false]) (by simp [results, Tryz.results120, go_sem, six0, s0, s1, s2, s3, s4, s5]) rfl ⟨rfl, (((((hbX.setCell (Nat.le_refl _) _).setCell (Nat.le_refl _) _).setCell (Nat.le_refl _) _).setCell (Nat.le_refl _) _).setCell (Nat.le_refl _) _).setCell (Nat.le_refl _) _⟩

theorem yget_ok : YGetOK := fun p len cap l at_ w h hlen hcap hm hbig h0 h1 => by
  by_cases hin : 0 ≤ at_ ∧ at_ + 24 ≤ len
  · obtain ⟨a, rfl⟩ := Int.eq_ofNat_of_zero_le hin.1
    exact yget_in p len cap a l w h hlen hcap hm hbig (by omega)
  · have e : symAt l at_ = none := by
      unfold symAt
      rw [if_neg fun hc => hin ⟨hc.1, by omega⟩]
    rw [e]
    exact yget_out p len cap at_ w hbig (by omega) h0 h1
theorem yput_ok : YPutOK := fun t w => by
  refine ⟨fun hm => ?_, fun hm => ?_⟩
  · obtain ⟨a, b, c, d, e, f⟩ := t
    have h' := hm
    obtain ⟨f0, f4, f5, x1, x2, x3, x4, x5, x6⟩ := h'
    simp only [fitsB_iff] at f0 f4 f5 x1 x2 x3 x4 x5 x6
    obtain ⟨a, rfl⟩ := Int.eq_ofNat_of_zero_le f0.1
    obtain ⟨b, rfl⟩ := Int.eq_ofNat_of_zero_le x1
    obtain ⟨c, rfl⟩ := Int.eq_ofNat_of_zero_le x3
    obtain ⟨d, rfl⟩ := Int.eq_ofNat_of_zero_le x5
    obtain ⟨e, rfl⟩ := Int.eq_ofNat_of_zero_le f4.1
    obtain ⟨f, rfl⟩ := Int.eq_ofNat_of_zero_le f5.1
    exact yput_yes a b c d e f w hm
  · exact yput_no t w hm

end Go.Proofs.YtenmcmnhiejbgaaGreat

namespace Go.Proofs.YtenmcmnhiejbgaaGreat
open Go.RowKit

/-- The symbol at a place, of headers that are numbered ns, of names. -/
def symB (l : List UInt8) (ns : List Int) (tb : List UInt8) (at_ : Int) : Option SymD := match symAt l at_ with
  | none => none
  | some e => match strAt tb e.a with
    | none => none
    | some n => bif e.d == 0 then some ⟨str n, e.b, e.c, 0, e.e, e.f⟩ else bif e.d == 65521 then some ⟨str n, e.b, e.c, -1, e.e, e.f⟩ else
      bif ns[e.d.toNat]?.getD 0 != 0 then some ⟨str n, e.b, e.c, ns[e.d.toNat]?.getD 0, e.e, e.f⟩ else none
/-- What sym gives. -/
def GivesSym (r : Option SymD) (w : World) (e : Ending) (w' : World) : Prop := Below w.heap.size w w' ∧ ∃ s : SymD, e = .returned (.tuple #[.agg #[.string s.name, .int .i64 s.bind, .int .i64 s.type, .int .i64 s.sec, .int .i64 s.value, .int .i64 s.size], .bool r.isSome]) ∧ (r = none ∨ r = some s)
theorem six_cells (w : World) (g : Nat) (v0 v1 v2 v3 v4 v5 : Value) (T : TypeId) (h : w.heap[g]? = some (.cells #[v0, v1, v2, v3, v4, v5] T (0, 0))) :
    (w.cell? ⟨g, 0, none⟩ = some v0 ∧ w.cell? ⟨g, 1, none⟩ = some v1 ∧ w.cell? ⟨g, 2, none⟩ = some v2 ∧ w.cell? ⟨g, 3, none⟩ = some v3 ∧ w.cell? ⟨g, 4, none⟩ = some v4 ∧ w.cell? ⟨g, 5, none⟩ = some v5) ∧
    (w.frozen? ⟨g, 0, none⟩ = false ∧ w.frozen? ⟨g, 1, none⟩ = false ∧ w.frozen? ⟨g, 2, none⟩ = false ∧ w.frozen? ⟨g, 3, none⟩ = false ∧ w.frozen? ⟨g, 4, none⟩ = false ∧ w.frozen? ⟨g, 5, none⟩ = false) := by
  refine ⟨⟨?_, ?_, ?_, ?_, ?_, ?_⟩, ?_, ?_, ?_, ?_, ?_, ?_⟩
  all_goals first | exact (cell_of_row w g _ _ _ (0, 0) h).trans rfl | exact frozen_of_row w g _ _ _ h | fail
theorem six_set {w : World} {g N : Nat} {v0 v1 v2 v3 v4 v5 : Value} {T : TypeId} (u0 u1 u2 u3 u4 u5 : Value) (hN : N ≤ g) (h : w.heap[g]? = some (.cells #[v0, v1, v2, v3, v4, v5] T (0, 0))) :
    ((((((w.setCell ⟨g, 0, none⟩ u0).setCell ⟨g, 1, none⟩ u1).setCell ⟨g, 2, none⟩ u2).setCell ⟨g, 3, none⟩ u3).setCell ⟨g, 4, none⟩ u4).setCell ⟨g, 5, none⟩ u5).heap[g]? = some (.cells #[u0, u1, u2, u3, u4, u5] T (0, 0)) ∧
    FrT N [T] w ((((((w.setCell ⟨g, 0, none⟩ u0).setCell ⟨g, 1, none⟩ u1).setCell ⟨g, 2, none⟩ u2).setCell ⟨g, 3, none⟩ u3).setCell ⟨g, 4, none⟩ u4).setCell ⟨g, 5, none⟩ u5) := by
  have h0 := set_row #[u0, v1, v2, v3, v4, v5] 0 u0 hN ⟨h, FrT.refl N [T] w⟩ rfl
  have h1 := set_row #[u0, u1, v2, v3, v4, v5] 1 u1 hN h0 rfl
  have h2 := set_row #[u0, u1, u2, v3, v4, v5] 2 u2 hN h1 rfl
  have h3 := set_row #[u0, u1, u2, u3, v4, v5] 3 u3 hN h2 rfl
  have h4 := set_row #[u0, u1, u2, u3, u4, v5] 4 u4 hN h3 rfl
  exact set_row #[u0, u1, u2, u3, u4, u5] 5 u5 hN h4 rfl
theorem results_sym {fn : Func} {p u : Tmp} (h : fn.results = #[.cell p 45, .tmp u]) (tmps : Array Value) (w : World) (g : Nat) (v0 v1 v2 v3 v4 v5 : Value) (b : Bool) (hp : tmps.getD p undef = .pointer (some ⟨g, 0, none⟩)) (hu : tmps.getD u undef = .bool b)
    (hg : w.heap[g]? = some (.cells #[v0, v1, v2, v3, v4, v5] 45 (0, 0))) : (results fn tmps).run Tryz.prog w = .ok (.tuple #[.agg #[v0, v1, v2, v3, v4, v5], .bool b]) w := by
  obtain ⟨⟨r0, r1, r2, r3, r4, r5⟩, _⟩ := six_cells _ _ _ _ _ _ _ _ _ hg
  rw [results_cell_tmp h, hp, hu]
  go_simp
theorem results_sym_drew {fn : Func} {p u : Tmp} (h : fn.results = #[.cell p 45, .tmp u]) (tmps : Array Value) (w : World) (g : Nat) (v0 v1 v2 v3 v4 v5 : Value) (b : Bool) (hp : tmps.getD p undef = .pointer (some ⟨g, 0, none⟩)) (hu : tmps.getD u undef = .bool b)
    (hg : w.heap[g]? = some (.cells #[v0, v1, v2, v3, v4, v5] 45 (0, 0))) : (results fn tmps).run Tryz.prog w.drew = .ok (.tuple #[.agg #[v0, v1, v2, v3, v4, v5], .bool b]) w.drew :=
  results_sym h tmps w.drew g v0 v1 v2 v3 v4 v5 b hp hu hg
theorem symAt_may {l : List UInt8} {a : Int} {t : Six} (h : symAt l a = some t) : t.may := by
  unfold symAt at h
  split at h
  · rename_i hc
    cases h
    exact hc.2.2.1
  · cases h
theorem two_laid (w w1 : World) (o o2 : Obj) (hb : Below (w.alloc o).heap.size (w.alloc o) w1) : (w1.alloc o2).heap[w.heap.size]? = some o ∧ (w1.alloc o2).heap[w1.heap.size]? = some o2 ∧ Below w.heap.size w (w1.alloc o2) ∧ w.heap.size < w1.heap.size := by
  have h1 : (w.alloc o).heap.size = w.heap.size + 1 := by simp
  have h2 := hb.size
  refine ⟨?_, heap_alloc_new _ _, (((Below.refl _ w).alloc (Nat.le_refl _) o).trans (hb.mono (by omega))).alloc (by omega) o2, by omega⟩
  rw [heap_alloc_old _ _ (by omega), hb.block _ (by omega)]
  exact heap_alloc_new _ _

set_option maxRecDepth 100000 in
set_option maxHeartbeats 4000000 in
theorem gotSym_any (F : Nat) (a : Int) (bp tp : Option Addr) (bc tc : Nat) (l tb : List UInt8) (sp : Option Addr) (sc : Nat) (ns : List Int) (w : World) (ht : Has w bp l) (h1 : l.length ≤ bc) (h2 : bc ≤ maxLen) (hbig : l.length ≤ 100000)
    (hT : Has w tp tb) (t1 : tb.length ≤ tc) (t2 : tb.length ≤ 1000000) (hF0 : w.cell? ⟨F, 0, none⟩ = some (.slice bp l.length bc)) (hF3 : w.cell? ⟨F, 3, none⟩ = some (.slice sp ns.length sc)) (hs : HasL 1 EInt w sp ns) (ha0 : -9223372036854775808 ≤ a) (ha1 : a ≤ 9223372036854775807) :
    Calls Tryz.prog 90 #[filP F, .int .i64 a, .slice tp tb.length tc] w (GivesSym (symB l ns tb a) w) := by
  have HY := Lib.hid fun (W : World) (hW : Below w.heap.size w W) => yget_ok bp l.length bc l a W (ht.below hW) rfl h1 h2 hbig ha0 ha1
  have HAT := Lib.hid fun (W : World) (hW : Below w.heap.size w W) (x : Int) => sAt_any tp tb.length tc tb x W (hT.below hW) rfl t1 (by omega)
  have HSO := Lib.hid fun (W : World) (hW : Below w.heap.size w W) (n : Nat) => sectionOf_any F n sp sc ns W (cell_later hW hF3) (hs.below EInt.keeps hW)
  have hz := cell_later ((Below.refl _ w).alloc (Nat.le_refl _) (.cells #[.string ⟨#[]⟩, .int .i64 0, .int .i64 0, .int .i64 0, .int .i64 0, .int .i64 0] 45)) hF0
  have hr : symB l ns tb a = match symAt l a with
    | none => none
    | some e => match strAt tb e.a with
      | none => none
      | some n => bif e.d == 0 then some ⟨str n, e.b, e.c, 0, e.e, e.f⟩ else bif e.d == 65521 then some ⟨str n, e.b, e.c, -1, e.e, e.f⟩ else
        bif ns[e.d.toNat]?.getD 0 != 0 then some ⟨str n, e.b, e.c, ns[e.d.toNat]?.getD 0, e.e, e.f⟩ else none := rfl
  generalize symB l ns tb a = res at *
  have HR := Lib.hid hr
  have hmy : ∀ t, symAt l a = some t → t.may := fun t h => symAt_may h
  generalize symAt l a = so at *
  obtain ⟨t, ok, hsv, hok1, hok0⟩ : ∃ (t : Six) (ok : Bool), symV so = (t.v, ok) ∧ (ok = true → so = some t) ∧ (ok = false → so = none) := by
    cases so with
    | none => exact ⟨six0, false, rfl, (fun h => by cases h), fun _ => rfl⟩
    | some t => exact ⟨t, true, rfl, (fun _ => rfl), fun h => by cases h⟩
  rw [hsv] at HY
  have HY3 : Hid (∀ (W : World), Below w.heap.size w W → Calls Tryz.prog 120 #[.slice bp l.length bc, .int .i64 a] W fun e w' => e = .returned (.tuple #[.agg #[.int .i64 t.a, .int .i64 t.b, .int .i64 t.c, .int .i64 t.d, .int .i64 t.e, .int .i64 t.f], .bool ok]) ∧ Below W.heap.size W w') := HY
  have HOK1 := Lib.hid hok1
  have HOK0 := Lib.hid hok0
  have HMY := Lib.hid hmy
  clear ht hT hF3 hs hr hmy hsv hok1 hok0 HY
  go_enter Tryz.func90, Tryz.ntmps90
  go_wp2_with fail
  refine (HY3.out _ ((Below.refl _ w).alloc (Nat.le_refl _) _)).mono ?_
  rintro e w1 ⟨rfl, hb1⟩
  obtain ⟨q1, q2, q3, q4⟩ := two_laid w w1 _ (.cells #[.int .i64 t.a, .int .i64 t.b, .int .i64 t.c, .int .i64 t.d, .int .i64 t.e, .int .i64 t.f] 173) hb1
  go_upto_region 2 with fail
  have c0 := cell_later q3 hF0
  have HSO2 := Lib.hid fun (W : World) (hW : Below (w1.alloc (.cells #[.int .i64 t.a, .int .i64 t.b, .int .i64 t.c, .int .i64 t.d, .int .i64 t.e, .int .i64 t.f] 173)).heap.size (w1.alloc (.cells #[.int .i64 t.a, .int .i64 t.b, .int .i64 t.c, .int .i64 t.d, .int .i64 t.e, .int .i64 t.f] 173)) W) (n : Nat) => HSO.out W (q3.trans (hW.mono q3.size)) n
  have hat := HAT.out _ q3 t.a
  rw [atAny_eq] at hat
  have HAT2 := Lib.hid hat
  generalize w1.alloc (.cells #[.int .i64 t.a, .int .i64 t.b, .int .i64 t.c, .int .i64 t.d, .int .i64 t.e, .int .i64 t.f] 173) = W2 at *
  generalize w1.heap.size = g1 at *
  have Q1 := Lib.hid q1
  have Q2 := Lib.hid q2
  have Q3 := Lib.hid q3
  clear hz hF0 hb1 hat HY3 HAT HSO q3
  obtain ⟨⟨z0, z1, z2, z3, z4, z5⟩, y0, y1, y2, y3, y4, y5⟩ := six_cells _ _ _ _ _ _ _ _ _ q1
  obtain ⟨⟨e0, e1, e2, e3, e4, e5⟩, _⟩ := six_cells _ _ _ _ _ _ _ _ _ q2
  clear q1 q2
  cases ok with
  | false =>
    have hE : Hid (res = none) := Lib.hid (by rw [HR.out, HOK0.out rfl])
    go_wp2_with fail
    obtain ⟨x1, x2⟩ := six_set (.string ⟨#[]⟩) (.int .i64 0) (.int .i64 0) (.int .i64 0) (.int .i64 0) (.int .i64 0) (Nat.le_refl w.heap.size) Q1.out
    refine bodyPost_ret (results_sym rfl _ _ _ _ _ _ _ _ _ _ (by rfl) (by rfl) x1) rfl ⟨Q3.out.trans (x2.below (by have := Q3.out.size; omega)), ⟨ByteArray.empty, 0, 0, 0, 0, 0⟩, ?_, .inl hE.out⟩
    rw [hE.out]
    rfl
  | true =>
    have hso := HOK1.out rfl
    obtain ⟨_, _, _, hb1, hb2, hc1, hc2, hd1, hd2⟩ := HMY.out t hso
    obtain ⟨td, htd⟩ := Int.eq_ofNat_of_zero_le hd1
    have hR := HR.out
    rw [hso] at hR
    have HR1 := Lib.hid hR
    clear hso hR HR HMY HOK1 HOK0
    go_wp2_with fail
    refine HAT2.out.mono ?_
    rintro e w' ⟨rfl, rfl⟩
    generalize strAt tb t.a = sn at *
    clear HAT2
    cases sn with
    | none =>
      have hE : Hid (res = none) := Lib.hid HR1.out
      go_wp2_with fail
      obtain ⟨x1, x2⟩ := six_set (.string ⟨#[]⟩) (.int .i64 0) (.int .i64 0) (.int .i64 0) (.int .i64 0) (.int .i64 0) (Nat.le_refl w.heap.size) Q1.out
      refine bodyPost_ret (results_sym rfl _ _ _ _ _ _ _ _ _ _ (by rfl) (by rfl) x1) rfl ⟨Q3.out.trans (x2.below (by have := Q3.out.size; omega)), ⟨ByteArray.empty, 0, 0, 0, 0, 0⟩, ?_, .inl hE.out⟩
      rw [hE.out]
      rfl
    | some n =>
      have hR2 : res = bif t.d == 0 then some ⟨str n, t.b, t.c, 0, t.e, t.f⟩ else bif t.d == 65521 then some ⟨str n, t.b, t.c, -1, t.e, t.f⟩ else
        bif ns[t.d.toNat]?.getD 0 != 0 then some ⟨str n, t.b, t.c, ns[t.d.toNat]?.getD 0, t.e, t.f⟩ else none := HR1.out
      rw [htd] at hR2
      have hR3 : res = bif (td : Int) == 0 then some ⟨str n, t.b, t.c, 0, t.e, t.f⟩ else bif (td : Int) == 65521 then some ⟨str n, t.b, t.c, -1, t.e, t.f⟩ else
        bif ns[td]?.getD 0 != 0 then some ⟨str n, t.b, t.c, ns[td]?.getD 0, t.e, t.f⟩ else none := hR2
      have HR2 := Lib.hid hR3
      have HTD := Lib.hid htd
      have hw2 : w.heap.size < W2.heap.size := (Array.getElem?_eq_some_iff.1 Q1.out).1
      rw [htd] at e3
      clear hR2 hR3 HR1 htd
      go_upto_region 8 with fail
      have q1 := (heap_alloc_old W2 (.cells #[.string (str n), .int .i64 t.b, .int .i64 t.c, .int .i64 0, .int .i64 t.e, .int .i64 t.f] 45) hw2).trans Q1.out
      have q2 := (heap_alloc_old W2 (.cells #[.string (str n), .int .i64 t.b, .int .i64 t.c, .int .i64 0, .int .i64 t.e, .int .i64 t.f] 45) (Array.getElem?_eq_some_iff.1 Q2.out).1).trans Q2.out
      have q3 := heap_alloc_new W2 (.cells #[.string (str n), .int .i64 t.b, .int .i64 t.c, .int .i64 0, .int .i64 t.e, .int .i64 t.f] 45)
      have q4 : Below W2.heap.size W2 (W2.alloc (.cells #[.string (str n), .int .i64 t.b, .int .i64 t.c, .int .i64 0, .int .i64 t.e, .int .i64 t.f] 45)) := (Below.refl _ W2).alloc (Nat.le_refl _) _
      have hs := Lib.hid (HSO2.out _ q4 td)
      have q5 : Below w.heap.size w (W2.alloc (.cells #[.string (str n), .int .i64 t.b, .int .i64 t.c, .int .i64 0, .int .i64 t.e, .int .i64 t.f] 45)) := Q3.out.trans (q4.mono Q3.out.size)
      generalize W2.alloc (.cells #[.string (str n), .int .i64 t.b, .int .i64 t.c, .int .i64 0, .int .i64 t.e, .int .i64 t.f] 45) = W3 at *
      generalize W2.heap.size = g2 at *
      have R1 := Lib.hid q1
      have R3 := Lib.hid q3
      have R5 := Lib.hid q5
      clear Q1 Q2 Q3 HSO2 q4 q5 c0 z0 z1 z2 z3 z4 z5 y0 y1 y2 y3 y4 y5 e0 e1 e2 e3 e4 e5
      obtain ⟨⟨z0, z1, z2, z3, z4, z5⟩, y0, y1, y2, y3, y4, y5⟩ := six_cells _ _ _ _ _ _ _ _ _ q1
      obtain ⟨⟨e0, e1, e2, e3, e4, e5⟩, _⟩ := six_cells _ _ _ _ _ _ _ _ _ q2
      obtain ⟨⟨s0, s1, s2, s3, s4, s5⟩, r0, r1, r2, r3, r4, r5⟩ := six_cells _ _ _ _ _ _ _ _ _ q3
      rw [HTD.out] at e3
      clear q1 q2 q3 HTD
      by_cases hd0 : td = 0
      · subst hd0
        have hE : Hid (res = some ⟨str n, t.b, t.c, 0, t.e, t.f⟩) := Lib.hid HR2.out
        go_wp2_with fail
        obtain ⟨x1, x2⟩ := six_set (.string (str n)) (.int .i64 t.b) (.int .i64 t.c) (.int .i64 0) (.int .i64 t.e) (.int .i64 t.f) (Nat.le_refl w.heap.size) R1.out
        refine bodyPost_ret (results_sym rfl _ _ _ _ _ _ _ _ _ _ (by rfl) (by rfl) x1) rfl ⟨R5.out.trans (x2.below (by have := R5.out.size; omega)), ⟨str n, t.b, t.c, 0, t.e, t.f⟩, ?_, .inr hE.out⟩
        rw [hE.out]
        rfl
      · have k0 : ((td : Int) == 0) = false := by simp; omega
        by_cases hd1 : td = 65521
        · subst hd1
          have hE : Hid (res = some ⟨str n, t.b, t.c, -1, t.e, t.f⟩) := Lib.hid HR2.out
          clear hd0 k0
          go_upto_region 13 with fail
          have q3 := heap_setCell_same W3 g2 3 _ _ (.int .i64 (-1)) R3.out
          have q1 : (W3.setCell ⟨g2, 3, none⟩ (.int .i64 (-1))).heap[w.heap.size]? = _ := (heap_setCell_other _ _ _ _ (by simp; omega)).trans R1.out
          have q5 : Below w.heap.size w (W3.setCell ⟨g2, 3, none⟩ (.int .i64 (-1))) := R5.out.setCell (by simp; omega) _
          generalize W3.setCell ⟨g2, 3, none⟩ (.int .i64 (-1)) = W4 at *
          have S1 := Lib.hid q1
          have S5 := Lib.hid q5
          clear z0 z1 z2 z3 z4 z5 y0 y1 y2 y3 y4 y5 e0 e1 e2 e3 e4 e5 s0 s1 s2 s3 s4 s5 r0 r1 r2 r3 r4 r5 q5
          obtain ⟨⟨z0, z1, z2, z3, z4, z5⟩, y0, y1, y2, y3, y4, y5⟩ := six_cells _ _ _ _ _ _ _ _ _ q1
          obtain ⟨⟨s0, s1, s2, s3, s4, s5⟩, r0, r1, r2, r3, r4, r5⟩ := six_cells _ _ _ _ _ _ _ _ _ q3
          clear q1 q3
          go_wp2_with fail
          obtain ⟨x1, x2⟩ := six_set (.string (str n)) (.int .i64 t.b) (.int .i64 t.c) (.int .i64 (-1)) (.int .i64 t.e) (.int .i64 t.f) (Nat.le_refl w.heap.size) S1.out
          refine bodyPost_ret (results_sym rfl _ _ _ _ _ _ _ _ _ _ (by rfl) (by rfl) x1) rfl ⟨S5.out.trans (x2.below (by have := S5.out.size; omega)), ⟨str n, t.b, t.c, -1, t.e, t.f⟩, ?_, .inr hE.out⟩
          rw [hE.out]
          rfl
        · have k1 : ((td : Int) == 65521) = false := by simp; omega
          have hE1 := HR2.out
          rw [k0, k1] at hE1
          have HE1 := Lib.hid hE1
          clear hd0 hd1 HR2 hE1
          generalize ns[td]?.getD 0 = lk at *
          go_upto_region 15 with (first | (go_at_call 93; refine hs.out.mono ?_; rintro e w' ⟨rfl, rfl⟩) | fail)
          have q3 := heap_setCell_same W3 g2 3 _ _ (.int .i64 lk) R3.out
          have q1 : (W3.setCell ⟨g2, 3, none⟩ (.int .i64 lk)).heap[w.heap.size]? = _ := (heap_setCell_other _ _ _ _ (by simp; omega)).trans R1.out
          have q5 : Below w.heap.size w (W3.setCell ⟨g2, 3, none⟩ (.int .i64 lk)) := R5.out.setCell (by simp; omega) _
          generalize W3.setCell ⟨g2, 3, none⟩ (.int .i64 lk) = W4 at *
          have S1 := Lib.hid q1
          have S5 := Lib.hid q5
          clear z0 z1 z2 z3 z4 z5 y0 y1 y2 y3 y4 y5 e0 e1 e2 e3 e4 e5 s0 s1 s2 s3 s4 s5 r0 r1 r2 r3 r4 r5 q5
          obtain ⟨⟨z0, z1, z2, z3, z4, z5⟩, y0, y1, y2, y3, y4, y5⟩ := six_cells _ _ _ _ _ _ _ _ _ q1
          obtain ⟨⟨s0, s1, s2, s3, s4, s5⟩, r0, r1, r2, r3, r4, r5⟩ := six_cells _ _ _ _ _ _ _ _ _ q3
          clear q1 q3
          go_region
          go_wp2_with fail
          obtain ⟨x1, x2⟩ := six_set (.string (str n)) (.int .i64 t.b) (.int .i64 t.c) (.int .i64 lk) (.int .i64 t.e) (.int .i64 t.f) (Nat.le_refl w.heap.size) S1.out
          refine bodyPost_ret (results_sym_drew rfl _ _ _ _ _ _ _ _ _ _ (by rfl) (by rfl) x1) rfl ⟨S5.out.trans (x2.below (by have := S5.out.size; omega)).drew, ⟨str n, t.b, t.c, lk, t.e, t.f⟩, ?_, ?_⟩
          · rw [HE1.out]
            cases lk != 0 <;> rfl
          · rw [HE1.out]
            cases lk != 0 with
            | false => exact .inl rfl
            | true => exact .inr rfl
end Go.Proofs.YtenmcmnhiejbgaaGreat

namespace Go.Proofs.YtenmcmnhiejbgaaGreat
open Go.RowKit

/-- How many of the first k headers are the symbols', and the last one that is. -/
def cnt2 (L : List Ten) : Nat → Nat
  | 0 => 0
  | k + 1 => cnt2 L k + match L[k]? with | some t => bif t.b == 2 then 1 else 0 | none => 0
def last2 (L : List Ten) : Nat → Nat
  | 0 => 0
  | k + 1 => match L[k]? with | some t => bif t.b == 2 then k else last2 L k | none => last2 L k
theorem cnt2_step {L : List Ten} {k : Nat} {t : Ten} (h : L[k]? = some t) : cnt2 L (k + 1) = cnt2 L k + bif t.b == 2 then 1 else 0 := by
  show cnt2 L k + _ = _
  rw [h]
theorem last2_step {L : List Ten} {k : Nat} {t : Ten} (h : L[k]? = some t) : last2 L (k + 1) = bif t.b == 2 then k else last2 L k := by
  show (match L[k]? with | some t => bif t.b == 2 then k else last2 L k | none => last2 L k) = _
  rw [h]
theorem cnt2_le (L : List Ten) : ∀ k, cnt2 L k ≤ k
  | 0 => Nat.le_refl _
  | k + 1 => by
    have := cnt2_le L k
    unfold cnt2
    cases L[k]? with
    | none => simp only; omega
    | some t => cases h : (t.b == 2) <;> simp only [h, cond_true, cond_false] <;> omega
theorem last2_lt (L : List Ten) : ∀ k, 1 ≤ k → last2 L k < k
  | 1, _ => by
    unfold last2
    cases L[0]? with
    | none => exact Nat.zero_lt_one
    | some t => cases h : (t.b == 2) <;> simp [last2]
  | k + 2, _ => by
    have := last2_lt L (k + 1) (by omega)
    unfold last2
    cases L[k + 1]? with
    | none => simp only; omega
    | some t => cases h : (t.b == 2) <;> simp only [h, cond_true, cond_false] <;> omega
/-- The symbols from number i on, behind those that there are. -/
def symGo (l : List UInt8) (ns : List Int) (tb : List UInt8) (a : Int) : Nat → Nat → List SymD → Option (List SymD)
  | _, 0, acc => some acc
  | i, m + 1, acc => match symB l ns tb (a + 24 * (i : Int)) with
    | none => none
    | some s => symGo l ns tb a (i + 1) m (acc ++ [s])
theorem symGo_step {l : List UInt8} {ns : List Int} {tb : List UInt8} {a : Int} {i m : Nat} {acc : List SymD} : symGo l ns tb a i (m + 1) acc = match symB l ns tb (a + 24 * (i : Int)) with
    | none => none
    | some s => symGo l ns tb a (i + 1) m (acc ++ [s]) := rfl
def cntL (l : List SymD) : Nat := (l.filter fun s => s.bind == 0).length
theorem cntL_snoc (l : List SymD) (s : SymD) : cntL (l ++ [s]) = cntL l + bif s.bind == 0 then 1 else 0 := by
  unfold cntL
  rw [List.filter_append, List.length_append, List.filter_cons]
  cases s.bind == 0 <;> simp
theorem cntL_le (l : List SymD) : cntL l ≤ l.length := List.length_filter_le _ _
/-- The symbols of headers, of which the one at number y is theirs. -/
def symsAt (l : List UInt8) (L : List Ten) (ns : List Int) (h : Ten) : Option (List SymD) := bif (h.j == 24) && (h.f.tmod 24 == 0) then
    bif isTy L h.g.toNat 3 then (match L[h.g.toNat]? with
      | none => none
      | some t => match symGo l ns (win l t.e.toNat t.f.toNat) h.e 0 (h.f.toNat / 24) [] with
        | none => none
        | some ys => bif ((cntL ys : Nat) : Int) == h.h then some ys else none) else none
  else none
def symsB (l : List UInt8) (L : List Ten) (ns : List Int) : Option (List SymD) := bif cnt2 L L.length == 1 then (match L[last2 L L.length]? with
  | none => none
  | some h => symsAt l L ns h) else none
theorem symB_bd {l : List UInt8} {ns : List Int} {tb : List UInt8} {a : Int} {s : SymD} (hn : ∀ n ∈ ns, 0 ≤ n ∧ n ≤ 100000) (h : symB l ns tb a = some s) : s.bd := by
  unfold symB at h
  cases hs : symAt l a with
  | none => rw [hs] at h; cases h
  | some t =>
    rw [hs] at h
    obtain ⟨_, he, hf, hb1, hb2, hc1, hc2, hd1, hd2⟩ := symAt_may hs
    have he := (fitsB_iff _).1 he
    have hf := (fitsB_iff _).1 hf
    cases hn2 : strAt tb t.a with
    | none => simp [hn2] at h
    | some n =>
      have h : (bif t.d == 0 then some (⟨str n, t.b, t.c, 0, t.e, t.f⟩ : SymD) else bif t.d == 65521 then some ⟨str n, t.b, t.c, -1, t.e, t.f⟩ else
        bif ns[t.d.toNat]?.getD 0 != 0 then some ⟨str n, t.b, t.c, ns[t.d.toNat]?.getD 0, t.e, t.f⟩ else none) = some s := by
        simp only [hn2] at h
        exact h
      have hsz : (str n).size ≤ maxLen := by
        unfold strAt at hn2
        split at hn2
        · unfold nameB at hn2
          split at hn2
          · rename_i hc
            cases hn2
            have := hc.2
            show ((List.drop t.a.toNat tb).takeWhile _).toArray.size ≤ maxLen
            rw [List.size_toArray]
            unfold maxLen
            omega
          · cases hn2
        · cases hn2
      have hnb : i64bd (ns[t.d.toNat]?.getD 0) := by
        cases hg : ns[t.d.toNat]? with
        | none => exact ⟨by decide, by decide⟩
        | some n => have := hn n (List.mem_of_getElem? hg); exact ⟨by show _ ≤ n; omega, by show n ≤ _; omega⟩
      have hB : i64bd t.b := ⟨by omega, by omega⟩
      have hC : i64bd t.c := ⟨by omega, by omega⟩
      have hz : ∀ x : Int, i64bd x → SymD.bd ⟨str n, t.b, t.c, x, t.e, t.f⟩ := fun x hx => ⟨hsz, hB, hC, hx, fits_bd he, fits_bd hf⟩
      cases h1 : (t.d == 0) with
      | true => simp only [h1, cond_true, Option.some.injEq] at h; subst h; exact hz 0 ⟨by decide, by decide⟩
      | false =>
        cases h2 : (t.d == 65521) with
        | true => simp only [h1, h2, cond_true, cond_false, Option.some.injEq] at h; subst h; exact hz (-1) ⟨by decide, by decide⟩
        | false =>
          cases h3 : (ns[t.d.toNat]?.getD 0 != 0) with
          | true => simp only [h1, h2, h3, cond_true, cond_false, Option.some.injEq] at h; subst h; exact hz _ hnb
          | false => simp [h1, h2, h3] at h
theorem sym_cells_one (s : SymD) : ∀ u ∈ symC s, u.oneCell' = true := fun u hu => by
  simp only [symC, List.mem_cons, List.not_mem_nil, or_false] at hu
  rcases hu with rfl | rfl | rfl | rfl | rfl | rfl <;> rfl
theorem Tryz.infoSym : (Tryz.prog.info? 45).map (fun i => (i.zero, i.size, i.bytes)) = some (some (.agg #[.string ⟨#[]⟩, .int .i64 0, .int .i64 0, .int .i64 0, .int .i64 0, .int .i64 0]), 6, 56) := by kernel_rfl
/-- What readSyms gives. -/
def GivesSyms (F G N : Nat) (vb vh vn vs v0 v2 v3 v4 : Value) (l : List UInt8) (L : List Ten) (ns : List Int) (w : World) (e : Ending) (w' : World) : Prop :=
  e = .returned (.bool (symsB l L ns).isSome) ∧ FrT N [100, 27] w w' ∧ ∀ ys, symsB l L ns = some ys → ∃ v1,
    w'.heap[F]? = some (.cells #[vb, vh, vn, vs, .int .i64 ((last2 L L.length : Nat) : Int)] 100 (0, 0)) ∧
    w'.heap[G]? = some (.cells #[v0, v1, v2, v3, v4] 27 (0, 0)) ∧ w'.ownsRow w.heap.size 45 6 v1 ys.length (ys.flatMap symC) ∧ ∀ y ∈ ys, y.bd
end Go.Proofs.YtenmcmnhiejbgaaGreat
