/-
  Contracts of the project's sym: Put whatever the entry, Get.
-/
import Derived.Test.YtonlbhojepofcaaYPut
namespace Go.Proofs.Ytonlbhojepofcaa
open Go.RowKit

theorem yeq_no {x y : ByteArray} (h : ¬ y = x) : (y.toList == x.toList) = false := by
  have : ¬ y.toList = x.toList := fun e => h (by
    rw [ByteArray.toList_eq, ByteArray.toList_eq] at e
    exact ByteArray.ext (Array.toList_inj.1 e))
  simpa using this
theorem yequal_any (p q : Option Addr) (n1 c1 n2 c2 : Nat) (l m : List UInt8) (w : World) (h1 : Has w p l) (h2 : Has w q m) (hn1 : l.length = n1) (hn2 : m.length = n2) :
    Calls Try.prog 27 #[.slice p n1 c1, .slice q n2 c2] w fun e w' => e = .returned (.bool (decide (l = m))) ∧ w = w' := by
  have k1 := conv_now (cap := c1) h1 hn1
  have k2 := conv_now (cap := c2) h2 hn2
  have hd : ((str l).toList == (str m).toList) = decide (l = m) := by
    by_cases e : l = m
    · subst e; simp
    · have := yeq_no (x := str m) (y := str l) fun x => e (str_inj x)
      rw [this]; simp [e]
  have HD := Lib.hid hd
  clear h1 h2 hn1 hn2 hd
  go_enter Try.func27, Try.ntmps27
  go_wp2_with fail
  go_ret
  exact ⟨by rw [← HD.out]; rfl, rfl⟩

theorem ynumber_any (p : Option Addr) (len cap : Nat) (l : List UInt8) (at_ n : Int) (w : World) (h : Has w p l) (hlen : l.length = len) (hcap : len ≤ cap) (hm : cap ≤ maxLen) :
    Calls Try.prog 38 #[.slice p len cap, .int .i64 at_, .int .i64 n] w fun e w' => e = .returned (.int .i64 (wrap64 (getB l at_ n : Int))) ∧ w = w' := by
  have HG := Lib.hid (get_any p len cap l at_ n w h hlen hcap hm)
  generalize getB l at_ n = q at *
  clear h hlen
  go_enter Try.func38, Try.ntmps38
  go_wp2_with (go_at_call 35; refine HG.out.mono ?_; rintro e w' ⟨rfl, rfl⟩)
  go_ret
  exact ⟨rfl, rfl⟩

/-- What Put tells, at any entry. -/
def entO (t : Six) : List UInt8 := if fitsB t.a && fitsB t.e && fitsB t.f && decide (0 ≤ t.b) && decide (t.b ≤ 2) && decide (0 ≤ t.c) && decide (t.c ≤ 3) && decide (0 ≤ t.d) && decide (t.d ≤ 65535) then entB t else []
theorem may_bool (t : Six) : (fitsB t.a && fitsB t.e && fitsB t.f && decide (0 ≤ t.b) && decide (t.b ≤ 2) && decide (0 ≤ t.c) && decide (t.c ≤ 3) && decide (0 ≤ t.d) && decide (t.d ≤ 65535)) = true ↔ t.may := by
  simp [Six.may, and_assoc]
theorem entO_yes {t : Six} (h : t.may) : entO t = entB t := by unfold entO; rw [if_pos ((may_bool t).2 h)]
theorem entO_no {t : Six} (h : ¬ t.may) : entO t = [] := by unfold entO; rw [if_neg fun hc => h ((may_bool t).1 hc)]
theorem yput_any (t : Six) (w : World) : Calls Try.prog 24 #[t.v] w (GivesH (entO t).length (entO t) w) := by
  by_cases h : t.may
  · rw [entO_yes h]
    obtain ⟨a, b, c, d, e, f⟩ := t
    have h' := h
    obtain ⟨f0, f4, f5, x1, x2, x3, x4, x5, x6⟩ := h'
    simp only [fitsB_iff] at f0 f4 f5 x1 x2 x3 x4 x5 x6
    obtain ⟨a, rfl⟩ := Int.eq_ofNat_of_zero_le f0.1
    obtain ⟨b, rfl⟩ := Int.eq_ofNat_of_zero_le x1
    obtain ⟨c, rfl⟩ := Int.eq_ofNat_of_zero_le x3
    obtain ⟨d, rfl⟩ := Int.eq_ofNat_of_zero_le x5
    obtain ⟨e, rfl⟩ := Int.eq_ofNat_of_zero_le f4.1
    obtain ⟨f, rfl⟩ := Int.eq_ofNat_of_zero_le f5.1
    exact (yput_yes a b c d e f w h).mono fun _ _ h => h.toH
  · rw [entO_no h]
    exact yput_no t w h

/-- The entry that Get reads, may it be or not. -/
def entR (l : List UInt8) (a : Nat) : Six := ⟨(num (win l a 4) : Int), (num (win l (a + 4) 1) : Int) / 16, (num (win l (a + 4) 1) : Int) % 16, (num (win l (a + 6) 2) : Int), wrap64 (num (win l (a + 8) 8) : Int), wrap64 (num (win l (a + 16) 8) : Int)⟩
theorem numI_fits {l : List UInt8} {a n : Nat} (h : fitsB (numI l a n) = true) : numI l a n = (num (win l a n) : Int) ∧ num (win l a n) ≤ 2147483647 := by
  unfold numI at h ⊢
  split at h
  · rename_i hc
    rw [if_pos hc]
    exact ⟨rfl, hc⟩
  · have := (fitsB_iff _).1 h
    omega
theorem entR_of {l : List UInt8} {a : Nat} {t : Six} (h : symAt l a = some t) : entR l a = t := by
  have h0 := (symAt_iff l a t).1 h
  obtain ⟨hm, hl, _⟩ := h0
  unfold symAt at h
  split at h
  · have ht : entAt l a = t := by simpa using h
    obtain ⟨x, hx⟩ : ∃ x, l[a + 4]? = some x := ⟨_, List.getElem?_eq_getElem (by omega)⟩
    have hxd : l.getD (a + 4) 0 = x := by simp [List.getD, hx]
    have hn4 : num (win l (a + 4) 1) = x.toNat := by rw [win_one hx]; simp [num]
    rw [← ht] at hm ⊢
    obtain ⟨f0, f4, f5, _, _, _, _, g1, g2⟩ := hm
    simp only [entAt] at f0 f4 f5 g1 g2
    have f3 : fitsB (numI l (a + 6) 2) = true := (fitsB_iff _).2 ⟨g1, by omega⟩
    have e0 := numI_fits f0
    have e3 := numI_fits f3
    have e4 := numI_fits f4
    have e5 := numI_fits f5
    have w4 : wrap64 (num (win l (a + 8) 8) : Int) = (num (win l (a + 8) 8) : Int) := by unfold wrap64; omega
    have w5 : wrap64 (num (win l (a + 16) 8) : Int) = (num (win l (a + 16) 8) : Int) := by unfold wrap64; omega
    unfold entR entAt
    rw [hxd, hn4, w4, w5, e0.1, e3.1, e4.1, e5.1]
  · cases h
/-- What Get tells is what the bytes say. -/
theorem symAt_by (l : List UInt8) (a : Nat) (hl : a + 24 ≤ l.length) : symAt l a = if win l a 24 = entO (entR l a) then some (entR l a) else none := by
  have hw : (win l a 24).length = 24 := win_length l a 24 hl
  split
  · rename_i hq
    have hm : (entR l a).may := by
      by_cases hm : (entR l a).may
      · exact hm
      · rw [entO_no hm] at hq; rw [hq] at hw; simp at hw
    rw [entO_yes hm] at hq
    exact (symAt_iff l a _).2 ⟨hm, hl, hq.symm⟩
  · rename_i hq
    cases hs : symAt l a with
    | none => rfl
    | some t =>
      have e := entR_of hs
      obtain ⟨hm, _, hb⟩ := (symAt_iff l a t).1 hs
      rw [e, entO_yes hm] at hq
      exact absurd hb.symm hq

theorem yget_out (p : Option Addr) (len cap : Nat) (at_ : Int) (w : World) (hbig : len ≤ 100000) (h : at_ < 0 ∨ (len : Int) < at_ + 24) (h0 : -9223372036854775808 ≤ at_) (h1 : at_ ≤ 9223372036854775807) :
    Calls Try.prog 21 #[.slice p len cap, .int .i64 at_] w fun e w' => e = .returned (.tuple #[six0.v, .bool false]) ∧ Below w.heap.size w w' := by
  have hb := (Below.refl _ w).alloc (Nat.le_refl _) (.cells #[.int .i64 0, .int .i64 0, .int .i64 0, .int .i64 0, .int .i64 0, .int .i64 0] 46)
  by_cases hneg : at_ < 0
  · go_enter Try.func21, Try.ntmps21
    go_wp2_with fail
    exact bodyPost_ret (v := .tuple #[six0.v, .bool false]) (by simp [results, Try.results21, go_sem, six0]) rfl ⟨rfl, by first | exact hb | exact (((((hb.setCell (Nat.le_refl _) _).setCell (Nat.le_refl _) _).setCell (Nat.le_refl _) _).setCell (Nat.le_refl _) _).setCell (Nat.le_refl _) _).setCell (Nat.le_refl _) _⟩
  · have hI : (len : Int) - 24 < at_ := by omega
    have hI0 : 0 ≤ at_ := by omega
    go_enter Try.func21, Try.ntmps21
    go_wp2_with fail
    exact bodyPost_ret (v := .tuple #[six0.v, .bool false]) (by simp [results, Try.results21, go_sem, six0]) rfl ⟨rfl, by first | exact hb | exact (((((hb.setCell (Nat.le_refl _) _).setCell (Nat.le_refl _) _).setCell (Nat.le_refl _) _).setCell (Nat.le_refl _) _).setCell (Nat.le_refl _) _).setCell (Nat.le_refl _) _⟩

/-- What Get asks last: Put of the entry that it has read, and Equal of what that tells. -/
theorem ycell_two (w : World) (o : Obj) (cs : Array Value) (t : TypeId) (i : Nat) (v : Value) (h : cs[i]? = some v) : ((w.alloc o).alloc (.cells cs t)).cell? ⟨w.heap.size + 1, i, none⟩ = some v := by
  have hs : (w.alloc o).heap.size = w.heap.size + 1 := by simp
  have hn := heap_alloc_new (w.alloc o) (.cells cs t)
  rw [hs] at hn
  exact (cell_of_row ((w.alloc o).alloc (.cells cs t)) (w.heap.size + 1) i cs t (0, 0) hn).trans h
theorem yput_then (w : World) (t : Six) (b off cap n : Nat) (put : List UInt8) (D : Bool) (HP : ∀ W, Calls Try.prog 24 #[t.v] W (GivesH n put W))
    (HE : ∀ W, Below w.heap.size w W → ∀ q c, Has W q put → Calls Try.prog 27 #[.slice (some ⟨b, off, none⟩) 24 cap, .slice q n c] W fun e w' => e = .returned (.bool D) ∧ W = w') :
    Calls Try.prog 24 #[t.v] ((w.alloc (.cells #[.int .i64 0, .int .i64 0, .int .i64 0, .int .i64 0, .int .i64 0, .int .i64 0] 46)).alloc (.cells #[.int .i64 t.a, .int .i64 t.b, .int .i64 t.c, .int .i64 t.d, .int .i64 t.e, .int .i64 t.f] 46)) fun e w2 => ∃ p2 c2, e = .returned (.slice p2 n c2) ∧ Below w.heap.size w w2 ∧
      (w2.cell? ⟨w.heap.size, 0, none⟩ = some (.int .i64 0) ∧ w2.cell? ⟨w.heap.size, 1, none⟩ = some (.int .i64 0) ∧ w2.cell? ⟨w.heap.size, 2, none⟩ = some (.int .i64 0) ∧ w2.cell? ⟨w.heap.size, 3, none⟩ = some (.int .i64 0) ∧ w2.cell? ⟨w.heap.size, 4, none⟩ = some (.int .i64 0) ∧ w2.cell? ⟨w.heap.size, 5, none⟩ = some (.int .i64 0)) ∧
      (w2.frozen? ⟨w.heap.size, 0, none⟩ = false ∧ w2.frozen? ⟨w.heap.size, 1, none⟩ = false ∧ w2.frozen? ⟨w.heap.size, 2, none⟩ = false ∧ w2.frozen? ⟨w.heap.size, 3, none⟩ = false ∧ w2.frozen? ⟨w.heap.size, 4, none⟩ = false ∧ w2.frozen? ⟨w.heap.size, 5, none⟩ = false) ∧
      (w2.cell? ⟨w.heap.size + 1, 0, none⟩ = some (.int .i64 t.a) ∧ w2.cell? ⟨w.heap.size + 1, 1, none⟩ = some (.int .i64 t.b) ∧ w2.cell? ⟨w.heap.size + 1, 2, none⟩ = some (.int .i64 t.c) ∧ w2.cell? ⟨w.heap.size + 1, 3, none⟩ = some (.int .i64 t.d) ∧ w2.cell? ⟨w.heap.size + 1, 4, none⟩ = some (.int .i64 t.e) ∧ w2.cell? ⟨w.heap.size + 1, 5, none⟩ = some (.int .i64 t.f)) ∧
      w.heap.size + 1 < w2.heap.size ∧
      Calls Try.prog 27 #[.slice (some ⟨b, off, none⟩) 24 cap, .slice p2 n c2] w2 (fun e w' => e = .returned (.bool D) ∧ w2 = w') := by
  refine (HP _).mono ?_
  rintro e w2 ⟨p2, c2, rfl, _, _, _, hH2, hb2⟩
  have hbz : Below w.heap.size w (w.alloc (.cells #[.int .i64 0, .int .i64 0, .int .i64 0, .int .i64 0, .int .i64 0, .int .i64 0] 46)) := (Below.refl _ w).alloc (Nat.le_refl _) _
  have hbX : Below w.heap.size w w2 := (hbz.alloc (by simp) _).trans (hb2.mono (by simp; omega))
  have q := fun i v => ycell_two w (.cells #[.int .i64 0, .int .i64 0, .int .i64 0, .int .i64 0, .int .i64 0, .int .i64 0] 46) #[.int .i64 t.a, .int .i64 t.b, .int .i64 t.c, .int .i64 t.d, .int .i64 t.e, .int .i64 t.f] 46 i v
  refine ⟨p2, c2, rfl, hbX, ⟨?_, ?_, ?_, ?_, ?_, ?_⟩, ⟨?_, ?_, ?_, ?_, ?_, ?_⟩, ⟨?_, ?_, ?_, ?_, ?_, ?_⟩, ?_, HE w2 hbX p2 c2 hH2⟩
  iterate 6 · rw [hb2.cell (by simp; omega)]; simp
  iterate 6 · rw [hb2.frozen (by simp; omega)]; simp
  · rw [hb2.cell (by simp)]; exact q 0 _ rfl
  · rw [hb2.cell (by simp)]; exact q 1 _ rfl
  · rw [hb2.cell (by simp)]; exact q 2 _ rfl
  · rw [hb2.cell (by simp)]; exact q 3 _ rfl
  · rw [hb2.cell (by simp)]; exact q 4 _ rfl
  · rw [hb2.cell (by simp)]; exact q 5 _ rfl
  · have := hb2.size; simp at this; omega

theorem yw64 (n : Nat) (h : n < 9223372036854775808) : wrap64 (n : Int) = n := by unfold wrap64; omega

set_option maxHeartbeats 2000000 in
theorem yget_in (p : Option Addr) (len cap a : Nat) (l : List UInt8) (w : World) (h : Has w p l) (hlen : l.length = len) (hcap : len ≤ cap) (hm : cap ≤ maxLen) (hbig : len ≤ 100000) (hin : a + 24 ≤ len) :
    Calls Try.prog 21 #[.slice p len cap, .int .i64 (a : Int)] w fun e w' => e = .returned (.tuple #[(symV (symAt l a)).1, .bool (symV (symAt l a)).2]) ∧ Below w.heap.size w w' := by
  have hm' := hm
  unfold maxLen at hm'
  obtain ⟨b, off, rfl, _⟩ := h.plain (by omega)
  have hst : Has w (some ⟨b, off + a, none⟩) (win l a 24) := has_win h a 24 (by omega)
  have hsl : (win l a 24).length = 24 := win_length l a 24 (by omega)
  have gw := fun (o n : Nat) (hw : wid n = true) (hn : o + n ≤ 24) => show getB (win l a 24) o n = num (win l (a + o) n) from by
    unfold getB
    rw [hsl, if_pos ((fitB_iff _ _ _).2 ⟨(wid_iff _).1 hw, by omega, by omega⟩)]
    exact congrArg num (win_win l a 24 o n hn)
  have hN := fun (o n : Int) W (hb : Below w.heap.size w W) => ynumber_any (some ⟨b, off + a, none⟩) 24 (cap - a) (win l a 24) o n W (hst.below hb) hsl (by omega) (by unfold maxLen; omega)
  have hN0 := hN 0 4
  have hN1 := hN 4 1
  have hN3 := hN 6 2
  have hN4 := hN 8 8
  have hN5 := hN 16 8
  have b0 := num_lt (win l a 4)
  have b1 := num_lt (win l (a + 4) 1)
  have b3 := num_lt (win l (a + 6) 2)
  rw [win_length l _ _ (by omega)] at b0 b1 b3
  rw [show getB (win l a 24) 0 4 = num (win l a 4) from gw 0 4 rfl (by omega), yw64 _ (by omega)] at hN0
  rw [show getB (win l a 24) 4 1 = num (win l (a + 4) 1) from gw 4 1 rfl (by omega), yw64 _ (by omega)] at hN1
  rw [show getB (win l a 24) 6 2 = num (win l (a + 6) 2) from gw 6 2 rfl (by omega), yw64 _ (by omega)] at hN3
  rw [show getB (win l a 24) 8 8 = num (win l (a + 8) 8) from gw 8 8 rfl (by omega)] at hN4
  rw [show getB (win l a 24) 16 8 = num (win l (a + 16) 8) from gw 16 8 rfl (by omega)] at hN5
  have hO := symAt_by l a (by omega)
  unfold entR at hO
  have hE := fun W (hb : Below w.heap.size w W) q n c r (hq : Has W q r) (hr : r.length = n) => yequal_any (some ⟨b, off + a, none⟩) q 24 (cap - a) n c (win l a 24) r W (hst.below hb) hq hsl hr
  have hy : num (win l (a + 4) 1) ≤ 255 := by omega
  generalize num (win l (a + 4) 1) = y at *
  generalize (num (win l a 4) : Int) = x0 at *
  generalize (num (win l (a + 6) 2) : Int) = x3 at *
  generalize wrap64 (num (win l (a + 8) 8) : Int) = x4 at *
  generalize wrap64 (num (win l (a + 16) 8) : Int) = x5 at *
  obtain ⟨n, put, D, hP, hE2, hO2⟩ : ∃ (n : Nat) (put : List UInt8) (D : Bool), (∀ W, Calls Try.prog 24 #[Six.v ⟨x0, (y : Int) / 16, (y : Int) % 16, x3, x4, x5⟩] W (GivesH n put W)) ∧
      (∀ W, Below w.heap.size w W → ∀ q c, Has W q put → Calls Try.prog 27 #[.slice (some ⟨b, off + a, none⟩) 24 (cap - a), .slice q n c] W fun e w' => e = .returned (.bool D) ∧ W = w') ∧
      symAt l a = (bif D then some ⟨x0, (y : Int) / 16, (y : Int) % 16, x3, x4, x5⟩ else none) := by
    refine ⟨(entO ⟨x0, (y : Int) / 16, (y : Int) % 16, x3, x4, x5⟩).length, entO ⟨x0, (y : Int) / 16, (y : Int) % 16, x3, x4, x5⟩, decide (win l a 24 = entO ⟨x0, (y : Int) / 16, (y : Int) % 16, x3, x4, x5⟩), fun W => yput_any _ W, fun W hb q c hq => hE W hb q _ c _ hq rfl, ?_⟩
    rw [hO]
    by_cases hq : win l a 24 = entO ⟨x0, (y : Int) / 16, (y : Int) % 16, x3, x4, x5⟩
    · rw [if_pos hq, decide_eq_true hq]; rfl
    · rw [if_neg hq, decide_eq_false hq]; rfl
  have N0 := Lib.hid hN0
  have N1 := Lib.hid hN1
  have N3 := Lib.hid hN3
  have N4 := Lib.hid hN4
  have N5 := Lib.hid hN5
  have HPX := Lib.hid (yput_then w ⟨x0, (y : Int) / 16, (y : Int) % 16, x3, x4, x5⟩ b (off + a) (cap - a) n put D hP hE2)
  rw [hO2]
  have hI : ¬ (len : Int) - 24 < (a : Int) := by omega
  have hI0 : ¬ (a : Int) < 0 := by omega
  have hc0 : ¬ cap = a := by omega
  have hc1 : (a : Int) + 24 ≤ (cap : Int) := by omega
  have hbz : Below w.heap.size w (w.alloc (.cells #[.int .i64 0, .int .i64 0, .int .i64 0, .int .i64 0, .int .i64 0, .int .i64 0] 46)) := (Below.refl _ w).alloc (Nat.le_refl _) _
  clear hN hN0 hN1 hN3 hN4 hN5 hO hE h hlen gw b0 b1 b3 hO2 hE2 hP hst hsl hm
  go_enter Try.func21, Try.ntmps21
  go_wp2_with fail
  refine (N1.out _ hbz).mono ?_
  rintro e w' ⟨rfl, rfl⟩
  go_wp2_with fail
  refine (N0.out _ hbz).mono ?_
  rintro e w' ⟨rfl, rfl⟩
  go_wp2_with fail
  refine (N3.out _ hbz).mono ?_
  rintro e w' ⟨rfl, rfl⟩
  go_wp2_with fail
  refine (N4.out _ hbz).mono ?_
  rintro e w' ⟨rfl, rfl⟩
  go_wp2_with fail
  refine (N5.out _ hbz).mono ?_
  rintro e w' ⟨rfl, rfl⟩
  go_wp2_with fail
  refine HPX.out.mono ?_
  rintro e w2 ⟨p2, c2, rfl, hbX, ⟨s0, s1, s2, s3, s4, s5⟩, ⟨f0, f1, f2, f3, f4, f5⟩, ⟨t0, t1, t2, t3, t4, t5⟩, hz2, hEE⟩
  have HEE := Lib.hid hEE
  clear hEE N0 N1 N3 N4 N5 HPX
  go_wp2_with fail
  refine HEE.out.mono ?_
  rintro e w3 ⟨rfl, rfl⟩
  cases D with
  | true =>
    go_wp2_with fail
    exact bodyPost_ret (v := .tuple #[Six.v ⟨x0, (y : Int) / 16, (y : Int) % 16, x3, x4, x5⟩, .bool true]) (by simp [results, Try.results21, go_sem, s0, s1, s2, s3, s4, s5]) rfl ⟨rfl, (((((hbX.setCell (Nat.le_refl _) _).setCell (Nat.le_refl _) _).setCell (Nat.le_refl _) _).setCell (Nat.le_refl _) _).setCell (Nat.le_refl _) _).setCell (Nat.le_refl _) _⟩
  | false =>
    go_wp2_with fail
    exact bodyPost_ret (v := .tuple #[six0.v, .bool false]) (by simp [results, Try.results21, go_sem, six0, s0, s1, s2, s3, s4, s5]) rfl ⟨rfl, (((((hbX.setCell (Nat.le_refl _) _).setCell (Nat.le_refl _) _).setCell (Nat.le_refl _) _).setCell (Nat.le_refl _) _).setCell (Nat.le_refl _) _).setCell (Nat.le_refl _) _⟩

theorem yget_ok : YGetOK := fun p len cap l at_ w h hlen hcap hm hbig h0 h1 => by
  by_cases hin : 0 ≤ at_ ∧ at_ + 24 ≤ len
  · obtain ⟨a, rfl⟩ := Int.eq_ofNat_of_zero_le hin.1
    exact yget_in p len cap a l w h hlen hcap hm hbig (by omega)
  · have e : symAt l at_ = none := by
      unfold symAt
      rw [if_neg fun hc => hin ⟨hc.1, by omega⟩]
    rw [e]
    exact yget_out p len cap at_ w hbig (by omega) h0 h1
theorem yput_ok : YPutOK := fun t w => by
  refine ⟨fun hm => ?_, fun hm => ?_⟩
  · obtain ⟨a, b, c, d, e, f⟩ := t
    have h' := hm
    obtain ⟨f0, f4, f5, x1, x2, x3, x4, x5, x6⟩ := h'
    simp only [fitsB_iff] at f0 f4 f5 x1 x2 x3 x4 x5 x6
    obtain ⟨a, rfl⟩ := Int.eq_ofNat_of_zero_le f0.1
    obtain ⟨b, rfl⟩ := Int.eq_ofNat_of_zero_le x1
    obtain ⟨c, rfl⟩ := Int.eq_ofNat_of_zero_le x3
    obtain ⟨d, rfl⟩ := Int.eq_ofNat_of_zero_le x5
    obtain ⟨e, rfl⟩ := Int.eq_ofNat_of_zero_le f4.1
    obtain ⟨f, rfl⟩ := Int.eq_ofNat_of_zero_le f5.1
    exact yput_yes a b c d e f w hm
  · exact yput_no t w hm

end Go.Proofs.Ytonlbhojepofcaa
