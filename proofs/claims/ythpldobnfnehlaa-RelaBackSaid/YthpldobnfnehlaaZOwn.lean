/-
  Contract of the project's rela.Get.
-/
import Derived.Test.YthpldobnfnehlaaZPut
namespace Go.Proofs.Ythpldobnfnehlaa
open Go.RowKit

theorem znumber_any (p : Option Addr) (len cap : Nat) (l : List UInt8) (at_ n : Int) (w : World) (h : Has w p l) (hlen : l.length = len) (hcap : len ≤ cap) (hm : cap ≤ maxLen) :
    Calls Try.prog 51 #[.slice p len cap, .int .i64 at_, .int .i64 n] w fun e w' => e = .returned (.int .i64 (wrap64 (getB l at_ n : Int))) ∧ w = w' := by
  have HG := Lib.hid (get_any p len cap l at_ n w h hlen hcap hm)
  generalize getB l at_ n = q at *
  clear h hlen
  go_enter Try.func51, Try.ntmps51
  go_wp2_with (go_at_call 44; refine HG.out.mono ?_; rintro e w' ⟨rfl, rfl⟩)
  go_ret
  exact ⟨rfl, rfl⟩

/-- The relocation that Get reads, may it be or not. -/
def relR (l : List UInt8) (a : Nat) : Fou := ⟨wrap64 (num (win l a 8) : Int), (num (win l (a + 8) 4) : Int), (num (win l (a + 12) 4) : Int), wrap64 (num (win l (a + 16) 8) : Int)⟩
theorem wrap_eq (v : Int) : IntKind.i64.wrap v = wrap64 v := by
  simp only [IntKind.wrap, IntKind.signed, IntKind.bits, wrap64]
  simp
  split <;> omega
theorem numI_wrap (l : List UInt8) (a : Nat) (h : num (win l a 8) < 18446744073709551616) : (fitsB (numI l a 8) = true ↔ fitsB (wrap64 (num (win l a 8) : Int)) = true) ∧ (fitsB (numI l a 8) = true → numI l a 8 = wrap64 (num (win l a 8) : Int)) := by
  unfold numI wrap64
  rw [fitsB_iff, fitsB_iff]
  split <;> omega
theorem numI_plain (l : List UInt8) (a n : Nat) : (fitsB (numI l a n) = true ↔ fitsB (num (win l a n) : Int) = true) ∧ (fitsB (numI l a n) = true → numI l a n = (num (win l a n) : Int)) := by
  unfold numI
  rw [fitsB_iff, fitsB_iff]
  split <;> omega
theorem fitsB_wid {n : Int} (h : 0 < widthI n) : fitsB n = true := by
  have := widthI_pos h
  exact (fitsB_iff _).2 (by omega)
theorem relR_may (l : List UInt8) (a : Nat) (hl : a + 24 ≤ l.length) : ((fouAt l a).may ↔ (relR l a).may) ∧ ((fouAt l a).may → fouAt l a = relR l a) := by
  have w8 := win_length l a 8 (by omega)
  have h8 := num_lt64 (win l a 8) (by omega)
  have p0 := numI_wrap l a h8
  have p1 := numI_plain l (a + 8) 4
  have p2 := numI_plain l (a + 12) 4
  have p3 := wrap_eq (num (win l (a + 16) 8) : Int)
  unfold fouAt relR Fou.may
  simp only
  rw [p3]
  constructor
  · constructor
    · rintro ⟨x0, x2, x1⟩
      have x1' := fitsB_wid x1
      exact ⟨p0.1.1 x0, p2.1.1 x2, by rw [← p1.2 x1']; exact x1⟩
    · rintro ⟨x0, x2, x1⟩
      have x1' := p1.1.2 (fitsB_wid x1)
      exact ⟨p0.1.2 x0, p2.1.2 x2, by rw [p1.2 x1']; exact x1⟩
  · rintro ⟨x0, x2, x1⟩
    have x1' := fitsB_wid x1
    rw [p0.2 x0, p2.2 x2, p1.2 x1']
theorem relAt_by (l : List UInt8) (a : Nat) (hl : a + 24 ≤ l.length) : relAt l a = bif decide (relR l a).may then some (relR l a) else none := by
  have hr := relR_may l a hl
  have e : ((a : Int)).toNat = a := rfl
  unfold relAt
  rw [e]
  by_cases hm : (relR l a).may
  · have hf := hr.1.2 hm
    rw [decide_eq_true hm, if_pos ⟨by omega, by omega, hf⟩, hr.2 hf]
    rfl
  · rw [decide_eq_false hm, if_neg fun hc => hm (hr.1.1 hc.2.2)]
    rfl

theorem zget_out (p : Option Addr) (len cap : Nat) (at_ : Int) (w : World) (hbig : len ≤ 100000) (h : at_ < 0 ∨ (len : Int) < at_ + 24) (h0 : -9223372036854775808 ≤ at_) (h1 : at_ ≤ 9223372036854775807) :
    Calls Try.prog 29 #[.slice p len cap, .int .i64 at_] w fun e w' => e = .returned (.tuple #[fou0.v, .bool false]) ∧ Below w.heap.size w w' := by
  have hb := (Below.refl _ w).alloc (Nat.le_refl _) (.cells #[.int .i64 0, .int .i64 0, .int .i64 0, .int .i64 0] 57)
  by_cases hneg : at_ < 0
  · go_enter Try.func29, Try.ntmps29
    go_wp2_with fail
    exact bodyPost_ret (v := .tuple #[fou0.v, .bool false]) (by simp [results, Try.results29, go_sem, fou0]) rfl ⟨rfl, by first | exact hb | exact (((hb.setCell (Nat.le_refl _) _).setCell (Nat.le_refl _) _).setCell (Nat.le_refl _) _).setCell (Nat.le_refl _) _⟩
  · have hI : (len : Int) - 24 < at_ := by omega
    have hI0 : 0 ≤ at_ := by omega
    go_enter Try.func29, Try.ntmps29
    go_wp2_with fail
    exact bodyPost_ret (v := .tuple #[fou0.v, .bool false]) (by simp [results, Try.results29, go_sem, fou0]) rfl ⟨rfl, by first | exact hb | exact (((hb.setCell (Nat.le_refl _) _).setCell (Nat.le_refl _) _).setCell (Nat.le_refl _) _).setCell (Nat.le_refl _) _⟩

/-- What Get asks last: whether the relocation that it has read may be. -/
theorem zcell_two (w : World) (o : Obj) (cs : Array Value) (t : TypeId) (i : Nat) (v : Value) (h : cs[i]? = some v) : ((w.alloc o).alloc (.cells cs t)).cell? ⟨w.heap.size + 1, i, none⟩ = some v := by
  have hs : (w.alloc o).heap.size = w.heap.size + 1 := by simp
  have hn := heap_alloc_new (w.alloc o) (.cells cs t)
  rw [hs] at hn
  exact (cell_of_row ((w.alloc o).alloc (.cells cs t)) (w.heap.size + 1) i cs t (0, 0) hn).trans h
theorem zmay_then (w : World) (t : Fou) (D : Bool) (HM : ∀ W, Calls Try.prog 52 #[t.v] W fun e w' => e = .returned (.bool D) ∧ Below W.heap.size W w') :
    Calls Try.prog 52 #[t.v] ((w.alloc (.cells #[.int .i64 0, .int .i64 0, .int .i64 0, .int .i64 0] 57)).alloc (.cells #[.int .i64 t.a, .int .i64 t.b, .int .i64 t.c, .int .i64 t.d] 57)) fun e w2 => e = .returned (.bool D) ∧ Below w.heap.size w w2 ∧
      (w2.cell? ⟨w.heap.size, 0, none⟩ = some (.int .i64 0) ∧ w2.cell? ⟨w.heap.size, 1, none⟩ = some (.int .i64 0) ∧ w2.cell? ⟨w.heap.size, 2, none⟩ = some (.int .i64 0) ∧ w2.cell? ⟨w.heap.size, 3, none⟩ = some (.int .i64 0)) ∧
      (w2.frozen? ⟨w.heap.size, 0, none⟩ = false ∧ w2.frozen? ⟨w.heap.size, 1, none⟩ = false ∧ w2.frozen? ⟨w.heap.size, 2, none⟩ = false ∧ w2.frozen? ⟨w.heap.size, 3, none⟩ = false) ∧
      (w2.cell? ⟨w.heap.size + 1, 0, none⟩ = some (.int .i64 t.a) ∧ w2.cell? ⟨w.heap.size + 1, 1, none⟩ = some (.int .i64 t.b) ∧ w2.cell? ⟨w.heap.size + 1, 2, none⟩ = some (.int .i64 t.c) ∧ w2.cell? ⟨w.heap.size + 1, 3, none⟩ = some (.int .i64 t.d)) ∧
      w.heap.size + 1 < w2.heap.size := by
  refine (HM _).mono ?_
  rintro e w2 ⟨rfl, hb2⟩
  have hbz : Below w.heap.size w (w.alloc (.cells #[.int .i64 0, .int .i64 0, .int .i64 0, .int .i64 0] 57)) := (Below.refl _ w).alloc (Nat.le_refl _) _
  have hbX : Below w.heap.size w w2 := (hbz.alloc (by simp) _).trans (hb2.mono (by simp; omega))
  have q := fun i v => zcell_two w (.cells #[.int .i64 0, .int .i64 0, .int .i64 0, .int .i64 0] 57) #[.int .i64 t.a, .int .i64 t.b, .int .i64 t.c, .int .i64 t.d] 57 i v
  refine ⟨rfl, hbX, ⟨?_, ?_, ?_, ?_⟩, ⟨?_, ?_, ?_, ?_⟩, ⟨?_, ?_, ?_, ?_⟩, ?_⟩
  iterate 4 · rw [hb2.cell (by simp; omega)]; simp
  iterate 4 · rw [hb2.frozen (by simp; omega)]; simp
  · rw [hb2.cell (by simp)]; exact q 0 _ rfl
  · rw [hb2.cell (by simp)]; exact q 1 _ rfl
  · rw [hb2.cell (by simp)]; exact q 2 _ rfl
  · rw [hb2.cell (by simp)]; exact q 3 _ rfl
  · have := hb2.size; simp at this; omega

theorem zw64 (n : Nat) (h : n < 9223372036854775808) : wrap64 (n : Int) = n := by unfold wrap64; omega

set_option maxHeartbeats 2000000 in
theorem zget_in (p : Option Addr) (len cap a : Nat) (l : List UInt8) (w : World) (h : Has w p l) (hlen : l.length = len) (hcap : len ≤ cap) (hm : cap ≤ maxLen) (hbig : len ≤ 100000) (hin : a + 24 ≤ len) :
    Calls Try.prog 29 #[.slice p len cap, .int .i64 (a : Int)] w fun e w' => e = .returned (.tuple #[(relV (relAt l a)).1, .bool (relV (relAt l a)).2]) ∧ Below w.heap.size w w' := by
  have hm' := hm
  unfold maxLen at hm'
  obtain ⟨b, off, rfl, _⟩ := h.plain (by omega)
  have hst : Has w (some ⟨b, off + a, none⟩) (win l a 24) := has_win h a 24 (by omega)
  have hsl : (win l a 24).length = 24 := win_length l a 24 (by omega)
  have gw := fun (o n : Nat) (hw : wid n = true) (hn : o + n ≤ 24) => show getB (win l a 24) o n = num (win l (a + o) n) from by
    unfold getB
    rw [hsl, if_pos ((fitB_iff _ _ _).2 ⟨(wid_iff _).1 hw, by omega, by omega⟩)]
    exact congrArg num (win_win l a 24 o n hn)
  have hN := fun (o n : Int) W (hb : Below w.heap.size w W) => znumber_any (some ⟨b, off + a, none⟩) 24 (cap - a) (win l a 24) o n W (hst.below hb) hsl (by omega) (by unfold maxLen; omega)
  have hN0 := hN 0 8
  have hN1 := hN 8 4
  have hN2 := hN 12 4
  have hN3 := hN 16 8
  have b1 := num_lt (win l (a + 8) 4)
  have b2 := num_lt (win l (a + 12) 4)
  rw [win_length l _ _ (by omega)] at b1 b2
  rw [show getB (win l a 24) 0 8 = num (win l a 8) from gw 0 8 rfl (by omega)] at hN0
  rw [show getB (win l a 24) 8 4 = num (win l (a + 8) 4) from gw 8 4 rfl (by omega), zw64 _ (by omega)] at hN1
  rw [show getB (win l a 24) 12 4 = num (win l (a + 12) 4) from gw 12 4 rfl (by omega), zw64 _ (by omega)] at hN2
  rw [show getB (win l a 24) 16 8 = num (win l (a + 16) 8) from gw 16 8 rfl (by omega)] at hN3
  have hO := relAt_by l a (by omega)
  have hM := fun W => zmay_any (relR l a) W
  generalize decide (relR l a).may = D at *
  unfold relR at hO hM
  generalize wrap64 (num (win l a 8) : Int) = x0 at *
  generalize (num (win l (a + 8) 4) : Int) = x1 at *
  generalize (num (win l (a + 12) 4) : Int) = x2 at *
  generalize wrap64 (num (win l (a + 16) 8) : Int) = x3 at *
  have N0 := Lib.hid hN0
  have N1 := Lib.hid hN1
  have N2 := Lib.hid hN2
  have N3 := Lib.hid hN3
  have HPX := Lib.hid (zmay_then w ⟨x0, x1, x2, x3⟩ D hM)
  rw [hO]
  have hI : ¬ (len : Int) - 24 < (a : Int) := by omega
  have hI0 : ¬ (a : Int) < 0 := by omega
  have hc0 : ¬ cap = a := by omega
  have hc1 : (a : Int) + 24 ≤ (cap : Int) := by omega
  have hbz : Below w.heap.size w (w.alloc (.cells #[.int .i64 0, .int .i64 0, .int .i64 0, .int .i64 0] 57)) := (Below.refl _ w).alloc (Nat.le_refl _) _
  clear hN hN0 hN1 hN2 hN3 hO h hlen gw b1 b2 hM hst hsl hm
  go_enter Try.func29, Try.ntmps29
  go_wp2_with fail
  refine (N0.out _ hbz).mono ?_
  rintro e w' ⟨rfl, rfl⟩
  go_wp2_with fail
  refine (N1.out _ hbz).mono ?_
  rintro e w' ⟨rfl, rfl⟩
  go_wp2_with fail
  refine (N2.out _ hbz).mono ?_
  rintro e w' ⟨rfl, rfl⟩
  go_wp2_with fail
  refine (N3.out _ hbz).mono ?_
  rintro e w' ⟨rfl, rfl⟩
  go_wp2_with fail
  refine HPX.out.mono ?_
  rintro e w2 ⟨rfl, hbX, ⟨s0, s1, s2, s3⟩, ⟨f0, f1, f2, f3⟩, ⟨t0, t1, t2, t3⟩, hz2⟩
  clear N0 N1 N2 N3 HPX
  cases D with
  | true =>
    go_wp2_with fail
    exact bodyPost_ret (v := .tuple #[Fou.v ⟨x0, x1, x2, x3⟩, .bool true]) (by simp [results, Try.results29, go_sem, s0, s1, s2, s3]) rfl ⟨rfl, (((hbX.setCell (Nat.le_refl _) _).setCell (Nat.le_refl _) _).setCell (Nat.le_refl _) _).setCell (Nat.le_refl _) _⟩
  | false =>
    go_wp2_with fail
    exact bodyPost_ret (v := .tuple #[fou0.v, .bool false]) (by simp [results, Try.results29, go_sem, fou0, s0, s1, s2, s3]) rfl ⟨rfl, (((hbX.setCell (Nat.le_refl _) _).setCell (Nat.le_refl _) _).setCell (Nat.le_refl _) _).setCell (Nat.le_refl _) _⟩

theorem zget_ok : ZGetOK := fun p len cap l at_ w h hlen hcap hm hbig h0 h1 => by
  by_cases hin : 0 ≤ at_ ∧ at_ + 24 ≤ len
  · obtain ⟨a, rfl⟩ := Int.eq_ofNat_of_zero_le hin.1
    exact zget_in p len cap a l w h hlen hcap hm hbig (by omega)
  · have e : relAt l at_ = none := by
      unfold relAt
      rw [if_neg fun hc => hin ⟨hc.1, by omega⟩]
    rw [e]
    exact zget_out p len cap at_ w hbig (by omega) h0 h1

end Go.Proofs.Ythpldobnfnehlaa
