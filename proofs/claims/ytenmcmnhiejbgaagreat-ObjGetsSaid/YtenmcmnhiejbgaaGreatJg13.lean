/-
  Contract: the reference's Symbol.
-/
import Derived.Test.YtenmcmnhiejbgaaGreatJg03
import Derived.Deep.RegionHeld3
import Derived.Deep.DeepCutAuto
namespace Go.Proofs.YtenmcmnhiejbgaaGreat
open Go.RowKit

/-- The numbers of the entry at at. -/
def entAt (l : List UInt8) (o : Nat) : Six := ⟨numI l o 4, ((l.getD (o + 4) 0).toNat : Int) / 16, ((l.getD (o + 4) 0).toNat : Int) % 16, numI l (o + 6) 2, numI l (o + 8) 8, numI l (o + 16) 8⟩
def six0 : Six := ⟨0, 0, 0, 0, 0, 0⟩
/-- What Symbol tells. -/
def symAt (l : List UInt8) (at_ : Int) : Option Six := if 0 ≤ at_ ∧ at_ + 24 ≤ l.length ∧ (entAt l at_.toNat).may ∧ l.getD (at_.toNat + 5) 0 = 0 then some (entAt l at_.toNat) else none
def symV (o : Option Six) : Value × Bool := match o with | some t => (t.v, true) | none => (six0.v, false)

theorem symbol_out (p : Option Addr) (len cap : Nat) (at_ : Int) (w : World) (h : at_ < 0 ∨ (len : Int) < at_ + 24) (hb0 : at_ ≤ 9223372036854775807) (_hbig : len ≤ 1000000000) :
    Calls Tryz.prog 60 #[.slice p len cap, .int .i64 at_] w fun e w' => e = .returned (.tuple #[six0.v, .bool false]) ∧ Below w.heap.size w w' := by
  by_cases h0 : at_ < 0
  · clear h
    go_enter Tryz.func60, Tryz.ntmps60
    go_wp2_with fail
    exact bodyPost_ret (v := .tuple #[six0.v, .bool false]) (by simp [results, Tryz.results60, go_sem, six0]) rfl ⟨rfl, (Below.refl _ w).alloc (Nat.le_refl _) _⟩
  by_cases h1 : (len : Int) < at_
  · clear h
    go_enter Tryz.func60, Tryz.ntmps60
    go_wp2_with fail
    exact bodyPost_ret (v := .tuple #[six0.v, .bool false]) (by simp [results, Tryz.results60, go_sem, six0]) rfl ⟨rfl, (Below.refl _ w).alloc (Nat.le_refl _) _⟩
  have h2 : (len : Int) - at_ < 24 := by omega
  clear h
  go_enter Tryz.func60, Tryz.ntmps60
  go_wp2_with fail
  exact bodyPost_ret (v := .tuple #[six0.v, .bool false]) (by simp [results, Tryz.results60, go_sem, six0]) rfl ⟨rfl, (Below.refl _ w).alloc (Nat.le_refl _) _⟩

set_option maxRecDepth 100000 in
set_option maxHeartbeats 4000000 in
theorem symbol_in (p : Option Addr) (len cap a : Nat) (l : List UInt8) (w : World) (h : Has w p l) (hlen : l.length = len) (hcap : len ≤ cap) (hin : a + 24 ≤ len) (hbig : len ≤ 1000000000) :
    Calls Tryz.prog 60 #[.slice p len cap, .int .i64 a] w fun e w' => e = .returned (.tuple #[(symV (symAt l a)).1, .bool (symV (symAt l a)).2]) ∧ Below w.heap.size w w' := by
  have N0 : Hid (∀ W, Below w.heap.size w W → Calls Tryz.prog 102 #[.slice p len cap, .int .i64 (a : Int), .int .i64 4] W fun e w' => e = .returned (.int .i64 (numI l a 4)) ∧ W = w') := Lib.hid fun W hb => by
    have := rnum_any p len cap l a 4 W (h.below hb) hlen hcap (by omega) (by omega) (by omega) hbig
    exact this
  have N6 : Hid (∀ W, Below w.heap.size w W → Calls Tryz.prog 102 #[.slice p len cap, .int .i64 ((a : Int) + 6), .int .i64 2] W fun e w' => e = .returned (.int .i64 (numI l (a + 6) 2)) ∧ W = w') := Lib.hid fun W hb => by
    have := rnum_any p len cap l (a + 6) 2 W (h.below hb) hlen hcap (by omega) (by omega) (by omega) hbig
    rw [show ((a + 6 : Nat) : Int) = (a : Int) + 6 by omega] at this
    exact this
  have N8 : Hid (∀ W, Below w.heap.size w W → Calls Tryz.prog 102 #[.slice p len cap, .int .i64 ((a : Int) + 8), .int .i64 8] W fun e w' => e = .returned (.int .i64 (numI l (a + 8) 8)) ∧ W = w') := Lib.hid fun W hb => by
    have := rnum_any p len cap l (a + 8) 8 W (h.below hb) hlen hcap (by omega) (by omega) (by omega) hbig
    rw [show ((a + 8 : Nat) : Int) = (a : Int) + 8 by omega] at this
    exact this
  have N16 : Hid (∀ W, Below w.heap.size w W → Calls Tryz.prog 102 #[.slice p len cap, .int .i64 ((a : Int) + 16), .int .i64 8] W fun e w' => e = .returned (.int .i64 (numI l (a + 16) 8)) ∧ W = w') := Lib.hid fun W hb => by
    have := rnum_any p len cap l (a + 16) 8 W (h.below hb) hlen hcap (by omega) (by omega) (by omega) hbig
    rw [show ((a + 16 : Nat) : Int) = (a : Int) + 16 by omega] at this
    exact this
  have hbz : Below w.heap.size w (w.alloc (.cells #[.int .i64 0, .int .i64 0, .int .i64 0, .int .i64 0, .int .i64 0, .int .i64 0] 93)) := (Below.refl _ w).alloc (Nat.le_refl _) _
  obtain ⟨x, hx⟩ : ∃ x, l[a + 4]? = some x := ⟨_, List.getElem?_eq_getElem (by omega)⟩
  obtain ⟨y, hy⟩ : ∃ y, l[a + 5]? = some y := ⟨_, List.getElem?_eq_getElem (by omega)⟩
  have hT : entAt l a = ⟨numI l a 4, (x.toNat : Int) / 16, (x.toNat : Int) % 16, numI l (a + 6) 2, numI l (a + 8) 8, numI l (a + 16) 8⟩ := by
    simp [entAt, List.getD, hx]
  have hS : symAt l a = if (entAt l a).may ∧ y = 0 then some (entAt l a) else none := by
    unfold symAt
    have e : ((a : Int)).toNat = a := rfl
    have hy2 : l.getD (a + 5) 0 = y := by simp [List.getD, hy]
    rw [e, hy2]
    by_cases hm : (entAt l a).may ∧ y = 0
    · rw [if_pos hm, if_pos ⟨by omega, by omega, hm.1, hm.2⟩]
    · rw [if_neg hm, if_neg fun hc => hm hc.2.2]
  obtain ⟨b, off, rfl, hcell⟩ := h.plain (by omega)
  have x4 : w.cell? ⟨b, off + (a + 4), none⟩ = some (.int .u8 (x.toNat : Int)) := hcell _ _ hx
  have x5 : w.cell? ⟨b, off + (a + 5), none⟩ = some (.int .u8 (y.toNat : Int)) := hcell _ _ hy
  have hbl : b < w.heap.size := World.block_lt_of_cell? w _ x4
  have hI0 : ¬ (a : Int) < 0 := by omega
  have hI1 : ¬ (len : Int) < (a : Int) := by omega
  have hI2 : ¬ (len : Int) - (a : Int) < 24 := by omega
  have ha9 : a ≤ 1000000000 := by omega
  have x8 := x.toNat_lt
  have k4 : IntKind.i64.wrap ((a : Int) + 4) = (a : Int) + 4 := IntWalk.i64_in _ (by omega)
  have k6 : IntKind.i64.wrap ((a : Int) + 6) = (a : Int) + 6 := IntWalk.i64_in _ (by omega)
  have k8 : IntKind.i64.wrap ((a : Int) + 8) = (a : Int) + 8 := IntWalk.i64_in _ (by omega)
  have k16 : IntKind.i64.wrap ((a : Int) + 16) = (a : Int) + 16 := IntWalk.i64_in _ (by omega)
  have k40 : (0 : Int) ≤ (a : Int) + 4 := by omega
  have k41 : (a : Int) + 4 < (len : Int) := by omega
  have k42 : ((a : Int) + 4).toNat = a + 4 := by omega
  have k43 : a + 4 < len := by omega
  have kx : IntKind.i64.wrap (x.toNat : Int) = (x.toNat : Int) := IntWalk.i64_in _ (by omega)
  have kq : IntKind.i64.wrap ((x.toNat : Int) / 16) = (x.toNat : Int) / 16 := IntWalk.i64_in _ (by omega)
  have kr : (x.toNat : Int).tmod 16 = (x.toNat : Int) % 16 := Int.tmod_eq_emod_of_nonneg (by omega)
  have y4 := cell_later hbz x4
  have y5 := cell_later (hbz.alloc (by simp) (.cells #[.int .i64 0, .int .i64 0, .int .i64 0, .int .i64 0, .int .i64 0, .int .i64 0] 93)) x4
  clear h hlen hcell hx hy
  generalize numI l a 4 = v0 at *
  generalize numI l (a + 6) 2 = v1 at *
  generalize numI l (a + 8) 8 = v2 at *
  generalize numI l (a + 16) 8 = v3 at *
  have HT := Lib.hid hT
  have HS := Lib.hid hS
  clear hT hS
  go_enter Tryz.func60, Tryz.ntmps60
  go_upto_region 3 with fail
  go_cut [6] (fun s6 wx => s6 = .pointer (some ⟨w.heap.size + 1, 0, none⟩) ∧ wx = ((w.alloc (.cells #[.int .i64 0, .int .i64 0, .int .i64 0, .int .i64 0, .int .i64 0, .int .i64 0] 93)).alloc (.cells #[.int .i64 v0, .int .i64 ((x.toNat : Int) / 16), .int .i64 ((x.toNat : Int) % 16), .int .i64 v1, .int .i64 v2, .int .i64 v3] 93)).drew)
  case first =>
    go_region_held3 (fun W => W.cell? ⟨b, off + (a + 4), none⟩ = some (.int .u8 (x.toNat : Int))) (first | go_keep | exact y4 | exact y5 | fail)
      ((first
        | (go_at_call 102
           (with_reducible refine (N0.out _ ?_).mono ?_)
           · first | exact hbz.drew | exact (hbz.alloc (by simp) _).drew
           rintro e w' ⟨rfl, rfl⟩)
        | (go_at_call 102
           (with_reducible refine (N6.out _ ?_).mono ?_)
           · first | exact hbz.drew | exact (hbz.alloc (by simp) _).drew
           rintro e w' ⟨rfl, rfl⟩)
        | (go_at_call 102
           (with_reducible refine (N8.out _ ?_).mono ?_)
           · first | exact hbz.drew | exact (hbz.alloc (by simp) _).drew
           rintro e w' ⟨rfl, rfl⟩)
        | (go_at_call 102
           (with_reducible refine (N16.out _ ?_).mono ?_)
           · first | exact hbz.drew | exact (hbz.alloc (by simp) _).drew
           rintro e w' ⟨rfl, rfl⟩)
        | fail))
    all_goals
      go_wp2_with fail
      go_meet
      exact ⟨rfl, rfl⟩
  case rest =>
    obtain ⟨rfl, rfl⟩ := hcut
    have hb2 : Below w.heap.size w ((w.alloc (.cells #[.int .i64 0, .int .i64 0, .int .i64 0, .int .i64 0, .int .i64 0, .int .i64 0] 93)).alloc (.cells #[.int .i64 v0, .int .i64 ((x.toNat : Int) / 16), .int .i64 ((x.toNat : Int) % 16), .int .i64 v1, .int .i64 v2, .int .i64 v3] 93)).drew := (hbz.alloc (by simp) _).drew
    have y6 := cell_later hb2 x5
    have k50 : (0 : Int) ≤ (a : Int) + 5 := by omega
    have k51 : (a : Int) + 5 < (len : Int) := by omega
    have k52 : ((a : Int) + 5).toNat = a + 5 := by omega
    have k53 : a + 5 < len := by omega
    go_wp2_with fail
    by_cases hm : (Six.mk v0 ((x.toNat : Int) / 16) ((x.toNat : Int) % 16) v1 v2 v3).may
    · refine (mayE_yes ⟨v0, ((x.toNat : Int) / 16), ((x.toNat : Int) % 16), v1, v2, v3⟩ _ hm).mono ?_
      rintro e w3 ⟨rfl, hbb⟩
      have c0 : w3.cell? ⟨w.heap.size, 0, none⟩ = some (.int .i64 0) := by rw [hbb.cell (by simp <;> omega)]; simp
      have d0 : w3.cell? ⟨w.heap.size + 1, 0, none⟩ = some (.int .i64 v0) := by rw [hbb.cell (by simp <;> omega)]; simp
      have f0 : w3.frozen? ⟨w.heap.size, 0, none⟩ = false := by rw [hbb.frozen (by simp <;> omega)]; simp
      have c1 : w3.cell? ⟨w.heap.size, 1, none⟩ = some (.int .i64 0) := by rw [hbb.cell (by simp <;> omega)]; simp
      have d1 : w3.cell? ⟨w.heap.size + 1, 1, none⟩ = some (.int .i64 ((x.toNat : Int) / 16)) := by rw [hbb.cell (by simp <;> omega)]; simp
      have f1 : w3.frozen? ⟨w.heap.size, 1, none⟩ = false := by rw [hbb.frozen (by simp <;> omega)]; simp
      have c2 : w3.cell? ⟨w.heap.size, 2, none⟩ = some (.int .i64 0) := by rw [hbb.cell (by simp <;> omega)]; simp
      have d2 : w3.cell? ⟨w.heap.size + 1, 2, none⟩ = some (.int .i64 ((x.toNat : Int) % 16)) := by rw [hbb.cell (by simp <;> omega)]; simp
      have f2 : w3.frozen? ⟨w.heap.size, 2, none⟩ = false := by rw [hbb.frozen (by simp <;> omega)]; simp
      have c3 : w3.cell? ⟨w.heap.size, 3, none⟩ = some (.int .i64 0) := by rw [hbb.cell (by simp <;> omega)]; simp
      have d3 : w3.cell? ⟨w.heap.size + 1, 3, none⟩ = some (.int .i64 v1) := by rw [hbb.cell (by simp <;> omega)]; simp
      have f3 : w3.frozen? ⟨w.heap.size, 3, none⟩ = false := by rw [hbb.frozen (by simp <;> omega)]; simp
      have c4 : w3.cell? ⟨w.heap.size, 4, none⟩ = some (.int .i64 0) := by rw [hbb.cell (by simp <;> omega)]; simp
      have d4 : w3.cell? ⟨w.heap.size + 1, 4, none⟩ = some (.int .i64 v2) := by rw [hbb.cell (by simp <;> omega)]; simp
      have f4 : w3.frozen? ⟨w.heap.size, 4, none⟩ = false := by rw [hbb.frozen (by simp <;> omega)]; simp
      have c5 : w3.cell? ⟨w.heap.size, 5, none⟩ = some (.int .i64 0) := by rw [hbb.cell (by simp <;> omega)]; simp
      have d5 : w3.cell? ⟨w.heap.size + 1, 5, none⟩ = some (.int .i64 v3) := by rw [hbb.cell (by simp <;> omega)]; simp
      have f5 : w3.frozen? ⟨w.heap.size, 5, none⟩ = false := by rw [hbb.frozen (by simp <;> omega)]; simp
      have z5 := cell_later hbb y6
      have hb3 : Below w.heap.size w w3 := hb2.trans (hbb.mono (by simp <;> omega))
      clear hbb
      by_cases hy0 : y = 0
      · have HO : Hid (symV (symAt l a) = (Six.v ⟨v0, ((x.toNat : Int) / 16), ((x.toNat : Int) % 16), v1, v2, v3⟩, true)) := Lib.hid (by rw [HS.out, HT.out, if_pos ⟨hm, hy0⟩]; rfl)
        subst hy0
        clear hm hb2 hbz
        go_wp2_with fail
        rw [HO.out]
        exact bodyPost_ret (v := .tuple #[Six.v ⟨v0, ((x.toNat : Int) / 16), ((x.toNat : Int) % 16), v1, v2, v3⟩, .bool true]) (by simp [results, Tryz.results60, go_sem, c0, c1, c2, c3, c4, c5]) rfl ⟨rfl, ((((((hb3.setCell (Nat.le_refl _) _).setCell (Nat.le_refl _) _).setCell (Nat.le_refl _) _).setCell (Nat.le_refl _) _).setCell (Nat.le_refl _) _).setCell (Nat.le_refl _) _)⟩
      · have HO : Hid (symV (symAt l a) = (six0.v, false)) := Lib.hid (by rw [HS.out, HT.out, if_neg fun hc => hy0 hc.2]; rfl)
        have hyn : ((y.toNat : Int) != 0) = true := by
          have : y.toNat ≠ 0 := fun h => hy0 (UInt8.toNat_inj.1 h)
          simp
          omega
        clear hm hb2 hbz hy0
        go_wp2_with fail
        rw [HO.out]
        exact bodyPost_ret (v := .tuple #[six0.v, .bool false]) (by simp [results, Tryz.results60, go_sem, six0, c0, c1, c2, c3, c4, c5]) rfl ⟨rfl, ((((((hb3.setCell (Nat.le_refl _) _).setCell (Nat.le_refl _) _).setCell (Nat.le_refl _) _).setCell (Nat.le_refl _) _).setCell (Nat.le_refl _) _).setCell (Nat.le_refl _) _)⟩
    · have HO : Hid (symV (symAt l a) = (six0.v, false)) := Lib.hid (by rw [HS.out, HT.out, if_neg fun hc => hm hc.1]; rfl)
      refine (mayE_no ⟨v0, ((x.toNat : Int) / 16), ((x.toNat : Int) % 16), v1, v2, v3⟩ _ hm).mono ?_
      rintro e w3 ⟨rfl, hbb⟩
      have c0 : w3.cell? ⟨w.heap.size, 0, none⟩ = some (.int .i64 0) := by rw [hbb.cell (by simp <;> omega)]; simp
      have d0 : w3.cell? ⟨w.heap.size + 1, 0, none⟩ = some (.int .i64 v0) := by rw [hbb.cell (by simp <;> omega)]; simp
      have f0 : w3.frozen? ⟨w.heap.size, 0, none⟩ = false := by rw [hbb.frozen (by simp <;> omega)]; simp
      have c1 : w3.cell? ⟨w.heap.size, 1, none⟩ = some (.int .i64 0) := by rw [hbb.cell (by simp <;> omega)]; simp
      have d1 : w3.cell? ⟨w.heap.size + 1, 1, none⟩ = some (.int .i64 ((x.toNat : Int) / 16)) := by rw [hbb.cell (by simp <;> omega)]; simp
      have f1 : w3.frozen? ⟨w.heap.size, 1, none⟩ = false := by rw [hbb.frozen (by simp <;> omega)]; simp
      have c2 : w3.cell? ⟨w.heap.size, 2, none⟩ = some (.int .i64 0) := by rw [hbb.cell (by simp <;> omega)]; simp
      have d2 : w3.cell? ⟨w.heap.size + 1, 2, none⟩ = some (.int .i64 ((x.toNat : Int) % 16)) := by rw [hbb.cell (by simp <;> omega)]; simp
      have f2 : w3.frozen? ⟨w.heap.size, 2, none⟩ = false := by rw [hbb.frozen (by simp <;> omega)]; simp
      have c3 : w3.cell? ⟨w.heap.size, 3, none⟩ = some (.int .i64 0) := by rw [hbb.cell (by simp <;> omega)]; simp
      have d3 : w3.cell? ⟨w.heap.size + 1, 3, none⟩ = some (.int .i64 v1) := by rw [hbb.cell (by simp <;> omega)]; simp
      have f3 : w3.frozen? ⟨w.heap.size, 3, none⟩ = false := by rw [hbb.frozen (by simp <;> omega)]; simp
      have c4 : w3.cell? ⟨w.heap.size, 4, none⟩ = some (.int .i64 0) := by rw [hbb.cell (by simp <;> omega)]; simp
      have d4 : w3.cell? ⟨w.heap.size + 1, 4, none⟩ = some (.int .i64 v2) := by rw [hbb.cell (by simp <;> omega)]; simp
      have f4 : w3.frozen? ⟨w.heap.size, 4, none⟩ = false := by rw [hbb.frozen (by simp <;> omega)]; simp
      have c5 : w3.cell? ⟨w.heap.size, 5, none⟩ = some (.int .i64 0) := by rw [hbb.cell (by simp <;> omega)]; simp
      have d5 : w3.cell? ⟨w.heap.size + 1, 5, none⟩ = some (.int .i64 v3) := by rw [hbb.cell (by simp <;> omega)]; simp
      have f5 : w3.frozen? ⟨w.heap.size, 5, none⟩ = false := by rw [hbb.frozen (by simp <;> omega)]; simp
      have z5 := cell_later hbb y6
      have hb3 : Below w.heap.size w w3 := hb2.trans (hbb.mono (by simp <;> omega))
      clear hbb
      clear hm hb2 hbz
      go_wp2_with fail
      rw [HO.out]
      exact bodyPost_ret (v := .tuple #[six0.v, .bool false]) (by simp [results, Tryz.results60, go_sem, six0, c0, c1, c2, c3, c4, c5]) rfl ⟨rfl, ((((((hb3.setCell (Nat.le_refl _) _).setCell (Nat.le_refl _) _).setCell (Nat.le_refl _) _).setCell (Nat.le_refl _) _).setCell (Nat.le_refl _) _).setCell (Nat.le_refl _) _)⟩

end Go.Proofs.YtenmcmnhiejbgaaGreat
