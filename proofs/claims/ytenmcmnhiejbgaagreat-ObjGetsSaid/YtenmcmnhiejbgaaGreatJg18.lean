/-
  Contract: the reference's Rel.
-/
import Derived.Test.YtenmcmnhiejbgaaGreatJg03
import Derived.Deep.RegionHeld3
import Derived.Deep.DeepCutAuto
namespace Go.Proofs.YtenmcmnhiejbgaaGreat
open Go.RowKit

/-- The numbers of the relocation at at. -/
def fouAt (l : List UInt8) (o : Nat) : Fou := ⟨numI l o 8, numI l (o + 8) 4, numI l (o + 12) 4, IntKind.i64.wrap (num (win l (o + 16) 8) : Int)⟩
def fou0 : Fou := ⟨0, 0, 0, 0⟩
/-- What Rel tells. -/
def relAt (l : List UInt8) (at_ : Int) : Option Fou := if 0 ≤ at_ ∧ at_ + 24 ≤ l.length ∧ (fouAt l at_.toNat).may then some (fouAt l at_.toNat) else none
def relV (o : Option Fou) : Value × Bool := match o with | some t => (t.v, true) | none => (fou0.v, false)

theorem rel_out (p : Option Addr) (len cap : Nat) (at_ : Int) (w : World) (h : at_ < 0 ∨ (len : Int) < at_ + 24) (hb0 : at_ ≤ 9223372036854775807) (_hbig : len ≤ 1000000000) :
    Calls Tryz.prog 61 #[.slice p len cap, .int .i64 at_] w fun e w' => e = .returned (.tuple #[fou0.v, .bool false]) ∧ Below w.heap.size w w' := by
  by_cases h0 : at_ < 0
  · clear h
    go_enter Tryz.func61, Tryz.ntmps61
    go_wp2_with fail
    exact bodyPost_ret (v := .tuple #[fou0.v, .bool false]) (by simp [results, Tryz.results61, go_sem, fou0]) rfl ⟨rfl, (Below.refl _ w).alloc (Nat.le_refl _) _⟩
  by_cases h1 : (len : Int) < at_
  · clear h
    go_enter Tryz.func61, Tryz.ntmps61
    go_wp2_with fail
    exact bodyPost_ret (v := .tuple #[fou0.v, .bool false]) (by simp [results, Tryz.results61, go_sem, fou0]) rfl ⟨rfl, (Below.refl _ w).alloc (Nat.le_refl _) _⟩
  have h2 : (len : Int) - at_ < 24 := by omega
  clear h
  go_enter Tryz.func61, Tryz.ntmps61
  go_wp2_with fail
  exact bodyPost_ret (v := .tuple #[fou0.v, .bool false]) (by simp [results, Tryz.results61, go_sem, fou0]) rfl ⟨rfl, (Below.refl _ w).alloc (Nat.le_refl _) _⟩

set_option maxRecDepth 100000 in
set_option maxHeartbeats 4000000 in
theorem rel_in (p : Option Addr) (len cap a : Nat) (l : List UInt8) (w : World) (h : Has w p l) (hlen : l.length = len) (hcap : len ≤ cap) (hin : a + 24 ≤ len) (hbig : len ≤ 1000000000) :
    Calls Tryz.prog 61 #[.slice p len cap, .int .i64 a] w fun e w' => e = .returned (.tuple #[(relV (relAt l a)).1, .bool (relV (relAt l a)).2]) ∧ Below w.heap.size w w' := by
  have N0 : Hid (∀ W, Below w.heap.size w W → Calls Tryz.prog 102 #[.slice p len cap, .int .i64 (a : Int), .int .i64 8] W fun e w' => e = .returned (.int .i64 (numI l a 8)) ∧ W = w') := Lib.hid fun W hb => by
    have := rnum_any p len cap l a 8 W (h.below hb) hlen hcap (by omega) (by omega) (by omega) hbig
    exact this
  have N8 : Hid (∀ W, Below w.heap.size w W → Calls Tryz.prog 102 #[.slice p len cap, .int .i64 ((a : Int) + 8), .int .i64 4] W fun e w' => e = .returned (.int .i64 (numI l (a + 8) 4)) ∧ W = w') := Lib.hid fun W hb => by
    have := rnum_any p len cap l (a + 8) 4 W (h.below hb) hlen hcap (by omega) (by omega) (by omega) hbig
    rw [show ((a + 8 : Nat) : Int) = (a : Int) + 8 by omega] at this
    exact this
  have N12 : Hid (∀ W, Below w.heap.size w W → Calls Tryz.prog 102 #[.slice p len cap, .int .i64 ((a : Int) + 12), .int .i64 4] W fun e w' => e = .returned (.int .i64 (numI l (a + 12) 4)) ∧ W = w') := Lib.hid fun W hb => by
    have := rnum_any p len cap l (a + 12) 4 W (h.below hb) hlen hcap (by omega) (by omega) (by omega) hbig
    rw [show ((a + 12 : Nat) : Int) = (a : Int) + 12 by omega] at this
    exact this
  have hbz : Below w.heap.size w (w.alloc (.cells #[.int .i64 0, .int .i64 0, .int .i64 0, .int .i64 0] 89)) := (Below.refl _ w).alloc (Nat.le_refl _) _
  have hT : fouAt l a = ⟨numI l a 8, numI l (a + 8) 4, numI l (a + 12) 4, IntKind.i64.wrap (num (win l (a + 16) 8) : Int)⟩ := rfl
  have hS : relAt l a = if (fouAt l a).may then some (fouAt l a) else none := by
    unfold relAt
    have e : ((a : Int)).toNat = a := rfl
    rw [e]
    by_cases hm : (fouAt l a).may
    · rw [if_pos hm, if_pos ⟨by omega, by omega, hm⟩]
    · rw [if_neg hm, if_neg fun hc => hm hc.2.2]
  obtain ⟨b, off, rfl, _⟩ := h.plain (by omega)
  have w1 := win_length l (a + 16) 8 (by omega)
  have NN := Lib.hid fun (c : Nat) (W : World) (hb : Below w.heap.size w W) => num_any _ c _ W ((has_win h (a + 16) 8 (by omega)).below hb) (by omega) 8 w1
  have hI0 : ¬ (a : Int) < 0 := by omega
  have hI1 : ¬ (len : Int) < (a : Int) := by omega
  have hI2 : ¬ (len : Int) - (a : Int) < 24 := by omega
  have ha9 : a ≤ 1000000000 := by omega
  have k8 : IntKind.i64.wrap ((a : Int) + 8) = (a : Int) + 8 := IntWalk.i64_in _ (by omega)
  have k12 : IntKind.i64.wrap ((a : Int) + 12) = (a : Int) + 12 := IntWalk.i64_in _ (by omega)
  have k16 : IntKind.i64.wrap ((a : Int) + 16) = (a : Int) + 16 := IntWalk.i64_in _ (by omega)
  have k24 : IntKind.i64.wrap ((a : Int) + 24) = (a : Int) + 24 := IntWalk.i64_in _ (by omega)
  have q0 : (0 : Int) ≤ (a : Int) + 16 := by omega
  have q1 : (a : Int) + 16 ≤ (a : Int) + 24 := by omega
  have q2 : (a : Int) + 24 ≤ (cap : Int) := by omega
  have q3 : ((a : Int) + 16).toNat = a + 16 := by omega
  have q4 : ((a : Int) + 24).toNat = a + 24 := by omega
  have q5 : a + 24 - (a + 16) = 8 := by omega
  have q6 : ¬ cap = a + 16 := by omega
  clear h hlen w1
  generalize numI l a 8 = v0 at *
  generalize numI l (a + 8) 4 = v1 at *
  generalize numI l (a + 12) 4 = v2 at *
  generalize num (win l (a + 16) 8) = nn at *
  obtain ⟨v3, hv3⟩ : ∃ v3, v3 = IntKind.i64.wrap (nn : Int) := ⟨_, rfl⟩
  have HV3 := Lib.hid hv3
  rw [← hv3] at hT
  have HT := Lib.hid hT
  have HS := Lib.hid hS
  clear hT hS hv3
  go_enter Tryz.func61, Tryz.ntmps61
  go_upto_region 3 with fail
  go_cut [6] (fun s6 wx => s6 = .pointer (some ⟨w.heap.size + 1, 0, none⟩) ∧ wx = ((w.alloc (.cells #[.int .i64 0, .int .i64 0, .int .i64 0, .int .i64 0] 89)).alloc (.cells #[.int .i64 v0, .int .i64 v1, .int .i64 v2, .int .i64 v3] 89)).drew)
  case first =>
    go_region_held (fun _ => True) (trivial)
      ((first
      | (go_at_call 102
         (with_reducible refine (N0.out _ ?_).mono ?_)
         · first | exact hbz.drew | exact (hbz.alloc (by simp) _).drew
         rintro e w' ⟨rfl, rfl⟩)
      | (go_at_call 102
         (with_reducible refine (N8.out _ ?_).mono ?_)
         · first | exact hbz.drew | exact (hbz.alloc (by simp) _).drew
         rintro e w' ⟨rfl, rfl⟩)
      | (go_at_call 102
         (with_reducible refine (N12.out _ ?_).mono ?_)
         · first | exact hbz.drew | exact (hbz.alloc (by simp) _).drew
         rintro e w' ⟨rfl, rfl⟩)
      | (go_at_call 62
         refine (NN.out _ _ ?_).mono ?_
         · first | exact hbz.drew | exact (hbz.alloc (by simp) _).drew
         rintro e w' ⟨rfl, rfl⟩)
      | fail))
    all_goals
      go_wp2_with fail
      go_meet
      rw [HV3.out]
      exact ⟨rfl, rfl⟩
  case rest =>
    obtain ⟨rfl, rfl⟩ := hcut
    have hb2 : Below w.heap.size w ((w.alloc (.cells #[.int .i64 0, .int .i64 0, .int .i64 0, .int .i64 0] 89)).alloc (.cells #[.int .i64 v0, .int .i64 v1, .int .i64 v2, .int .i64 v3] 89)).drew := (hbz.alloc (by simp) _).drew
    go_wp2_with fail
    by_cases hm : (Fou.mk v0 v1 v2 v3).may
    · have HO : Hid (relV (relAt l a) = (Fou.v ⟨v0, v1, v2, v3⟩, true)) := Lib.hid (by rw [HS.out, HT.out, if_pos hm]; rfl)
      refine (mayR_yes ⟨v0, v1, v2, v3⟩ _ hm).mono ?_
      rintro e w3 ⟨rfl, hbb⟩
      have c0 : w3.cell? ⟨w.heap.size, 0, none⟩ = some (.int .i64 0) := by rw [hbb.cell (by simp <;> omega)]; simp
      have d0 : w3.cell? ⟨w.heap.size + 1, 0, none⟩ = some (.int .i64 v0) := by rw [hbb.cell (by simp <;> omega)]; simp
      have f0 : w3.frozen? ⟨w.heap.size, 0, none⟩ = false := by rw [hbb.frozen (by simp <;> omega)]; simp
      have c1 : w3.cell? ⟨w.heap.size, 1, none⟩ = some (.int .i64 0) := by rw [hbb.cell (by simp <;> omega)]; simp
      have d1 : w3.cell? ⟨w.heap.size + 1, 1, none⟩ = some (.int .i64 v1) := by rw [hbb.cell (by simp <;> omega)]; simp
      have f1 : w3.frozen? ⟨w.heap.size, 1, none⟩ = false := by rw [hbb.frozen (by simp <;> omega)]; simp
      have c2 : w3.cell? ⟨w.heap.size, 2, none⟩ = some (.int .i64 0) := by rw [hbb.cell (by simp <;> omega)]; simp
      have d2 : w3.cell? ⟨w.heap.size + 1, 2, none⟩ = some (.int .i64 v2) := by rw [hbb.cell (by simp <;> omega)]; simp
      have f2 : w3.frozen? ⟨w.heap.size, 2, none⟩ = false := by rw [hbb.frozen (by simp <;> omega)]; simp
      have c3 : w3.cell? ⟨w.heap.size, 3, none⟩ = some (.int .i64 0) := by rw [hbb.cell (by simp <;> omega)]; simp
      have d3 : w3.cell? ⟨w.heap.size + 1, 3, none⟩ = some (.int .i64 v3) := by rw [hbb.cell (by simp <;> omega)]; simp
      have f3 : w3.frozen? ⟨w.heap.size, 3, none⟩ = false := by rw [hbb.frozen (by simp <;> omega)]; simp
      have hb3 : Below w.heap.size w w3 := hb2.trans (hbb.mono (by simp <;> omega))
      clear hbb
      clear hm hb2 hbz
      go_wp2_with fail
      rw [HO.out]
      exact bodyPost_ret (v := .tuple #[Fou.v ⟨v0, v1, v2, v3⟩, .bool true]) (by simp [results, Tryz.results61, go_sem, c0, c1, c2, c3]) rfl ⟨rfl, ((((hb3.setCell (Nat.le_refl _) _).setCell (Nat.le_refl _) _).setCell (Nat.le_refl _) _).setCell (Nat.le_refl _) _)⟩
    · have HO : Hid (relV (relAt l a) = (fou0.v, false)) := Lib.hid (by rw [HS.out, HT.out, if_neg hm]; rfl)
      refine (mayR_no ⟨v0, v1, v2, v3⟩ _ hm).mono ?_
      rintro e w3 ⟨rfl, hbb⟩
      have c0 : w3.cell? ⟨w.heap.size, 0, none⟩ = some (.int .i64 0) := by rw [hbb.cell (by simp <;> omega)]; simp
      have d0 : w3.cell? ⟨w.heap.size + 1, 0, none⟩ = some (.int .i64 v0) := by rw [hbb.cell (by simp <;> omega)]; simp
      have f0 : w3.frozen? ⟨w.heap.size, 0, none⟩ = false := by rw [hbb.frozen (by simp <;> omega)]; simp
      have c1 : w3.cell? ⟨w.heap.size, 1, none⟩ = some (.int .i64 0) := by rw [hbb.cell (by simp <;> omega)]; simp
      have d1 : w3.cell? ⟨w.heap.size + 1, 1, none⟩ = some (.int .i64 v1) := by rw [hbb.cell (by simp <;> omega)]; simp
      have f1 : w3.frozen? ⟨w.heap.size, 1, none⟩ = false := by rw [hbb.frozen (by simp <;> omega)]; simp
      have c2 : w3.cell? ⟨w.heap.size, 2, none⟩ = some (.int .i64 0) := by rw [hbb.cell (by simp <;> omega)]; simp
      have d2 : w3.cell? ⟨w.heap.size + 1, 2, none⟩ = some (.int .i64 v2) := by rw [hbb.cell (by simp <;> omega)]; simp
      have f2 : w3.frozen? ⟨w.heap.size, 2, none⟩ = false := by rw [hbb.frozen (by simp <;> omega)]; simp
      have c3 : w3.cell? ⟨w.heap.size, 3, none⟩ = some (.int .i64 0) := by rw [hbb.cell (by simp <;> omega)]; simp
      have d3 : w3.cell? ⟨w.heap.size + 1, 3, none⟩ = some (.int .i64 v3) := by rw [hbb.cell (by simp <;> omega)]; simp
      have f3 : w3.frozen? ⟨w.heap.size, 3, none⟩ = false := by rw [hbb.frozen (by simp <;> omega)]; simp
      have hb3 : Below w.heap.size w w3 := hb2.trans (hbb.mono (by simp <;> omega))
      clear hbb
      clear hm hb2 hbz
      go_wp2_with fail
      rw [HO.out]
      exact bodyPost_ret (v := .tuple #[fou0.v, .bool false]) (by simp [results, Tryz.results61, go_sem, fou0, c0, c1, c2, c3]) rfl ⟨rfl, ((((hb3.setCell (Nat.le_refl _) _).setCell (Nat.le_refl _) _).setCell (Nat.le_refl _) _).setCell (Nat.le_refl _) _)⟩

end Go.Proofs.YtenmcmnhiejbgaaGreat
