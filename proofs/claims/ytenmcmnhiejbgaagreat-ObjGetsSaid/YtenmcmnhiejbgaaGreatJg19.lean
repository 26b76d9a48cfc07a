/-
  What is got of a relocation's bytes is what was put: relAt and relB. Nothing here walks the program.
  What the walks of layer rela ask of the project's Width, Get and Put.
  Contracts of the project's rela: Width, isPlace, may, number, Put.
  Contract of the project's rela.Get.
  What the project's readRels and readGroup tell; a row of which one cell is written; a region that draws its order and whose calls make memory. Nothing here walks the program.
-/
import Derived.Test.YtenmcmnhiejbgaaGreatJg18
import Derived.Test.YtenmcmnhiejbgaaGreatJg02
import Derived.Test.YtenmcmnhiejbgaaGreatJg14
import Derived.Deep.RegionHeld3
import Derived.Test.YtenmcmnhiejbgaaGreatJg11
import Derived.BigQuiet
namespace Go.Proofs.YtenmcmnhiejbgaaGreat
open Go.RowKit

theorem wrap_u64n (v : Int) (h : -9223372036854775808 ≤ v ∧ v ≤ 9223372036854775807) : IntKind.i64.wrap (u64n v : Int) = v := by
  have e : IntKind.i64.wrap (u64n v : Int) = ((u64n v : Int) + 9223372036854775808) % 18446744073709551616 - 9223372036854775808 := by
    simp only [IntKind.wrap, IntKind.signed, IntKind.bits]
    simp
    split <;> omega
  rw [e]
  unfold u64n
  omega
theorem u64n_wrap (n : Nat) (h : n < 18446744073709551616) : u64n (IntKind.i64.wrap (n : Int)) = n := by
  have e : IntKind.i64.wrap (n : Int) = ((n : Int) + 9223372036854775808) % 18446744073709551616 - 9223372036854775808 := by
    simp only [IntKind.wrap, IntKind.signed, IntKind.bits]
    simp
    split <;> omega
  rw [e]
  unfold u64n
  omega
theorem wrap_bd (v : Int) : -9223372036854775808 ≤ IntKind.i64.wrap v ∧ IntKind.i64.wrap v ≤ 9223372036854775807 := by
  have e : IntKind.i64.wrap v = (v + 9223372036854775808) % 18446744073709551616 - 9223372036854775808 := by
    simp only [IntKind.wrap, IntKind.signed, IntKind.bits]
    simp
    split <;> omega
  rw [e]
  omega

/-- What is added is an int. -/
def Fou.bd (t : Fou) : Prop := -9223372036854775808 ≤ t.d ∧ t.d ≤ 9223372036854775807
instance (t : Fou) : Decidable t.bd := by unfold Fou.bd; infer_instance

theorem relAt_iff (l : List UInt8) (a : Nat) (t : Fou) : relAt l a = some t ↔ t.may ∧ t.bd ∧ a + 24 ≤ l.length ∧ relB t = win l a 24 := by
  constructor
  · intro h
    unfold relAt at h
    split at h
    · rename_i hc
      obtain ⟨_, h1, h2⟩ := hc
      have ht : fouAt l a = t := by simpa using h
      have h2' : (fouAt l a).may := h2
      have h3 : a + 24 ≤ l.length := by omega
      obtain ⟨f0, f2, f1⟩ := h2'
      simp only [fouAt] at f0 f1 f2
      have g1 := widthI_pos f1
      have f1' : fitsB (numI l (a + 8) 4) = true := (fitsB_iff _).2 (by omega)
      refine ⟨ht ▸ h2, by rw [← ht]; exact wrap_bd _, h3, ?_⟩
      rw [← ht]
      have e : relB (fouAt l a) = leB 8 (u64n (numI l a 8)) ++ (leB 4 (u64n (numI l (a + 8) 4)) ++ (leB 4 (u64n (numI l (a + 12) 4)) ++ (leB 8 (u64n (IntKind.i64.wrap (num (win l (a + 16) 8) : Int))) ++ []))) := rfl
      have w8 := win_length l (a + 16) 8 (by omega)
      have hl := leB_num (win l (a + 16) 8)
      rw [w8] at hl
      rw [e, leB_win (by omega) f0, leB_win (by omega) f1', leB_win (by omega) f2, u64n_wrap _ (num_lt64 _ (by omega)), hl, List.append_nil]
      rw [win_append l (a + 12) 4 8, win_append l (a + 8) 4 12, win_append l a 8 16]
    · cases h
  · rintro ⟨hm, hd, hl, hb⟩
    have hm' := hm
    obtain ⟨f0, f2, f1⟩ := hm'
    have g1 := widthI_pos f1
    have f1' : fitsB t.b = true := (fitsB_iff _).2 (by omega)
    have g0 := numI_of (l := l) (a := a) f0 (k := 8) (by decide) (by rw [show a = a + 0 from rfl, ← win_win l a 24 0 8 (by omega), ← hb]; rfl)
    have g2 := numI_of (l := l) (a := a + 8) f1' (k := 4) (by decide) (by rw [← win_win l a 24 8 4 (by omega), ← hb]; rfl)
    have g3 := numI_of (l := l) (a := a + 12) f2 (k := 4) (by decide) (by rw [← win_win l a 24 12 4 (by omega), ← hb]; rfl)
    have w4 : win l (a + 16) 8 = leB 8 (u64n t.d) := by rw [← win_win l a 24 16 8 (by omega), ← hb]; rfl
    have hn : num (win l (a + 16) 8) = u64n t.d := by
      have := u64n_lt t.d
      rw [w4, num_leB, Nat.mod_eq_of_lt (by have e : (256 : Nat) ^ 8 = 18446744073709551616 := by decide
                                            omega)]
    have ht : fouAt l a = t := by
      unfold fouAt
      rw [g0, g2, g3, hn, wrap_u64n _ hd]
    unfold relAt
    have e : ((a : Int)).toNat = a := rfl
    rw [e, ht, if_pos ⟨by omega, by omega, hm⟩]

end Go.Proofs.YtenmcmnhiejbgaaGreat

namespace Go.Proofs.YtenmcmnhiejbgaaGreat
open Go.RowKit

/-- What Get tells, of any place. -/
def ZGetOK : Prop := ∀ (p : Option Addr) (len cap : Nat) (l : List UInt8) (at_ : Int) (w : World), Has w p l → l.length = len → len ≤ cap → cap ≤ maxLen → len ≤ 100000 → -9223372036854775808 ≤ at_ → at_ ≤ 9223372036854775807 →
    Calls Tryz.prog 91 #[.slice p len cap, .int .i64 at_] w fun e w' => e = .returned (.tuple #[(relV (relAt l at_)).1, .bool (relV (relAt l at_)).2]) ∧ Below w.heap.size w w'
/-- What Put tells. -/
def ZPutOK : Prop := ∀ (t : Fou) (w : World), t.bd → (t.may → Calls Tryz.prog 112 #[t.v] w (Gives (relB t) w)) ∧ (¬ t.may → Calls Tryz.prog 112 #[t.v] w (GivesH 0 [] w))

theorem rel_any (p : Option Addr) (len cap : Nat) (l : List UInt8) (at_ : Int) (w : World) (h : Has w p l) (hlen : l.length = len) (hcap : len ≤ cap) (hbig : len ≤ 1000000000) (ha : at_ ≤ 9223372036854775807) :
    Calls Tryz.prog 61 #[.slice p len cap, .int .i64 at_] w fun e w' => e = .returned (.tuple #[(relV (relAt l at_)).1, .bool (relV (relAt l at_)).2]) ∧ Below w.heap.size w w' := by
  by_cases hin : 0 ≤ at_ ∧ at_ + 24 ≤ len
  · obtain ⟨a, rfl⟩ := Int.eq_ofNat_of_zero_le hin.1
    exact rel_in p len cap a l w h hlen hcap (by omega) hbig
  · have e : relAt l at_ = none := by
      unfold relAt
      rw [if_neg fun hc => hin ⟨hc.1, by omega⟩]
    rw [e]
    exact rel_out p len cap at_ w (by omega) ha hbig

end Go.Proofs.YtenmcmnhiejbgaaGreat

namespace Go.Proofs.YtenmcmnhiejbgaaGreat
open Go.RowKit

set_option maxRecDepth 100000 in
theorem zwid_any (n : Int) (w : World) : Calls Tryz.prog 128 #[.int .i64 n] w fun e w' => e = .returned (.int .i64 (widthI n)) ∧ w = w' := by
  by_cases h1 : n = 1
  · subst h1
    go_enter Tryz.func128, Tryz.ntmps128
    go_wp2
    go_ret
    exact ⟨rfl, rfl⟩
  by_cases h2 : n = 2
  · subst h2
    go_enter Tryz.func128, Tryz.ntmps128
    go_wp2
    go_ret
    exact ⟨rfl, rfl⟩
  by_cases h4 : n = 4
  · subst h4
    go_enter Tryz.func128, Tryz.ntmps128
    go_wp2
    go_ret
    exact ⟨rfl, rfl⟩
  by_cases h10 : n = 10
  · subst h10
    go_enter Tryz.func128, Tryz.ntmps128
    go_wp2
    go_ret
    exact ⟨rfl, rfl⟩
  by_cases h11 : n = 11
  · subst h11
    go_enter Tryz.func128, Tryz.ntmps128
    go_wp2
    go_ret
    exact ⟨rfl, rfl⟩
  have HW : Hid (widthI n = 0) := Lib.hid (by simp [widthI, h1, h2, h4, h10, h11])
  have e1 : (n == 1) = false := by simpa using h1
  have e2 : (n == 2) = false := by simpa using h2
  have e4 : (n == 4) = false := by simpa using h4
  have e10 : (n == 10) = false := by simpa using h10
  have e11 : (n == 11) = false := by simpa using h11
  clear h1 h2 h4 h10 h11
  go_enter Tryz.func128, Tryz.ntmps128
  go_wp2
  go_ret
  rw [HW.out]
  exact ⟨rfl, rfl⟩

set_option maxRecDepth 100000 in
theorem place_any (n : Int) (w : World) : Calls Tryz.prog 134 #[.int .i64 n] w fun e w' => e = .returned (.bool (fitsB n)) ∧ w = w' := by
  by_cases h0 : 0 ≤ n
  · by_cases h1 : n ≤ 2147483647
    · have H : Hid (fitsB n = true) := Lib.hid ((fitsB_iff n).2 ⟨h0, h1⟩)
      go_enter Tryz.func134, Tryz.ntmps134
      go_wp2_with fail
      go_ret
      exact ⟨ret_b H.out.symm, rfl⟩
    · have H : Hid (fitsB n = false) := Lib.hid (by simp [fitsB, h1])
      go_enter Tryz.func134, Tryz.ntmps134
      go_wp2_with fail
      go_ret
      exact ⟨ret_b H.out.symm, rfl⟩
  · have H : Hid (fitsB n = false) := Lib.hid (by simp [fitsB, h0])
    go_enter Tryz.func134, Tryz.ntmps134
    go_wp2_with fail
    go_ret
    exact ⟨ret_b H.out.symm, rfl⟩

theorem zwidth_cases (n : Int) : widthI n = 0 ∨ widthI n = 4 ∨ widthI n = 8 := by
  unfold widthI
  split
  · omega
  · split <;> omega

set_option maxRecDepth 100000 in
set_option maxHeartbeats 1000000 in
theorem zmay_any (t : Fou) (w : World) : Calls Tryz.prog 122 #[t.v] w fun e w' => e = .returned (.bool (decide t.may)) ∧ Below w.heap.size w w' := by
  have hb := (Below.refl _ w).alloc (Nat.le_refl _) (.cells #[.int .i64 t.a, .int .i64 t.b, .int .i64 t.c, .int .i64 t.d] 89)
  have HA := Lib.hid (place_any t.a)
  have HC := Lib.hid (place_any t.c)
  have HW := Lib.hid (zwid_any t.b)
  cases hA : fitsB t.a with
  | false =>
    have HM : Hid (decide t.may = false) := Lib.hid (decide_eq_false (by unfold Fou.may; rw [hA]; simp))
    rw [hA] at HA
    clear hA HC HW
    go_enter Tryz.func122, Tryz.ntmps122
    go_wp2_with (go_at_call 134; refine (HA.out _).mono ?_; rintro e w' ⟨rfl, rfl⟩)
    go_ret
    exact ⟨ret_b HM.out.symm, hb⟩
  | true =>
    cases hC : fitsB t.c with
    | false =>
      have HM : Hid (decide t.may = false) := Lib.hid (decide_eq_false (by unfold Fou.may; rw [hC]; simp))
      rw [hA] at HA
      rw [hC] at HC
      clear hA hC HW
      go_enter Tryz.func122, Tryz.ntmps122
      go_wp2_with fail
      refine (HA.out _).mono ?_
      rintro e w' ⟨rfl, rfl⟩
      go_wp2_with fail
      refine (HC.out _).mono ?_
      rintro e w' ⟨rfl, rfl⟩
      go_wp2_with fail
      go_ret
      exact ⟨ret_b HM.out.symm, hb⟩
    | true =>
      rw [hA] at HA
      rw [hC] at HC
      rcases zwidth_cases t.b with hW | hW | hW
      · have HM : Hid (decide t.may = false) := Lib.hid (decide_eq_false (by unfold Fou.may; rw [hW]; simp))
        rw [hW] at HW
        clear hA hC hW
        go_enter Tryz.func122, Tryz.ntmps122
        go_wp2_with fail
        refine (HA.out _).mono ?_
        rintro e w' ⟨rfl, rfl⟩
        go_wp2_with fail
        refine (HC.out _).mono ?_
        rintro e w' ⟨rfl, rfl⟩
        go_wp2_with fail
        refine (HW.out _).mono ?_
        rintro e w' ⟨rfl, rfl⟩
        go_wp2_with fail
        go_ret
        exact ⟨ret_b HM.out.symm, hb⟩
      · have HM : Hid (decide t.may = true) := Lib.hid (decide_eq_true ⟨hA, hC, by omega⟩)
        rw [hW] at HW
        clear hA hC hW
        go_enter Tryz.func122, Tryz.ntmps122
        go_wp2_with fail
        refine (HA.out _).mono ?_
        rintro e w' ⟨rfl, rfl⟩
        go_wp2_with fail
        refine (HC.out _).mono ?_
        rintro e w' ⟨rfl, rfl⟩
        go_wp2_with fail
        refine (HW.out _).mono ?_
        rintro e w' ⟨rfl, rfl⟩
        go_wp2_with fail
        go_ret
        exact ⟨ret_b HM.out.symm, hb⟩
      · have HM : Hid (decide t.may = true) := Lib.hid (decide_eq_true ⟨hA, hC, by omega⟩)
        rw [hW] at HW
        clear hA hC hW
        go_enter Tryz.func122, Tryz.ntmps122
        go_wp2_with fail
        refine (HA.out _).mono ?_
        rintro e w' ⟨rfl, rfl⟩
        go_wp2_with fail
        refine (HC.out _).mono ?_
        rintro e w' ⟨rfl, rfl⟩
        go_wp2_with fail
        refine (HW.out _).mono ?_
        rintro e w' ⟨rfl, rfl⟩
        go_wp2_with fail
        go_ret
        exact ⟨ret_b HM.out.symm, hb⟩

set_option maxRecDepth 100000 in
theorem zput_no (t : Fou) (w : World) (h : ¬ t.may) : Calls Tryz.prog 112 #[t.v] w (GivesH 0 [] w) := by
  have HM := Lib.hid fun W => zmay_any t W
  rw [decide_eq_false h] at HM
  clear h
  go_enter Tryz.func112, Tryz.ntmps112
  go_wp2_with fail
  refine (HM.out _).mono ?_
  rintro e w1 ⟨rfl, hb⟩
  have hb1 : Below w.heap.size w w1 := ((Below.refl _ w).alloc (Nat.le_refl _) _).trans (hb.mono (by simp))
  clear hb
  go_wp2_with fail
  go_ret
  exact ⟨none, 0, rfl, rfl, Nat.le_refl _, Nat.zero_le _, Has.none_ _ _, hb1⟩

/-- A literal of four slices. -/
theorem hasBs_four (w : World) (T : TypeId) (b1 o1 n1 c1 b2 o2 n2 c2 b3 o3 n3 c3 b4 o4 n4 c4 : Nat) (l1 l2 l3 l4 : List UInt8)
    (h1 : Hid (Part w b1 o1 n1 c1 l1)) (h2 : Hid (Part w b2 o2 n2 c2 l2)) (h3 : Hid (Part w b3 o3 n3 c3 l3)) (h4 : Hid (Part w b4 o4 n4 c4 l4)) :
    HasBs (w.alloc (.cells #[.slice (some ⟨b1, o1, none⟩) n1 c1, .slice (some ⟨b2, o2, none⟩) n2 c2, .slice (some ⟨b3, o3, none⟩) n3 c3, .slice (some ⟨b4, o4, none⟩) n4 c4] T))
      (some ⟨w.heap.size, 0, none⟩) [l1, l2, l3, l4] := fun i l hl => by
  have hb : Below w.heap.size w (w.alloc (.cells #[.slice (some ⟨b1, o1, none⟩) n1 c1, .slice (some ⟨b2, o2, none⟩) n2 c2, .slice (some ⟨b3, o3, none⟩) n3 c3, .slice (some ⟨b4, o4, none⟩) n4 c4] T)) := (Below.refl _ w).alloc (Nat.le_refl _) _
  have hcell : ∀ v, (#[Value.slice (some ⟨b1, o1, none⟩) n1 c1, .slice (some ⟨b2, o2, none⟩) n2 c2, .slice (some ⟨b3, o3, none⟩) n3 c3, .slice (some ⟨b4, o4, none⟩) n4 c4] : Array Value)[0 + i]? = some v →
      (w.alloc (.cells #[.slice (some ⟨b1, o1, none⟩) n1 c1, .slice (some ⟨b2, o2, none⟩) n2 c2, .slice (some ⟨b3, o3, none⟩) n3 c3, .slice (some ⟨b4, o4, none⟩) n4 c4] T)).cell? ⟨w.heap.size, 0 + i, none⟩ = some v := fun v hv =>
    (cell_of_row _ w.heap.size (0 + i) _ T (0, 0) (heap_alloc_new w _)).trans hv
  match i, hl with
  | 0, hl => cases hl; exact ⟨_, _, _, _, _, rfl, hcell _ rfl, h1.out.1, h1.out.2.1, h1.out.2.2.1, h1.out.2.2.2.below hb, fun e => by cases e⟩
  | 1, hl => cases hl; exact ⟨_, _, _, _, _, rfl, hcell _ rfl, h2.out.1, h2.out.2.1, h2.out.2.2.1, h2.out.2.2.2.below hb, fun e => by cases e⟩
  | 2, hl => cases hl; exact ⟨_, _, _, _, _, rfl, hcell _ rfl, h3.out.1, h3.out.2.1, h3.out.2.2.1, h3.out.2.2.2.below hb, fun e => by cases e⟩
  | 3, hl => cases hl; exact ⟨_, _, _, _, _, rfl, hcell _ rfl, h4.out.1, h4.out.2.1, h4.out.2.2.1, h4.out.2.2.2.below hb, fun e => by cases e⟩

/-- The four cells of a relocation that lies at the head of a block. -/
def RelCells (w : World) (g : Nat) (a b c : Nat) (d : Int) : Prop := w.cell? ⟨g, 0, none⟩ = some (.int .i64 (a : Int)) ∧ w.cell? ⟨g, 1, none⟩ = some (.int .i64 (b : Int)) ∧ w.cell? ⟨g, 2, none⟩ = some (.int .i64 (c : Int)) ∧
  w.cell? ⟨g, 3, none⟩ = some (.int .i64 d)
theorem RelCells.later {w w' : World} {g a b c : Nat} {d : Int} (h : Hid (RelCells w g a b c d)) (hb : Below w.heap.size w w') : Hid (RelCells w' g a b c d) :=
  Lib.hid ⟨cell_later hb h.out.1, cell_later hb h.out.2.1, cell_later hb h.out.2.2.1, cell_later hb h.out.2.2.2⟩

set_option maxRecDepth 100000 in
set_option maxHeartbeats 4000000 in
theorem zput_yes (a b c : Nat) (d : Int) (w : World) (h : (Fou.mk a b c d).may) : Calls Tryz.prog 112 #[Fou.v ⟨a, b, c, d⟩] w (Gives (relB ⟨a, b, c, d⟩) w) := by
  have HM := Lib.hid fun W => zmay_any ⟨a, b, c, d⟩ W
  rw [decide_eq_true h] at HM
  obtain ⟨f0, f2, f1⟩ := h
  simp only [fitsB_iff] at f0 f2
  have g1 := widthI_pos f1
  simp only at g1
  have kw : ∀ v : Nat, v < 18446744073709551616 → IntKind.u64.wrap (v : Int) = (v : Int) := fun v hv => by rw [conv_u64, u64n_nat v hv]
  have ka := kw a (by omega)
  have kb := kw b (by omega)
  have kc := kw c (by omega)
  have kd := conv_u64 d
  have hdn := u64n_lt d
  have hrel : relB ⟨a, b, c, d⟩ = [leB 8 a, leB 4 b, leB 4 c, leB 8 (u64n d)].flatten := by
    have e1 : relB ⟨a, b, c, d⟩ = leB 8 (u64n a) ++ (leB 4 (u64n b) ++ (leB 4 (u64n c) ++ (leB 8 (u64n d) ++ []))) := rfl
    rw [e1, u64n_nat a (by omega), u64n_nat b (by omega), u64n_nat c (by omega)]
    rfl
  have HE := Lib.hid hrel
  generalize u64n d = y at *
  have P1 := Lib.hid fun W => put8 a W (by omega)
  have P2 := Lib.hid fun W => put4 b W (by omega)
  have P3 := Lib.hid fun W => put4 c W (by omega)
  have P4 := Lib.hid fun W => put8 y W hdn
  have hlen : [leB 8 a, leB 4 b, leB 4 c, leB 8 y].flatten.length = 24 := by simp [leB_length]
  have HL := Lib.hid hlen
  clear kw hrel hlen f0 f2 f1 g1 hdn
  go_enter Tryz.func112, Tryz.ntmps112
  go_wp2_with fail
  refine (HM.out _).mono ?_
  rintro e' w1 ⟨rfl, hb⟩
  have hb1 : Below w.heap.size w w1 := ((Below.refl _ w).alloc (Nat.le_refl _) _).trans (hb.mono (by simp))
  have S0 : Hid (RelCells w1.drew w.heap.size a b c d) := Lib.hid ⟨by rw [show w1.drew.cell? = w1.cell? from rfl, hb.cell (by simp)]; simp, by rw [show w1.drew.cell? = w1.cell? from rfl, hb.cell (by simp)]; simp, by rw [show w1.drew.cell? = w1.cell? from rfl, hb.cell (by simp)]; simp, by rw [show w1.drew.cell? = w1.cell? from rfl, hb.cell (by simp)]; simp⟩
  clear hb
  go_wp2_with fail
  go_region_held3 (fun w' => w'.cell? ⟨w.heap.size, 0, none⟩ = some (.int .i64 (a : Int)) ∧ w'.cell? ⟨w.heap.size, 1, none⟩ = some (.int .i64 (b : Int)) ∧ w'.cell? ⟨w.heap.size, 2, none⟩ = some (.int .i64 (c : Int)) ∧
      w'.cell? ⟨w.heap.size, 3, none⟩ = some (.int .i64 d))
    (first | exact S5.out | exact (RelCells.later S4 ((Below.refl _ w5).alloc (Nat.le_refl _) _)).out | exact S4.out | exact S3.out | exact S2.out | exact S1.out | exact S0.out | fail)
    ((first
      | (go_at_call 72
         have HB := hasBs_four w5 31 _ _ _ _ _ _ _ _ _ _ _ _ _ _ _ _ _ _ _ _ q14 q24 q34 q44
         refine (concat_any _ 4 4 _ _ HB rfl (by decide) (by rw [HL.out]; decide)).mono ?_
         rintro e' w6 ⟨v6, rfl, hown6, B6⟩
         have S5 := RelCells.later (RelCells.later S4 ((Below.refl _ w5).alloc (Nat.le_refl _) _)) B6
         have BB6 : Below w.heap.size w w6 := (BB4.alloc BB4.size _).trans (B6.mono (by exact (BB4.alloc BB4.size _).size))
         have hown7 := owns_lower hown6 (c := w.heap.size) (by exact (BB4.alloc BB4.size _).size))
      | (go_at_call 107
         have _guard := S3
         refine (P4.out _).mono ?_
         rintro e' w5 ⟨b4, o4, c4, rfl, q44, B4⟩
         have q14 := part_below q13 B4
         have q24 := part_below q23 B4
         have q34 := part_below q33 B4
         have S4 := RelCells.later S3 B4
         have BB4 : Below w.heap.size w w5 := BB3.trans (B4.mono (by exact BB3.size))
         clear B4 q13 q23 q33)
      | (go_at_call 107
         have _guard := S2
         refine (P3.out _).mono ?_
         rintro e' w4 ⟨b3, o3, c3, rfl, q33, B3⟩
         have q13 := part_below q12 B3
         have q23 := part_below q22 B3
         have S3 := RelCells.later S2 B3
         have BB3 : Below w.heap.size w w4 := BB2.trans (B3.mono (by exact BB2.size))
         clear B3 q12 q22)
      | (go_at_call 107
         have _guard := S1
         refine (P2.out _).mono ?_
         rintro e' w3 ⟨b2, o2, c2, rfl, q22, B2⟩
         have q12 := part_below q11 B2
         have S2 := RelCells.later S1 B2
         have BB2 : Below w.heap.size w w3 := BB1.trans (B2.mono (by exact BB1.size))
         clear B2 q11)
      | (go_at_call 107
         refine (P1.out _).mono ?_
         rintro e' w2 ⟨b1, o1, c1, rfl, q11, B1⟩
         have S1 := RelCells.later S0 B1
         have BB1 : Below w.heap.size w w2 := hb1.drew.trans (B1.mono (by exact hb1.size))
         clear B1)
      | fail))
  go_wp2_with fail
  go_ret
  exact ⟨_, rfl, by rw [HE.out]; exact hown7, BB6⟩

theorem zput_ok : ZPutOK := fun t w hd => by
  refine ⟨fun hm => ?_, fun hm => zput_no t w hm⟩
  obtain ⟨a, b, c, d⟩ := t
  have h' := hm
  obtain ⟨f0, f2, f1⟩ := h'
  simp only [fitsB_iff] at f0 f2
  have g1 := widthI_pos f1
  simp only at g1
  obtain ⟨a, rfl⟩ := Int.eq_ofNat_of_zero_le f0.1
  obtain ⟨b, rfl⟩ := Int.eq_ofNat_of_zero_le (show 0 ≤ b by omega)
  obtain ⟨c, rfl⟩ := Int.eq_ofNat_of_zero_le f2.1
  exact zput_yes a b c d w hm
end Go.Proofs.YtenmcmnhiejbgaaGreat

namespace Go.Proofs.YtenmcmnhiejbgaaGreat
open Go.RowKit

set_option maxRecDepth 100000 in
theorem znumber_any (p : Option Addr) (len cap : Nat) (l : List UInt8) (at_ n : Int) (w : World) (h : Has w p l) (hlen : l.length = len) (hcap : len ≤ cap) (hm : cap ≤ maxLen) :
    Calls Tryz.prog 121 #[.slice p len cap, .int .i64 at_, .int .i64 n] w fun e w' => e = .returned (.int .i64 (wrap64 (getB l at_ n : Int))) ∧ w = w' := by
  have HG := Lib.hid (get_any p len cap l at_ n w h hlen hcap hm)
  generalize getB l at_ n = q at *
  clear h hlen
  go_enter Tryz.func121, Tryz.ntmps121
  go_wp2_with (go_at_call 118; refine HG.out.mono ?_; rintro e w' ⟨rfl, rfl⟩)
  go_ret
  exact ⟨rfl, rfl⟩

/-- The relocation that Get reads, may it be or not. -/
def relR (l : List UInt8) (a : Nat) : Fou := ⟨wrap64 (num (win l a 8) : Int), (num (win l (a + 8) 4) : Int), (num (win l (a + 12) 4) : Int), wrap64 (num (win l (a + 16) 8) : Int)⟩
theorem wrap_eq (v : Int) : IntKind.i64.wrap v = wrap64 v := by
  simp only [IntKind.wrap, IntKind.signed, IntKind.bits, wrap64]
  simp
  split <;> omega
theorem numI_wrap (l : List UInt8) (a : Nat) (h : num (win l a 8) < 18446744073709551616) : (fitsB (numI l a 8) = true ↔ fitsB (wrap64 (num (win l a 8) : Int)) = true) ∧ (fitsB (numI l a 8) = true → numI l a 8 = wrap64 (num (win l a 8) : Int)) := by
  unfold numI wrap64
  rw [fitsB_iff, fitsB_iff]
  split <;> omega
theorem numI_plain (l : List UInt8) (a n : Nat) : (fitsB (numI l a n) = true ↔ fitsB (num (win l a n) : Int) = true) ∧ (fitsB (numI l a n) = true → numI l a n = (num (win l a n) : Int)) := by
  unfold numI
  rw [fitsB_iff, fitsB_iff]
  split <;> omega
theorem fitsB_wid {n : Int} (h : 0 < widthI n) : fitsB n = true := by
  have := widthI_pos h
  exact (fitsB_iff _).2 (by omega)
theorem relR_may (l : List UInt8) (a : Nat) (hl : a + 24 ≤ l.length) : ((fouAt l a).may ↔ (relR l a).may) ∧ ((fouAt l a).may → fouAt l a = relR l a) := by
  have w8 := win_length l a 8 (by omega)
  have h8 := num_lt64 (win l a 8) (by omega)
  have p0 := numI_wrap l a h8
  have p1 := numI_plain l (a + 8) 4
  have p2 := numI_plain l (a + 12) 4
  have p3 := wrap_eq (num (win l (a + 16) 8) : Int)
  unfold fouAt relR Fou.may
  simp only
  rw [p3]
  constructor
  · constructor
    · rintro ⟨x0, x2, x1⟩
      have x1' := fitsB_wid x1
      exact ⟨p0.1.1 x0, p2.1.1 x2, by rw [← p1.2 x1']; exact x1⟩
    · rintro ⟨x0, x2, x1⟩
      have x1' := p1.1.2 (fitsB_wid x1)
      exact ⟨p0.1.2 x0, p2.1.2 x2, by rw [p1.2 x1']; exact x1⟩
  · rintro ⟨x0, x2, x1⟩
    have x1' := fitsB_wid x1
    rw [p0.2 x0, p2.2 x2, p1.2 x1']
theorem relAt_by (l : List UInt8) (a : Nat) (hl : a + 24 ≤ l.length) : relAt l a = bif decide (relR l a).may then some (relR l a) else none := by
  have hr := relR_may l a hl
  have e : ((a : Int)).toNat = a := rfl
  unfold relAt
  rw [e]
  by_cases hm : (relR l a).may
  · have hf := hr.1.2 hm
    rw [decide_eq_true hm, if_pos ⟨by omega, by omega, hf⟩, hr.2 hf]
    rfl
  · rw [decide_eq_false hm, if_neg fun hc => hm (hr.1.1 hc.2.2)]
    rfl

set_option maxRecDepth 100000 in
theorem zget_out (p : Option Addr) (len cap : Nat) (at_ : Int) (w : World) (hbig : len ≤ 100000) (h : at_ < 0 ∨ (len : Int) < at_ + 24) (h0 : -9223372036854775808 ≤ at_) (h1 : at_ ≤ 9223372036854775807) :
    Calls Tryz.prog 91 #[.slice p len cap, .int .i64 at_] w fun e w' => e = .returned (.tuple #[fou0.v, .bool false]) ∧ Below w.heap.size w w' := by
  have hb := (Below.refl _ w).alloc (Nat.le_refl _) (.cells #[.int .i64 0, .int .i64 0, .int .i64 0, .int .i64 0] 89)
  by_cases hneg : at_ < 0
  · go_enter Tryz.func91, Tryz.ntmps91
    go_wp2_with fail
    exact bodyPost_ret (v := .tuple #[fou0.v, .bool false]) (by simp [results, Tryz.results91, go_sem, fou0]) rfl ⟨rfl, by first | exact hb | exact (((hb.setCell (Nat.le_refl _) _).setCell (Nat.le_refl _) _).setCell (Nat.le_refl _) _).setCell (Nat.le_refl _) _⟩
  · have hI : (len : Int) - 24 < at_ := by omega
    have hI0 : 0 ≤ at_ := by omega
    go_enter Tryz.func91, Tryz.ntmps91
    go_wp2_with fail
    exact bodyPost_ret (v := .tuple #[fou0.v, .bool false]) (by simp [results, Tryz.results91, go_sem, fou0]) rfl ⟨rfl, by first | exact hb | exact (((hb.setCell (Nat.le_refl _) _).setCell (Nat.le_refl _) _).setCell (Nat.le_refl _) _).setCell (Nat.le_refl _) _⟩

/-- What Get asks last: whether the relocation that it has read may be. -/
theorem zcell_two (w : World) (o : Obj) (cs : Array Value) (t : TypeId) (i : Nat) (v : Value) (h : cs[i]? = some v) : ((w.alloc o).alloc (.cells cs t)).cell? ⟨w.heap.size + 1, i, none⟩ = some v := by
  have hs : (w.alloc o).heap.size = w.heap.size + 1 := by simp
  have hn := heap_alloc_new (w.alloc o) (.cells cs t)
  rw [hs] at hn
  exact (cell_of_row ((w.alloc o).alloc (.cells cs t)) (w.heap.size + 1) i cs t (0, 0) hn).trans h
theorem zmay_then (w : World) (t : Fou) (D : Bool) (HM : ∀ W, Calls Tryz.prog 122 #[t.v] W fun e w' => e = .returned (.bool D) ∧ Below W.heap.size W w') :
    Calls Tryz.prog 122 #[t.v] ((w.alloc (.cells #[.int .i64 0, .int .i64 0, .int .i64 0, .int .i64 0] 89)).alloc (.cells #[.int .i64 t.a, .int .i64 t.b, .int .i64 t.c, .int .i64 t.d] 89)) fun e w2 => e = .returned (.bool D) ∧ Below w.heap.size w w2 ∧
      (w2.cell? ⟨w.heap.size, 0, none⟩ = some (.int .i64 0) ∧ w2.cell? ⟨w.heap.size, 1, none⟩ = some (.int .i64 0) ∧ w2.cell? ⟨w.heap.size, 2, none⟩ = some (.int .i64 0) ∧ w2.cell? ⟨w.heap.size, 3, none⟩ = some (.int .i64 0)) ∧
      (w2.frozen? ⟨w.heap.size, 0, none⟩ = false ∧ w2.frozen? ⟨w.heap.size, 1, none⟩ = false ∧ w2.frozen? ⟨w.heap.size, 2, none⟩ = false ∧ w2.frozen? ⟨w.heap.size, 3, none⟩ = false) ∧
      (w2.cell? ⟨w.heap.size + 1, 0, none⟩ = some (.int .i64 t.a) ∧ w2.cell? ⟨w.heap.size + 1, 1, none⟩ = some (.int .i64 t.b) ∧ w2.cell? ⟨w.heap.size + 1, 2, none⟩ = some (.int .i64 t.c) ∧ w2.cell? ⟨w.heap.size + 1, 3, none⟩ = some (.int .i64 t.d)) ∧
      w.heap.size + 1 < w2.heap.size := by
  refine (HM _).mono ?_
  rintro e w2 ⟨rfl, hb2⟩
  have hbz : Below w.heap.size w (w.alloc (.cells #[.int .i64 0, .int .i64 0, .int .i64 0, .int .i64 0] 89)) := (Below.refl _ w).alloc (Nat.le_refl _) _
  have hbX : Below w.heap.size w w2 := (hbz.alloc (by simp) _).trans (hb2.mono (by simp; omega))
  have q := fun i v => zcell_two w (.cells #[.int .i64 0, .int .i64 0, .int .i64 0, .int .i64 0] 89) #[.int .i64 t.a, .int .i64 t.b, .int .i64 t.c, .int .i64 t.d] 89 i v
  refine ⟨rfl, hbX, ⟨?_, ?_, ?_, ?_⟩, ⟨?_, ?_, ?_, ?_⟩, ⟨?_, ?_, ?_, ?_⟩, ?_⟩
  iterate 4 · rw [hb2.cell (by simp; omega)]; simp
  iterate 4 · rw [hb2.frozen (by simp; omega)]; simp
  · rw [hb2.cell (by simp)]; exact q 0 _ rfl
  · rw [hb2.cell (by simp)]; exact q 1 _ rfl
  · rw [hb2.cell (by simp)]; exact q 2 _ rfl
  · rw [hb2.cell (by simp)]; exact q 3 _ rfl
  · have := hb2.size; simp at this; omega

theorem zw64 (n : Nat) (h : n < 9223372036854775808) : wrap64 (n : Int) = n := by unfold wrap64; omega

set_option maxRecDepth 100000 in
set_option maxHeartbeats 2000000 in
theorem zget_in (p : Option Addr) (len cap a : Nat) (l : List UInt8) (w : World) (h : Has w p l) (hlen : l.length = len) (hcap : len ≤ cap) (hm : cap ≤ maxLen) (hbig : len ≤ 100000) (hin : a + 24 ≤ len) :
    Calls Tryz.prog 91 #[.slice p len cap, .int .i64 (a : Int)] w fun e w' => e = .returned (.tuple #[(relV (relAt l a)).1, .bool (relV (relAt l a)).2]) ∧ Below w.heap.size w w' := by
  have hm' := hm
  unfold maxLen at hm'
  obtain ⟨b, off, rfl, _⟩ := h.plain (by omega)
  have hst : Has w (some ⟨b, off + a, none⟩) (win l a 24) := has_win h a 24 (by omega)
  have hsl : (win l a 24).length = 24 := win_length l a 24 (by omega)
  have gw := fun (o n : Nat) (hw : wid n = true) (hn : o + n ≤ 24) => show getB (win l a 24) o n = num (win l (a + o) n) from by
    unfold getB
    rw [hsl, if_pos ((fitB_iff _ _ _).2 ⟨(wid_iff _).1 hw, by omega, by omega⟩)]
    exact congrArg num (win_win l a 24 o n hn)
  have hN := fun (o n : Int) W (hb : Below w.heap.size w W) => znumber_any (some ⟨b, off + a, none⟩) 24 (cap - a) (win l a 24) o n W (hst.below hb) hsl (by omega) (by unfold maxLen; omega)
  have hN0 := hN 0 8
  have hN1 := hN 8 4
  have hN2 := hN 12 4
  have hN3 := hN 16 8
  have b1 := num_lt (win l (a + 8) 4)
  have b2 := num_lt (win l (a + 12) 4)
  rw [win_length l _ _ (by omega)] at b1 b2
  rw [show getB (win l a 24) 0 8 = num (win l a 8) from gw 0 8 rfl (by omega)] at hN0
  rw [show getB (win l a 24) 8 4 = num (win l (a + 8) 4) from gw 8 4 rfl (by omega), zw64 _ (by omega)] at hN1
  rw [show getB (win l a 24) 12 4 = num (win l (a + 12) 4) from gw 12 4 rfl (by omega), zw64 _ (by omega)] at hN2
  rw [show getB (win l a 24) 16 8 = num (win l (a + 16) 8) from gw 16 8 rfl (by omega)] at hN3
  have hO := relAt_by l a (by omega)
  have hM := fun W => zmay_any (relR l a) W
  generalize decide (relR l a).may = D at *
  unfold relR at hO hM
  generalize wrap64 (num (win l a 8) : Int) = x0 at *
  generalize (num (win l (a + 8) 4) : Int) = x1 at *
  generalize (num (win l (a + 12) 4) : Int) = x2 at *
  generalize wrap64 (num (win l (a + 16) 8) : Int) = x3 at *
  have N0 := Lib.hid hN0
  have N1 := Lib.hid hN1
  have N2 := Lib.hid hN2
  have N3 := Lib.hid hN3
  have HPX := Lib.hid (zmay_then w ⟨x0, x1, x2, x3⟩ D hM)
  rw [hO]
  have hI : ¬ (len : Int) - 24 < (a : Int) := by omega
  have hI0 : ¬ (a : Int) < 0 := by omega
  have hc0 : ¬ cap = a := by omega
  have hc1 : (a : Int) + 24 ≤ (cap : Int) := by omega
  have hbz : Below w.heap.size w (w.alloc (.cells #[.int .i64 0, .int .i64 0, .int .i64 0, .int .i64 0] 89)) := (Below.refl _ w).alloc (Nat.le_refl _) _
  clear hN hN0 hN1 hN2 hN3 hO h hlen gw b1 b2 hM hst hsl hm
  go_enter Tryz.func91, Tryz.ntmps91
  go_wp2_with fail
  refine (N0.out _ hbz).mono ?_
  rintro e w' ⟨rfl, rfl⟩
  go_wp2_with fail
  refine (N1.out _ hbz).mono ?_
  rintro e w' ⟨rfl, rfl⟩
  go_wp2_with fail
  refine (N2.out _ hbz).mono ?_
  rintro e w' ⟨rfl, rfl⟩
  go_wp2_with fail
  refine (N3.out _ hbz).mono ?_
  rintro e w' ⟨rfl, rfl⟩
  go_wp2_with fail
  refine HPX.out.mono ?_
  rintro e w2 ⟨rfl, hbX, ⟨s0, s1, s2, s3⟩, ⟨f0, f1, f2, f3⟩, ⟨t0, t1, t2, t3⟩, hz2⟩
  clear N0 N1 N2 N3 HPX
  cases D with
  | true =>
    go_wp2_with fail
    exact bodyPost_ret (v := .tuple #[Fou.v ⟨x0, x1, x2, x3⟩, .bool true]) (by simp [results, Tryz.results91, go_sem, s0, s1, s2, s3]) rfl ⟨rfl, (((hbX.setCell (Nat.le_refl _) _).setCell (Nat.le_refl _) _).setCell (Nat.le_refl _) _).setCell (Nat.le_refl _) _⟩
  | false =>
    go_wp2_with fail
    exact bodyPost_ret (v := .tuple #[fou0.v, .bool false]) (by simp [results, Tryz.results91, go_sem, fou0, s0, s1, s2, s3]) rfl ⟨rfl, (((hbX.setCell (Nat.le_refl _) _).setCell (Nat.le_refl _) _).setCell (Nat.le_refl _) _).setCell (Nat.le_refl _) _⟩

theorem zget_ok : ZGetOK := fun p len cap l at_ w h hlen hcap hm hbig h0 h1 => by
  by_cases hin : 0 ≤ at_ ∧ at_ + 24 ≤ len
  · obtain ⟨a, rfl⟩ := Int.eq_ofNat_of_zero_le hin.1
    exact zget_in p len cap a l w h hlen hcap hm hbig (by omega)
  · have e : relAt l at_ = none := by
      unfold relAt
      rw [if_neg fun hc => hin ⟨hc.1, by omega⟩]
    rw [e]
    exact zget_out p len cap at_ w hbig (by omega) h0 h1

end Go.Proofs.YtenmcmnhiejbgaaGreat

namespace Go.Proofs.YtenmcmnhiejbgaaGreat
open Go.RowKit

/-- A region that draws its order, of whose operations and callees each leaves alone what was there: walked once, in the order of the text. -/
theorem wp_region_below {P : Program} {id : Nat} {Q : Exit → Act → World → Prop} {a : Act} {w : World} {l : List Oper} (hm : P.follows .mixedOrders = true) (hB : Region.lexB .any l.toArray = true)
    (h : wpQuiet P l.toArray (fun W => Below w.heap.size w W) (fun a' => ∀ w', Below w.heap.size w w' → Q .normal a' w') l a) : (Code.region id l.toArray true).wp P Q a w :=
  wp_region_quiet (C := fun W => Below w.heap.size w W) hm hB ((Below.refl _ w).drew) (by simpa using h)
theorem flat_set {α : Type} {k : Nat} {f : α → List Value} (hk : ∀ x, (f x).length = k) : ∀ (xs : List α) (i j : Nat) (x y : α) (u : Value), xs[i]? = some x → j < k → f y = (f x).set j u → (xs.flatMap f).set (i * k + j) u = (xs.set i y).flatMap f
  | [], i, j, x, y, u, h, _, _ => by simp at h
  | z :: xs, 0, j, x, y, u, h, hj, hf => by
    simp at h
    subst h
    rw [List.flatMap_cons, List.set_cons_zero, List.flatMap_cons, hf, Nat.zero_mul, Nat.zero_add, List.set_append_left _ _ (by rw [hk]; exact hj)]
  | z :: xs, i + 1, j, x, y, u, h, hj, hf => by
    have := flat_set hk xs i j x y u (by simpa using h) hj hf
    rw [List.flatMap_cons, List.set_cons_succ, List.flatMap_cons, List.set_append_right _ _ (by rw [hk z, Nat.succ_mul]; omega), hk z, show (i + 1) * k + j - k = i * k + j by rw [Nat.succ_mul]; omega, this]
theorem set_same {α : Type} : ∀ {l : List α} {i : Nat} {x : α}, l[i]? = some x → l.set i x = l
  | [], _, _, _ => rfl
  | y :: l, 0, x, h => by simp at h; subst h; rfl
  | y :: l, i + 1, x, h => by rw [List.set_cons_succ, set_same (by simpa using h)]
def relOf (t : Fou) : RelD := ⟨t.a, t.b, t.c, t.d⟩
theorem wrap_i64bd (x : Int) : i64bd (IntKind.i64.wrap x) := by
  rw [IntKind.wrap_i64]
  constructor <;> omega
theorem relAt_bd {l : List UInt8} {a : Int} {t : Fou} (h : relAt l a = some t) : (relOf t).bd := by
  unfold relAt at h
  split at h
  · rename_i hc
    cases h
    obtain ⟨ha, hc2, hb⟩ := hc.2.2
    have ha := (fitsB_iff _).1 ha
    have hc2 := (fitsB_iff _).1 hc2
    have hw : i64bd (fouAt l a.toNat).b := by
      unfold widthI at hb
      split at hb
      · rename_i h; constructor <;> omega
      · split at hb
        · rename_i h; constructor <;> omega
        · omega
    exact ⟨fits_bd ha, hw, fits_bd hc2, wrap_i64bd _⟩
  · cases h
/-- The relocations from number i on, behind those that there are. -/
def relGo (l : List UInt8) (a : Int) : Nat → Nat → List RelD → Option (List RelD)
  | _, 0, acc => some acc
  | i, m + 1, acc => match relAt l (a + 24 * (i : Int)) with
    | none => none
    | some t => relGo l a (i + 1) m (acc ++ [relOf t])
theorem relGo_step {l : List UInt8} {a : Int} {i m : Nat} {acc : List RelD} : relGo l a i (m + 1) acc = match relAt l (a + 24 * (i : Int)) with
    | none => none
    | some t => relGo l a (i + 1) m (acc ++ [relOf t]) := rfl
/-- The relocations of a header, where the symbols' header has number sy. -/
def relsAt (l : List UInt8) (L : List Ten) (sy : Int) (nm : List Bool) (h : Ten) : Option (List RelD) := bif (h.j == 24) && (h.f.tmod 24 == 0) then
    bif h.g != sy then none else bif isTy L h.h.toNat 1 then bif nm[h.h.toNat]?.getD true then none else relGo l h.e 0 (h.f.toNat / 24) [] else none
  else none
theorem rel_cells_one (t : RelD) : ∀ u ∈ relC t, u.oneCell' = true := fun u hu => by
  simp only [relC, List.mem_cons, List.not_mem_nil, or_false] at hu
  rcases hu with rfl | rfl | rfl | rfl <;> rfl
theorem Tryz.infoRel : (Tryz.prog.info? 89).map (fun i => (i.zero, i.size, i.bytes)) = some (some (.agg #[.int .i64 0, .int .i64 0, .int .i64 0, .int .i64 0]), 4, 32) := by kernel_rfl
/-- A section with other relocations. -/
def SecV.withRels (x : SecV) (rs : List RelD) (v : Value) : SecV := ⟨{ x.s with rels := rs }, x.d, v⟩
theorem rels_set (svs : List SecV) (x : Nat) (sv : SecV) (acc acc2 : List RelD) (vr v2 : Value) (hx : x < svs.length) : ((svs.set x (sv.withRels acc vr)).flatMap SecV.cells).set (x * 9 + 8) v2 = (svs.set x (sv.withRels acc2 v2)).flatMap SecV.cells := by
  have h := flat_set (k := 9) (f := SecV.cells) (fun _ => rfl) (svs.set x (sv.withRels acc vr)) x 8 (sv.withRels acc vr) (sv.withRels acc2 v2) v2 (List.getElem?_set_self hx) (by decide) rfl
  rw [h, List.set_set]
end Go.Proofs.YtenmcmnhiejbgaaGreat
