/-
  The walk of ObjGets: obj and its reference tell the same object of any bytes.
-/
import Derived.Test.YtenmcmnhiejbgaaGreatJg34
import Derived.Test.YtenmcmnhiejbgaaGreatJg35
import Derived.Test.YtenmcmnhiejbgaaGreatJg42
namespace Go.Proofs.YtenmcmnhiejbgaaGreat
open Go.RowKit

/-- What either Get gives, in one form: an object in parts, and what it is told with. -/
def GotAs (u : Value) (o : ObjD) (w : World) (e : Ending) (w' : World) : Prop := Below w.heap.size w w' ∧ ∃ (p0 p1 p2 p4 : Option Addr) (c0 c1 c2 c4 : Nat), e = .returned (.tuple #[.agg #[.slice p0 o.secs.length c0, .slice p1 o.syms.length c1, .slice p2 o.groups.length c2, .bool o.hasSig, .slice p4 o.sig.length c4], u]) ∧
  ObjParts w' (.slice p0 o.secs.length c0) (.slice p1 o.syms.length c1) (.slice p2 o.groups.length c2) (.slice p4 o.sig.length c4) o
theorem own_as {l : List UInt8} (p : Option Addr) (c : Nat) (w : World) (ht : Has w p l) (h1 : l.length ≤ c) (h2 : c ≤ maxLen) (h3 : p = none → c = 0) (hbig : l.length ≤ 100000) :
    Calls Tryz.prog 11 #[.slice p l.length c] w (GotAs (match gotB l with | none => .iface 36 (.int .i64 2) | some _ => .nilIface) ((gotB l).getD ⟨[], [], [], false, []⟩) w) := by
  refine (ownGet_any p c l w ht h1 h2 h3 hbig).mono ?_
  rintro e w' ⟨hb, v0, v1, v2, v4, o', hp, _, hr⟩
  obtain ⟨m0, l0, rfl, _⟩ := id hp.1
  obtain ⟨m1, l1, rfl, _⟩ := id hp.2.1
  obtain ⟨m2, l2, rfl, _⟩ := id hp.2.2.1
  obtain ⟨m4, l4, rfl, _⟩ := id hp.2.2.2
  rcases hr with ⟨hr, rfl, rfl⟩ | ⟨hr, rfl⟩
  · rw [hr]
    exact ⟨hb, m0, m1, m2, m4, l0, l1, l2, l4, rfl, hp⟩
  · rw [hr]
    exact ⟨hb, m0, m1, m2, m4, l0, l1, l2, l4, rfl, hp⟩
theorem ref_as {l : List UInt8} (p : Option Addr) (c : Nat) (w : World) (ht : Has w p l) (h1 : l.length ≤ c) (h2 : c ≤ maxLen) (h3 : p = none → c = 0) (hbig : l.length ≤ 100000) :
    Calls Tryz.prog 12 #[.slice p l.length c] w (GotAs (.bool (gotB l).isSome) ((gotB l).getD ⟨[], [], [], false, []⟩) w) := by
  refine (rGetO_any p c l w ht h1 h2 h3 hbig).mono ?_
  rintro e w' ⟨hb, v0, v1, v2, v4, o', rfl, hp, hr⟩
  obtain ⟨m0, l0, rfl, _⟩ := id hp.1
  obtain ⟨m1, l1, rfl, _⟩ := id hp.2.1
  obtain ⟨m2, l2, rfl, _⟩ := id hp.2.2.1
  obtain ⟨m4, l4, rfl, _⟩ := id hp.2.2.2
  rcases hr with ⟨hr, rfl⟩ | hr
  · rw [hr]
    exact ⟨hb, m0, m1, m2, m4, l0, l1, l2, l4, rfl, hp⟩
  · rw [hr]
    exact ⟨hb, m0, m1, m2, m4, l0, l1, l2, l4, rfl, hp⟩

set_option maxRecDepth 100000 in
set_option maxHeartbeats 4000000 in
theorem ogets_walk (p : Option Addr) (n c : Nat) (l : List UInt8) (w : World) (hh : Has w p l) (hl : l.length = n) (hc : n ≤ c) (hm : c ≤ maxLen) (h3 : p = none → c = 0) :
    Calls Tryz.prog 4 #[.slice p n c] w fun e w' => e = .returned (.bool true) ∧ Below w.heap.size w w' := by
  have HU := Lib.hid fun W => up_any W
  have HH := Lib.hid hh
  have HL := Lib.hid hl
  have H3 := Lib.hid h3
  have hm' := hm
  unfold maxLen at hm'
  clear hh hl h3
  go_enter Tryz.func4, Tryz.ntmps4
  generalize hgb : w.heap.size = gb at *
  go_upto_region 2 with (first | (go_at_call 5; refine (HU.out _).mono ?_; rintro e w2 ⟨rfl, hb2⟩) | fail)
  have hh2 := HH.out.below hb2
  have hb2' : Below gb w w2 := by rw [← hgb]; exact hb2
  have hg2 : gb ≤ w2.heap.size := by rw [← hgb]; exact hb2'.size
  by_cases t1 : 17000 < n
  · have t1d : (17000 : Int) < (n : Int) := by omega
    go_wp2_with fail
    go_ret
    subst hgb
    exact ⟨rfl, hb2'⟩
  have t1d : ¬ (17000 : Int) < (n : Int) := by omega
  have HOG := Lib.hid (own_as p c w2 hh2 (by rw [HL.out]; exact hc) hm H3.out (by rw [HL.out]; omega))
  have HRG := Lib.hid fun W (hW : Below w2.heap.size w2 W) => ref_as p c W (hh2.below hW) (by rw [HL.out]; exact hc) hm H3.out (by rw [HL.out]; omega)
  rw [HL.out] at HOG HRG
  obtain ⟨o, ho⟩ : ∃ o, o = (gotB l).getD ⟨[], [], [], false, []⟩ := ⟨_, rfl⟩
  rw [← ho] at HOG HRG
  generalize gotB l = r at *
  clear hh2 hb2 HU HH HL H3 ho
  cases r with
  | none =>
    unfold GotAs at HOG HRG
    simp only [Option.isSome_none] at HOG HRG
    go_upto_region 5 with (first | (go_at_call 11; refine HOG.out.mono ?_; rintro e w3 ⟨hb3, p0, p1, p2, p4, c0, c1, c2, c4, rfl, hpp⟩) | fail)
    have hb3' : Below gb w w3 := hb2'.trans (hb3.mono hg2)
    have hg3 : gb ≤ w3.heap.size := Nat.le_trans hg2 hb3.size
    obtain ⟨hp4, hb4, hx4⟩ := obj_laid hpp
    obtain ⟨a0, a1, a2, a3, a4⟩ := obj_cells hx4
    have hb4' : Below gb w _ := hb3'.trans (hb4.mono hg3)
    have hb34 := hb3.trans (hb4.mono hb3.size)
    clear hpp hx4 hb4 hb3 hb2' HOG hb3'
    generalize w3.alloc (.cells #[.slice p0 o.secs.length c0, .slice p1 o.syms.length c1, .slice p2 o.groups.length c2, .bool o.hasSig, .slice p4 o.sig.length c4] 27) = w4 at *
    generalize w3.heap.size = g3 at *
    have HRG4 := Lib.hid (HRG.out w4 hb34)
    have HP4 := Lib.hid hp4
    clear HRG hb34 hp4
    go_upto_region 6 with (first | (go_at_call 12; refine HRG4.out.mono ?_; rintro e w5 ⟨hb5, q0, q1, q2, q4, d0, d1, d2, d4, rfl, hpp⟩) | fail)
    obtain ⟨hp6, hb6, hx6⟩ := obj_laid hpp
    obtain ⟨f0, f1, f2, f3, f4⟩ := obj_cells hx6
    have hb56 := hb5.trans (hb6.mono hb5.size)
    have k0 := cell_later hb56 a0
    have k1 := cell_later hb56 a1
    have k2 := cell_later hb56 a2
    have k3 := cell_later hb56 a3
    have k4 := cell_later hb56 a4
    have hb6' := hb4'.trans (hb56.mono (by rw [← hgb]; exact hb4'.size))
    have hp46 := HP4.out.below hb56
    clear hpp hx6 hb6 hb5 hb56 a0 a1 a2 a3 a4 HRG4 HP4
    generalize w5.alloc (.cells #[.slice q0 o.secs.length d0, .slice q1 o.syms.length d1, .slice q2 o.groups.length d2, .bool o.hasSig, .slice q4 o.sig.length d4] 27) = w6 at *
    generalize w5.heap.size = g5 at *
    have HSE := Lib.hid (refSame_eq o _ _ _ _ _ _ _ _ w6 hp46 hp6)
    clear hp46 hp6
    go_wp2_with fail
    refine HSE.out.mono ?_
    rintro e w7 ⟨rfl, hb7⟩
    have hce := code_eq 2 2 w7
    have hfin := hb6'.trans (hb7.mono (by rw [← hgb]; exact hb6'.size))
    clear HSE hb7
    go_wp2_with fail
    go_ret
    subst hgb
    exact ⟨rfl, hfin⟩
  | some x =>
    unfold GotAs at HOG HRG
    simp only [Option.isSome_some] at HOG HRG
    go_upto_region 5 with (first | (go_at_call 11; refine HOG.out.mono ?_; rintro e w3 ⟨hb3, p0, p1, p2, p4, c0, c1, c2, c4, rfl, hpp⟩) | fail)
    have hb3' : Below gb w w3 := hb2'.trans (hb3.mono hg2)
    have hg3 : gb ≤ w3.heap.size := Nat.le_trans hg2 hb3.size
    obtain ⟨hp4, hb4, hx4⟩ := obj_laid hpp
    obtain ⟨a0, a1, a2, a3, a4⟩ := obj_cells hx4
    have hb4' : Below gb w _ := hb3'.trans (hb4.mono hg3)
    have hb34 := hb3.trans (hb4.mono hb3.size)
    clear hpp hx4 hb4 hb3 hb2' HOG hb3'
    generalize w3.alloc (.cells #[.slice p0 o.secs.length c0, .slice p1 o.syms.length c1, .slice p2 o.groups.length c2, .bool o.hasSig, .slice p4 o.sig.length c4] 27) = w4 at *
    generalize w3.heap.size = g3 at *
    have HRG4 := Lib.hid (HRG.out w4 hb34)
    have HP4 := Lib.hid hp4
    clear HRG hb34 hp4
    go_upto_region 6 with (first | (go_at_call 12; refine HRG4.out.mono ?_; rintro e w5 ⟨hb5, q0, q1, q2, q4, d0, d1, d2, d4, rfl, hpp⟩) | fail)
    obtain ⟨hp6, hb6, hx6⟩ := obj_laid hpp
    obtain ⟨f0, f1, f2, f3, f4⟩ := obj_cells hx6
    have hb56 := hb5.trans (hb6.mono hb5.size)
    have k0 := cell_later hb56 a0
    have k1 := cell_later hb56 a1
    have k2 := cell_later hb56 a2
    have k3 := cell_later hb56 a3
    have k4 := cell_later hb56 a4
    have hb6' := hb4'.trans (hb56.mono (by rw [← hgb]; exact hb4'.size))
    have hp46 := HP4.out.below hb56
    clear hpp hx6 hb6 hb5 hb56 a0 a1 a2 a3 a4 HRG4 HP4
    generalize w5.alloc (.cells #[.slice q0 o.secs.length d0, .slice q1 o.syms.length d1, .slice q2 o.groups.length d2, .bool o.hasSig, .slice q4 o.sig.length d4] 27) = w6 at *
    generalize w5.heap.size = g5 at *
    have HSE := Lib.hid (refSame_eq o _ _ _ _ _ _ _ _ w6 hp46 hp6)
    clear hp46 hp6
    go_wp2_with fail
    refine HSE.out.mono ?_
    rintro e w7 ⟨rfl, hb7⟩
    have hfin := hb6'.trans (hb7.mono (by rw [← hgb]; exact hb6'.size))
    clear HSE hb7
    go_wp2_with fail
    go_ret
    subst hgb
    exact ⟨rfl, hfin⟩
end Go.Proofs.YtenmcmnhiejbgaaGreat
