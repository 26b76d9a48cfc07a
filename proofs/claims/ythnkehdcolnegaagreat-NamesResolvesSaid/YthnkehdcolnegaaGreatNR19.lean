/-
  Contract of the reference's rels.
-/
import Derived.Test.YthnkehdcolnegaaGreatNR16
import Derived.Test.YthnkehdcolnegaaGreatNR18
import Derived.Deep.QuietTactic
import Derived.BigQuiet
import Derived.Deep.DeepCutAuto
namespace Go.Proofs.YthnkehdcolnegaaGreat
open Go.RowKit

abbrev RelD.fou (r : RelD) : Fou := ⟨r.off, r.type, r.sym, r.add⟩
/-- May a relocation be, of an object of so many symbols, in a section of so many bytes, behind another one? -/
def relOK (syms dl : Nat) (r : RelD) : Bool := decide r.fou.may && (decide (r.sym < (syms : Int)) && decide (r.off + widthI r.type ≤ (dl : Int)))
def relBehind (p r : RelD) : Bool := decide (p.off + widthI p.type ≤ r.off)
/-- Behind the one ahead of number i. -/
def behindB (rs : List RelD) : Nat → RelD → Bool
  | 0, _ => true
  | j + 1, r => match rs[j]? with
    | none => true
    | some p => relBehind p r
/-- Relocation i of them, and behind the one ahead of it. -/
def relAtB (syms dl : Nat) (rs : List RelD) (i : Nat) : Bool := match rs[i]? with
  | none => true
  | some r => relOK syms dl r && behindB rs i r
def relsB (syms dl : Nat) (rs : List RelD) : Bool := decide (rs.length ≤ 64) && (List.range rs.length).all (relAtB syms dl rs)
theorem relsB_no {syms dl : Nat} {rs : List RelD} {i : Nat} (hi : i < rs.length) (h : relAtB syms dl rs i = false) : relsB syms dl rs = false := by
  unfold relsB
  have : (List.range rs.length).all (relAtB syms dl rs) = false := by
    rw [List.all_eq_false]
    exact ⟨i, List.mem_range.2 hi, by simp [h]⟩
  rw [this]
  simp
theorem relAtB_of {syms dl : Nat} {rs : List RelD} {i : Nat} {r : RelD} (h : rs[i]? = some r) : relAtB syms dl rs i = (relOK syms dl r && behindB rs i r) := by
  unfold relAtB
  rw [h]
theorem cells_two (w : World) (cs1 cs2 : Array Value) (t1 t2 : TypeId) : (∀ i, ((w.alloc (.cells cs1 t1)).alloc (.cells cs2 t2)).cell? ⟨w.heap.size, i, none⟩ = cs1[i]?) ∧ (∀ i, ((w.alloc (.cells cs1 t1)).alloc (.cells cs2 t2)).cell? ⟨w.heap.size + 1, i, none⟩ = cs2[i]?) := by
  have hs : (w.alloc (.cells cs1 t1)).heap.size = w.heap.size + 1 := by simp
  constructor
  · intro i
    have hn : ((w.alloc (.cells cs1 t1)).alloc (.cells cs2 t2)).heap[w.heap.size]? = some (.cells cs1 t1 (0, 0)) := by
      rw [Below.heap_alloc _ _ _ (by rw [hs]; omega)]
      exact heap_alloc_new w _
    exact cell_of_row _ w.heap.size i cs1 t1 (0, 0) hn
  · intro i
    have hn := heap_alloc_new (w.alloc (.cells cs1 t1)) (.cells cs2 t2)
    rw [hs] at hn
    exact cell_of_row _ (w.heap.size + 1) i cs2 t2 (0, 0) hn
theorem widthI_bd (n : Int) : 0 ≤ widthI n ∧ widthI n ≤ 8 := by
  unfold widthI
  split
  · omega
  · split <;> omega

set_option maxRecDepth 100000 in
set_option maxHeartbeats 4000000 in
theorem rels_any (v0 v2 v4 : Value) (sig : Bool) (ps : Option Addr) (sl sc : Nat) (nm : ByteArray) (ty fl al en li sz : Int) (dp rp : Option Addr) (dl dc rc : Nat) (rs : List RelD) (w : World) (hr : HasL 4 ERel w rp rs) (hrm : rs.length ≤ maxLen) (_hsm : sl ≤ maxLen) (_hdm : dl ≤ maxLen) :
    Calls Tryz.prog 122 #[objV v0 (.slice ps sl sc) v2 sig v4, secV nm ty fl al en li sz (.slice dp dl dc) (.slice rp rs.length rc)] w fun e w' => e = .returned (.bool (relsB sl dl rs)) ∧ Below w.heap.size w w' := by
  unfold maxLen at hrm
  have hct := cells_two w #[v0, .slice ps sl sc, v2, .bool sig, v4] #[.string nm, .int .i64 ty, .int .i64 fl, .int .i64 al, .int .i64 en, .int .i64 li, .int .i64 sz, .slice dp dl dc, .slice rp rs.length rc] 27 89
  have d1 := hct.1 1
  have d7 := hct.2 7
  have d8 := hct.2 8
  have hb0 : Below w.heap.size w ((w.alloc (.cells #[v0, .slice ps sl sc, v2, .bool sig, v4] 27)).alloc (.cells #[.string nm, .int .i64 ty, .int .i64 fl, .int .i64 al, .int .i64 en, .int .i64 li, .int .i64 sz, .slice dp dl dc, .slice rp rs.length rc] 89)) := ((Below.refl _ w).alloc (Nat.le_refl _) _).alloc (by simp) _
  simp only [List.getElem?_toArray, List.getElem?_cons_succ, List.getElem?_cons_zero] at d1 d7 d8
  have hr1 := hr.below ERel.keeps hb0
  have hno : 64 < rs.length → relsB sl dl rs = false := fun h => by unfold relsB; rw [decide_eq_false (by omega)]; rfl
  have hyes : ¬ 64 < rs.length → (List.range rs.length).all (relAtB sl dl rs) = true → relsB sl dl rs = true := fun h h2 => by unfold relsB; rw [h2, decide_eq_true (by omega)]; rfl
  have hat : ∀ i, i < rs.length → relAtB sl dl rs i = false → relsB sl dl rs = false := fun i hi h => relsB_no hi h
  clear hr hct
  generalize hm : rs.length = m at *
  generalize hW0 : (w.alloc (.cells #[v0, .slice ps sl sc, v2, .bool sig, v4] 27)).alloc (.cells #[.string nm, .int .i64 ty, .int .i64 fl, .int .i64 al, .int .i64 en, .int .i64 li, .int .i64 sz, .slice dp dl dc, .slice rp m rc] 89) = W0 at *
  have HM := Lib.hid hm
  have HRL := Lib.hid hr1
  have HMY := Lib.hid fun (r : RelD) W (h : r.fou.may) => mayR_yes r.fou W h
  have HMN := Lib.hid fun (r : RelD) W (h : ¬ r.fou.may) => mayR_no r.fou W h
  have HNO := Lib.hid hno
  have HYES := Lib.hid hyes
  have HAT := Lib.hid hat
  have hgb : w.heap.size < W0.heap.size := World.block_lt_of_cell? W0 _ d1
  clear hr1 hm hno hyes hat
  go_enter Tryz.func122, Tryz.ntmps122
  by_cases h64 : 64 < m
  · have hI : (64 : Int) < (m : Int) := by omega
    go_upto_region 1 with fail
    go_wp2_with fail
    go_ret
    exact ⟨by rw [HNO.out h64]; rfl, hb0⟩
  · have hI : ¬ (64 : Int) < (m : Int) := by omega
    go_upto_region 1 with fail
    have HY2 := Lib.hid (HYES.out h64)
    go_wp2_with fail
    generalize hgw : w.heap.size = gb at *
    go_loopw [5] (fun r5 wr => ∃ i : Nat, i ≤ m ∧ r5 = .int .i64 (i : Int) ∧ (List.range i).all (relAtB sl dl rs) = true ∧ Below W0.heap.size W0 wr) (fun r5 _ => m - (intOf r5).toNat)
    case atStart => exact ⟨0, Nat.zero_le _, rfl, rfl, Below.refl _ _⟩
    case round =>
      obtain ⟨i, hi, rfl, hall, hb⟩ := hrel
      have HALL := Lib.hid hall
      clear hall
      have e1 := cell_later hb d1
      have e7 := cell_later hb d7
      have e8 := cell_later hb d8
      by_cases hlt : i < m
      · obtain ⟨b, off, r, rfl, hri, hre⟩ := HRL.out.at_ (i := i) (by rw [HM.out]; exact hlt)
        obtain ⟨⟨c0, hr0⟩, ⟨c1, hr1⟩, ⟨c2, hr2⟩, ⟨c3, hr3⟩⟩ := hre
        have f0 := cell_later hb c0
        have f1 := cell_later hb c1
        have f2 := cell_later hb c2
        have f3 := cell_later hb c3
        have HRI := Lib.hid hri
        have hJ : (i : Int) < (m : Int) := by omega
        have hJ0 : (0 : Int) ≤ (i : Int) := by omega
        clear c0 c1 c2 c3 hri
        have HAI := Lib.hid (relAtB_of (syms := sl) (dl := dl) HRI.out)
        by_cases hmay : r.fou.may
        · have HMay := Lib.hid hmay
          have hoff := (fitsB_iff _).1 hmay.1
          have hsym := (fitsB_iff _).1 hmay.2.1
          have HC := Lib.hid fun W => HMY.out r W hmay
          clear hmay
          go_wp2_with fail
          refine (HC.out _).mono ?_
          rintro e w2 ⟨rfl, hbb⟩
          have x0 : w2.cell? ⟨wr.heap.size, 0, none⟩ = some (.int .i64 r.off) := by rw [hbb.cell (by simp)]; simp
          have x1 : w2.cell? ⟨wr.heap.size, 1, none⟩ = some (.int .i64 r.type) := by rw [hbb.cell (by simp)]; simp
          have x2 : w2.cell? ⟨wr.heap.size, 2, none⟩ = some (.int .i64 r.sym) := by rw [hbb.cell (by simp)]; simp
          have hb2 : Below W0.heap.size W0 w2 := (hb.alloc hb.size _).trans (hbb.mono (by simp; exact Nat.le_succ_of_le hb.size))
          obtain ⟨gr, hgr⟩ : ∃ gr, gr = wr.heap.size := ⟨_, rfl⟩
          rw [← hgr] at x0 x1 x2 ⊢
          clear hbb hgr hb e1 e7 e8 f0 f1 f2 f3
          have y1 := cell_later hb2 d1
          have y7 := cell_later hb2 d7
          have y8 := cell_later hb2 d8
          have HWr : Hid (∀ W, Calls Tryz.prog 169 #[.int .i64 r.type] W fun e w' => e = .returned (.int .i64 (widthI r.type)) ∧ w' = W) := Lib.hid fun W => (width_any r.type W).mono fun _ _ x => ⟨x.1, x.2.symm⟩
          have hwd := widthI_bd r.type
          have hok : relOK sl dl r = (decide (r.sym < (sl : Int)) && decide (r.off + widthI r.type ≤ (dl : Int))) := by unfold relOK; rw [decide_eq_true HMay.out]; rfl
          generalize widthI r.type = wd at *
          have hwr : IntKind.i64.wrap (r.off + wd) = r.off + wd := IntWalk.i64_in _ (by have := hoff.1; have := hoff.2; omega)
          obtain ⟨c8, hc8⟩ : ∃ c, c = !(relOK sl dl r) := ⟨_, rfl⟩
          have HC8 := Lib.hid hc8
          rw [hok] at hc8
          clear hok
          go_upto_region 8 with fail
          go_cut [47] (fun s47 wx => s47 = .bool c8 ∧ Below W0.heap.size W0 wx ∧ wx.cell? ⟨gr, 0, none⟩ = some (.int .i64 r.off))
          case first =>
            by_cases hs1 : r.sym < (sl : Int)
            · have hq1 : decide ((sl : Int) ≤ r.sym) = false := decide_eq_false (by omega)
              by_cases hs2 : r.off + wd ≤ (dl : Int)
              · have hq2 : decide ((dl : Int) < r.off + wd) = false := decide_eq_false (by omega)
                rw [decide_eq_true hs1, decide_eq_true hs2] at hc8
                subst hc8
                clear hs1 hs2
                go_quiet (first | (go_at_call 169; refine Calls.quiet_of_same (HWr.out _)) | fail)
                go_wp2_with fail
                go_meet
                exact ⟨rfl, below_drewN hb2 _, x0⟩
              · have hq2 : decide ((dl : Int) < r.off + wd) = true := decide_eq_true (by omega)
                rw [decide_eq_true hs1, decide_eq_false hs2] at hc8
                subst hc8
                clear hs1 hs2
                go_quiet (first | (go_at_call 169; refine Calls.quiet_of_same (HWr.out _)) | fail)
                go_wp2_with fail
                go_meet
                exact ⟨rfl, below_drewN hb2 _, x0⟩
            · have hq1 : decide ((sl : Int) ≤ r.sym) = true := decide_eq_true (by omega)
              rw [decide_eq_false hs1] at hc8
              subst hc8
              clear hs1
              go_quiet (fail)
              go_wp2_with fail
              go_meet
              exact ⟨rfl, below_drewN hb2 _, x0⟩
          case rest =>
            obtain ⟨rfl, hb3, z0⟩ := hcut
            clear hc8 x0 x1 x2 y1 y7 y8 hb2
            cases c8 with
            | true =>
              have hf : relAtB sl dl rs i = false := by
                rw [HAI.out]
                have := HC8.out
                cases hk : relOK sl dl r with
                | true => rw [hk] at this; cases this
                | false => rfl
              have HE := Lib.hid (HAT.out i hlt hf)
              have hbx : Below gb w wc := hb0.trans (hb3.mono (by omega))
              clear hf
              go_wp2_with fail
              go_ret
              subst hgw
              exact ⟨by rw [HE.out]; rfl, hbx⟩
            | false =>
              have hok1 : relOK sl dl r = true := by
                have := HC8.out
                cases hk : relOK sl dl r with
                | true => rfl
                | false => rw [hk] at this; cases this
              have HOK := Lib.hid hok1
              obtain ⟨c10, hc10⟩ : ∃ c, c = !(behindB rs i r) := ⟨_, rfl⟩
              have HC10 := Lib.hid hc10
              have z8 := cell_later hb3 d8
              clear hok1
              go_upto_region 10 with fail
              go_cut [70] (fun s70 wx => s70 = .bool c10 ∧ Below W0.heap.size W0 wx)
              case first =>
                cases i with
                | zero =>
                  subst hc10
                  go_quiet (fail)
                  go_wp2_with fail
                  go_meet
                  exact ⟨rfl, below_drewN hb3 _⟩
                | succ j =>
                  obtain ⟨b', off', q, hpq, hqi, hqe⟩ := HRL.out.at_ (i := j) (by rw [HM.out]; omega)
                  simp only [Option.some.injEq, Addr.mk.injEq, and_true] at hpq
                  obtain ⟨rfl, rfl⟩ := hpq
                  obtain ⟨⟨c0, _⟩, ⟨c1, _⟩, _, _⟩ := hqe
                  have f0 := cell_later hb3 c0
                  have f1 := cell_later hb3 c1
                  have hqok : relOK sl dl q = true := by
                    have := List.all_eq_true.1 HALL.out j (List.mem_range.2 (by omega))
                    rw [relAtB_of hqi, Bool.and_eq_true] at this
                    exact this.1
                  have hqm : q.fou.may := by
                    unfold relOK at hqok
                    rw [Bool.and_eq_true] at hqok
                    exact of_decide_eq_true hqok.1
                  have hqo : 0 ≤ q.off ∧ q.off ≤ 2147483647 := (fitsB_iff _).1 hqm.1
                  have HWq : Hid (∀ W, Calls Tryz.prog 169 #[.int .i64 q.type] W fun e w' => e = .returned (.int .i64 (widthI q.type)) ∧ w' = W) := Lib.hid fun W => (width_any q.type W).mono fun _ _ x => ⟨x.1, x.2.symm⟩
                  have hwq := widthI_bd q.type
                  have hbe : behindB rs (j + 1) r = decide (q.off + widthI q.type ≤ r.off) := by
                    show (match rs[j]? with | none => true | some p => relBehind p r) = _
                    rw [hqi]
                    rfl
                  rw [hbe] at hc10
                  generalize widthI q.type = wq at *
                  have hwr2 : IntKind.i64.wrap (q.off + wq) = q.off + wq := IntWalk.i64_in _ (by have := hqo.1; have := hqo.2; omega)
                  have hk1 : ((j : Int) + 1 - 1) = (j : Int) := by omega
                  have hk0 : (0 : Int) ≤ (j : Int) := by omega
                  have hkm : (j : Int) < (m : Int) := by omega
                  have hk2 : (0 : Int) < (j : Int) + 1 := by omega
                  clear c0 c1 hqi hqok hqm hbe
                  by_cases hs3 : q.off + wq ≤ r.off
                  · have hq3 : decide (r.off < q.off + wq) = false := decide_eq_false (by omega)
                    rw [decide_eq_true hs3] at hc10
                    subst hc10
                    clear hs3
                    go_quiet (first | (go_at_call 169; refine Calls.quiet_of_same (HWq.out _)) | fail)
                    go_wp2_with fail
                    go_meet
                    exact ⟨rfl, below_drewN hb3 _⟩
                  · have hq3 : decide (r.off < q.off + wq) = true := decide_eq_true (by omega)
                    rw [decide_eq_false hs3] at hc10
                    subst hc10
                    clear hs3
                    go_quiet (first | (go_at_call 169; refine Calls.quiet_of_same (HWq.out _)) | fail)
                    go_wp2_with fail
                    go_meet
                    exact ⟨rfl, below_drewN hb3 _⟩
              case rest =>
                obtain ⟨rfl, hb4⟩ := hcut
                clear hc10 hb3 z0 z8
                cases c10 with
                | true =>
                  have hf : relAtB sl dl rs i = false := by
                    rw [HAI.out, HOK.out]
                    have := HC10.out
                    cases hk : behindB rs i r with
                    | true => rw [hk] at this; cases this
                    | false => rfl
                  have HE := Lib.hid (HAT.out i hlt hf)
                  have hbx : Below gb w wc := hb0.trans (hb4.mono (by omega))
                  clear hf
                  go_wp2_with fail
                  go_ret
                  subst hgw
                  exact ⟨by rw [HE.out]; rfl, hbx⟩
                | false =>
                  have hf : relAtB sl dl rs i = true := by
                    rw [HAI.out, HOK.out]
                    have := HC10.out
                    cases hk : behindB rs i r with
                    | true => rfl
                    | false => rw [hk] at this; cases this
                  have HE : Hid ((List.range (i + 1)).all (relAtB sl dl rs) = true) := Lib.hid (by
                    rw [List.range_succ, List.all_append, HALL.out]
                    simp [hf])
                  clear hf
                  go_wp2_with fail
                  go_roundw
                  case rel => exact ⟨i + 1, hlt, by go_num, HE.out, hb4⟩
                  case measure => simp [intOf]; omega
        · have hf : relAtB sl dl rs i = false := by rw [HAI.out]; unfold relOK; rw [decide_eq_false hmay]; rfl
          have HE := Lib.hid (HAT.out i hlt hf)
          have HC := Lib.hid fun W => HMN.out r W hmay
          clear hmay hf
          go_wp2_with fail
          refine (HC.out _).mono ?_
          rintro e w2 ⟨rfl, hbb⟩
          have hbx : Below gb w w2 := hb0.trans ((((hb.alloc hb.size _).trans (hbb.mono (by simp; exact Nat.le_succ_of_le hb.size))).mono (by omega)))
          clear hbb
          go_wp2_with fail
          go_quiet (fail)
          go_wp2_with fail
          go_ret
          subst hgw
          exact ⟨by rw [HE.out]; rfl, below_drewN hbx _⟩
      · have hJ : ¬ (i : Int) < (m : Int) := by omega
        have hE := HY2.out (by rw [show m = i by omega]; exact HALL.out)
        have HE := Lib.hid hE
        clear hE
        go_wp2_with fail
        go_ret
        exact ⟨by rw [HE.out]; rfl, hb0.trans (hb.mono (by omega))⟩

end Go.Proofs.YthnkehdcolnegaaGreat
