/-
  Contracts of the reference's Split and In.
-/
import Derived.Test.YtmcegjkkgbnjlaaPieceMay
import Derived.Test.YtmcegjkkgbnjlaaAppend
import Derived.Deep.QuietTactic
import Derived.BigQuiet
import Derived.Deep.DeepCutAuto
namespace Go.Proofs.Ytmcegjkkgbnjlaa
open Go.RowKit

theorem Try.infoRefPiece : (Try.prog.info? 112).map (fun i => (i.zero, i.size, i.bytes)) = some (some (.agg #[.int .i64 0, .int .i64 0]), 2, 16) := by kernel_rfl
/-- The call hands back pieces, in memory of its own. -/
def GivesP (T : TypeId) (l : List PcD) (w : World) (e : Ending) (w' : World) : Prop := ∃ v, e = .returned v ∧ w'.ownsRow w.heap.size T 2 v l.length (pcV l) ∧ Below w.heap.size w w'
theorem two_cell_at (w : World) (x y : Int) (t : TypeId) : ∀ j z, [Value.int .i64 x, .int .i64 y][j]? = some z → (w.alloc (.cells #[.int .i64 x, .int .i64 y] t)).cell? ((⟨w.heap.size, 0, none⟩ : Addr).add j) = some z := fun j z hj => by
  match j, hj with
  | 0, hj => simp at hj; subst hj; simp [Addr.add]
  | 1, hj => simp at hj; subst hj; simp [Addr.add]
theorem two_cells (x y : Int) : ∀ u ∈ [Value.int .i64 x, .int .i64 y], u.oneCell' = true := fun u hu => by
  simp at hu
  rcases hu with rfl | rfl <;> rfl
def SecBd (s : SecD) : Prop := (-9223372036854775808 ≤ s.flags ∧ s.flags ≤ 9223372036854775807) ∧ (-9223372036854775808 ≤ s.ent ∧ s.ent ≤ 9223372036854775807) ∧ (-9223372036854775808 ≤ s.size ∧ s.size ≤ 9223372036854775807)

set_option maxRecDepth 100000 in
set_option maxHeartbeats 4000000 in
theorem refSplit_any (s : SecD) (dp : Option Addr) (dc : Nat) (vr : Value) (w : World) (hd : HasL 1 EByte w dp s.data) (hbd : SecBd s) (hdl : s.data.length ≤ 100000) :
    Calls Try.prog 70 #[secVS s (.slice dp s.data.length dc) vr] w (GivesP 112 (piecesOf s) w) := by
  obtain ⟨i0, hi, hz0, hz1, hz2⟩ := info_parts Try.infoRefPiece
  have HI := Lib.hid hi
  have H0 := Lib.hid hz0
  have H1 := Lib.hid hz1
  have H2 := Lib.hid hz2
  have hb1 : Below w.heap.size w (w.alloc (.cells #[.string s.name, .int .i64 s.type, .int .i64 s.flags, .int .i64 s.align, .int .i64 s.ent, .int .i64 s.link, .int .i64 s.size, .slice dp s.data.length dc, vr] 104)) := (Below.refl _ w).alloc (Nat.le_refl _) _
  have hd1 := hd.below EByte.keeps hb1
  have hcell : ∀ i v, (#[.string s.name, .int .i64 s.type, .int .i64 s.flags, .int .i64 s.align, .int .i64 s.ent, .int .i64 s.link, .int .i64 s.size, .slice dp s.data.length dc, vr] : Array Value)[i]? = some v → (w.alloc (.cells #[.string s.name, .int .i64 s.type, .int .i64 s.flags, .int .i64 s.align, .int .i64 s.ent, .int .i64 s.link, .int .i64 s.size, .slice dp s.data.length dc, vr] 104)).cell? ⟨w.heap.size, i, none⟩ = some v := fun i v hv =>
    (cell_of_row _ w.heap.size i _ 104 (0, 0) (heap_alloc_new w _)).trans hv
  have a0 := hcell 0 _ rfl
  have a1 := hcell 1 _ rfl
  have a2 := hcell 2 _ rfl
  have a3 := hcell 3 _ rfl
  have a4 := hcell 4 _ rfl
  have a5 := hcell 5 _ rfl
  have a6 := hcell 6 _ rfl
  have a7 := hcell 7 _ rfl
  have a8 := hcell 8 _ rfl
  have HM := Lib.hid fun W => has_any s.name s.type s.flags s.align s.ent s.link s.size (.slice dp s.data.length dc) vr 16 W (by omega) (by omega) hbd.1
  have HS := Lib.hid fun W => has_any s.name s.type s.flags s.align s.ent s.link s.size (.slice dp s.data.length dc) vr 32 W (by omega) (by omega) hbd.1
  have hpo : piecesOf s = bif hasF s.flags 16 then (pcStep (hasF s.flags 32) s.ent s.data s.data.length).1 else [⟨0, s.size⟩] := rfl
  generalize hasF s.flags 16 = q16 at *
  generalize hasF s.flags 32 = q32 at *
  generalize piecesOf s = res at *
  have HPO := Lib.hid hpo
  have hent := hbd.2.1
  generalize hdln : s.data.length = dl at *
  have HDL := Lib.hid hdln
  have HD := Lib.hid hd1
  clear hcell hd hd1 hi hz0 hz1 hz2 hpo hdln hbd
  go_enter Try.func70, Try.ntmps70
  go_upto_region 1 with fail
  generalize hgb : w.heap.size = gb at *
  generalize w.alloc (.cells #[.string s.name, .int .i64 s.type, .int .i64 s.flags, .int .i64 s.align, .int .i64 s.ent, .int .i64 s.link, .int .i64 s.size, .slice dp dl dc, vr] 104) = W1 at *
  go_wp2_with fail
  refine (HM.out _).mono ?_
  rintro e w2 ⟨rfl, hb2⟩
  have x0 := cell_later hb2 a0
  have x1 := cell_later hb2 a1
  have x2 := cell_later hb2 a2
  have x3 := cell_later hb2 a3
  have x4 := cell_later hb2 a4
  have x5 := cell_later hb2 a5
  have x6 := cell_later hb2 a6
  have x7 := cell_later hb2 a7
  have x8 := cell_later hb2 a8
  go_wp2_with fail
  refine (HS.out _).mono ?_
  rintro e w3 ⟨rfl, hb3⟩
  have hgW : gb < W1.heap.size := World.block_lt_of_cell? W1 _ a0
  have hb23 : Below W1.heap.size W1 w3 := hb2.trans (hb3.mono hb2.size)
  have y4 := cell_later hb23 a4
  have y6 := cell_later hb23 a6
  have y7 := cell_later hb23 a7
  have hbw : Below gb w w3 := hb1.trans (hb23.mono (by omega))
  have hg3 : gb < w3.heap.size := World.block_lt_of_cell? w3 _ y4
  have hdw : Hid (HasL 1 EByte w3 dp s.data) := Lib.hid (HD.out.below EByte.keeps hb23)
  clear hb2 hb3 hb23 x0 x1 x2 x3 x4 x5 x6 x7 x8 a0 a1 a2 a3 a4 a5 a6 a7 a8 HD HM HS
  cases q16 with
  | false =>
    have HP : Hid (res = [⟨0, s.size⟩]) := Lib.hid HPO.out
    go_wp2_with fail
    go_ret
    subst hgb
    refine ⟨_, rfl, ?_, hbw.alloc hbw.size _⟩
    rw [HP.out]
    exact World.ownsRow_lit w3 #[.int .i64 0, .int .i64 s.size] 1 hbw.size (by unfold maxLen; omega) rfl
  | true =>
    have HP : Hid (res = (pcStep q32 s.ent s.data dl).1) := Lib.hid HPO.out
    clear HPO
    go_wp2_with fail
    go_loopw [5, 6, 7] (fun r5 r6 r7 wr => ∃ (k a : Nat) (l : List PcD), k ≤ dl ∧ r7 = .int .i64 (k : Int) ∧ r6 = .int .i64 (a : Int) ∧ pcStep q32 s.ent s.data k = (l, a) ∧ a ≤ k ∧ l.length ≤ k ∧ wr.ownsRow w3.heap.size 112 2 r5 l.length (pcV l) ∧ Below w3.heap.size w3 wr) (fun _ _ r7 _ => dl - (intOf r7).toNat)
    case atStart => exact ⟨0, 0, [], Nat.zero_le _, rfl, rfl, rfl, Nat.le_refl _, Nat.le_refl _, World.ownsRow_nil _ _ _ _, Below.refl _ _⟩
    case round =>
      obtain ⟨k, a, l, hk, rfl, rfl, hst, hak, hlk, hown, hb⟩ := hrel
      have HST := Lib.hid hst
      have z4 := cell_later hb y4
      have z7 := cell_later hb y7
      clear hst
      by_cases hlt : k < dl
      · obtain ⟨b, off, x, rfl, hx, hxe⟩ := hdw.out.at_ (i := k) (by rw [HDL.out]; exact hlt)
        have f0 := cell_later hb hxe
        rw [Nat.mul_one] at f0
        have HX := Lib.hid hx
        have hJ : (k : Int) < (dl : Int) := by omega
        have hJ0 : (0 : Int) ≤ (k : Int) := by omega
        have k1 : IntKind.i64.wrap ((k : Int) + 1) = (k : Int) + 1 := IntWalk.i64_in _ (by omega)
        have k2 : IntKind.i64.wrap ((k : Int) + 1 - (a : Int)) = (k : Int) + 1 - (a : Int) := IntWalk.i64_in _ (by omega)
        clear hx hxe
        have hend : endB q32 s.ent a k x = (bif q32 then ((x.toNat : Int) == 0) else ((k : Int) + 1 - (a : Int)) == s.ent) := by
          unfold endB
          cases q32
          · rfl
          · show (x == 0) = ((x.toNat : Int) == 0)
            by_cases h : x = 0
            · subst h; rfl
            · have h2 : ¬ x.toNat = 0 := fun e => h (UInt8.toNat_inj.1 (by simpa using e))
              have e1 : (x == 0) = false := by simpa using h
              have e2 : ((x.toNat : Int) == 0) = false := by simp; omega
              rw [e1, e2]
        have HEND := Lib.hid hend
        clear hend
        cases he : endB q32 s.ent a k x with
        | true =>
          have HN := Lib.hid (pcStep_yes HST.out HX.out he)
          have he2 := HEND.out.symm.trans he
          have hgo : ∀ (v' : Value) (w' : World), w'.ownsRow w3.heap.size 112 2 v' (l.length + 1) (pcV l ++ [.int .i64 (a : Int), .int .i64 ((k : Int) + 1 - (a : Int))]) → w'.ownsRow w3.heap.size 112 2 v' (l ++ [PcD.mk (a : Int) ((k : Int) + 1 - (a : Int))]).length (pcV (l ++ [PcD.mk (a : Int) ((k : Int) + 1 - (a : Int))])) := fun v' w' h => by
            rw [pcV_append, List.length_append]
            exact h
          have HGO := Lib.hid hgo
          clear hgo
          cases q32
          · have he3 : ((k : Int) + 1 - (a : Int) == s.ent) = true := he2
            clear he he2
            go_wp2_with (at_builtin; refine wpList_append_own _ rfl (.tmp 42) (.tmp 49) 108 rfl w3.heap.size 112 i0 (.agg #[.int .i64 0, .int .i64 0]) 2 16 Try.underlying108 HI.out H0.out H1.out H2.out rfl (by decide) _ _ _ rfl (hown.alloc _) ⟨wr.heap.size, 0, none⟩ 1 1 [.int .i64 (a : Int), .int .i64 ((k : Int) + 1 - (a : Int))] rfl rfl (two_cell_at wr _ _ _) (two_cells _ _) (by unfold maxLen; omega) (by omega) (by have := hb.size; simp; omega) ?_)
            intro v1 w4 hown4 hgrow4 _
            have hb4 : Below w3.heap.size w3 w4 := (hb.alloc hb.size _).grown hgrow4 (by have := hb.size; simp; omega) (fun g hg => (hown.lt g hg).1)
            have hown5 := HGO.out _ _ hown4
            clear hgrow4 hown4 hown hb
            go_wp2_with fail
            go_roundw
            case rel => exact ⟨k + 1, k + 1, _, hlt, by go_num, by go_num, HN.out, Nat.le_refl _, by simp; omega, hown5, hb4⟩
            case measure => simp [intOf]; omega
          · have he3 : ((x.toNat : Int) == 0) = true := he2
            clear he he2
            go_wp2_with (at_builtin; refine wpList_append_own _ rfl (.tmp 42) (.tmp 49) 108 rfl w3.heap.size 112 i0 (.agg #[.int .i64 0, .int .i64 0]) 2 16 Try.underlying108 HI.out H0.out H1.out H2.out rfl (by decide) _ _ _ rfl (hown.alloc _) ⟨wr.heap.size, 0, none⟩ 1 1 [.int .i64 (a : Int), .int .i64 ((k : Int) + 1 - (a : Int))] rfl rfl (two_cell_at wr _ _ _) (two_cells _ _) (by unfold maxLen; omega) (by omega) (by have := hb.size; simp; omega) ?_)
            intro v1 w4 hown4 hgrow4 _
            have hb4 : Below w3.heap.size w3 w4 := (hb.alloc hb.size _).grown hgrow4 (by have := hb.size; simp; omega) (fun g hg => (hown.lt g hg).1)
            have hown5 := HGO.out _ _ hown4
            clear hgrow4 hown4 hown hb
            go_wp2_with fail
            go_roundw
            case rel => exact ⟨k + 1, k + 1, _, hlt, by go_num, by go_num, HN.out, Nat.le_refl _, by simp; omega, hown5, hb4⟩
            case measure => simp [intOf]; omega
        | false =>
          have HN := Lib.hid (pcStep_no HST.out HX.out he)
          have he2 := HEND.out.symm.trans he
          cases q32
          · have he3 : ((k : Int) + 1 - (a : Int) == s.ent) = false := he2
            clear he he2
            go_wp2_with fail
            go_roundw
            case rel => exact ⟨k + 1, a, l, hlt, by go_num, rfl, HN.out, by omega, by omega, hown, hb⟩
            case measure => simp [intOf]; omega
          · have he3 : ((x.toNat : Int) == 0) = false := he2
            clear he he2
            go_wp2_with fail
            go_roundw
            case rel => exact ⟨k + 1, a, l, hlt, by go_num, rfl, HN.out, by omega, by omega, hown, hb⟩
            case measure => simp [intOf]; omega
      · have hJ : ¬ (k : Int) < (dl : Int) := by omega
        have HE : Hid (res = l) := Lib.hid (by rw [HP.out, show dl = k by omega, HST.out])
        have HOW := Lib.hid hown
        clear hown
        go_wp2_with fail
        go_ret
        subst hgb
        refine ⟨_, rfl, ?_, hbw.trans (hb.mono (by omega))⟩
        rw [HE.out]
        exact owns_lower HOW.out (by omega)

theorem inB2_1 {n i : Nat} {at_ : Int} {p : PcD} (h : ¬ p.at_ ≤ at_) : inB2 n at_ i p = false := by unfold inB2; rw [decide_eq_false h]; rfl
theorem inB2_2 {n i : Nat} {at_ : Int} {p : PcD} (h : p.at_ ≤ at_) (h2 : at_ < p.at_ + p.size) : inB2 n at_ i p = true := by unfold inB2; rw [decide_eq_true h, decide_eq_true h2]; rfl
theorem inB2_3 {n i : Nat} {at_ : Int} {p : PcD} (h : p.at_ ≤ at_) (h2 : ¬ at_ < p.at_ + p.size) (c3 c4 : Bool) (h3 : ((i : Int) == (n : Int) - 1) = c3) (h4 : (at_ == p.at_ + p.size) = c4) : inB2 n at_ i p = (c3 && c4) := by unfold inB2; rw [decide_eq_true h, decide_eq_false h2, h3, h4]; rfl

set_option maxRecDepth 100000 in
set_option maxHeartbeats 4000000 in
theorem refIn_any (pp : Option Addr) (c n : Nat) (l : List PcD) (at_ : Int) (w : World) (h : HasL 2 EPc w pp l) (hlen : l.length = n) (hn : n ≤ 100000) (hb0 : ∀ p ∈ l, 0 ≤ p.at_ ∧ 0 ≤ p.size ∧ p.at_ + p.size ≤ 2147483647) :
    Calls Try.prog 72 #[.slice pp n c, .int .i64 at_] w fun e w' => e = .returned (.int .i64 (inP l at_)) ∧ Below w.heap.size w w' := by
  have HH := Lib.hid h
  have HL := Lib.hid hlen
  have HB := Lib.hid hb0
  have hp : inP l at_ = inStep l at_ n := by unfold inP; rw [hlen]
  have HP := Lib.hid hp
  have hst : ∀ (i : Nat) (p : PcD), l[i]? = some p → inStep l at_ (i + 1) = bif inB2 n at_ i p then (i : Int) else inStep l at_ i := fun i p h => by rw [← hlen]; exact inStep_some h
  have HST := Lib.hid hst
  clear h hlen hb0 hp hst
  go_enter Try.func72, Try.ntmps72
  go_wp2_with fail
  go_loopw [5, 6] (fun r5 r6 wr => ∃ i : Nat, i ≤ n ∧ r6 = .int .i64 (i : Int) ∧ r5 = .int .i64 (inStep l at_ i) ∧ Below w.heap.size w wr) (fun _ r6 _ => n - (intOf r6).toNat)
  case atStart => exact ⟨0, Nat.zero_le _, rfl, rfl, Below.refl _ _⟩
  case round =>
    obtain ⟨i, hi, rfl, rfl, hb⟩ := hrel
    by_cases hlt : i < n
    · obtain ⟨b, off, p, rfl, hpi, ⟨⟨d0, _⟩, ⟨d1, _⟩⟩⟩ := HH.out.at_ (i := i) (by rw [HL.out]; exact hlt)
      have f0 := cell_later hb d0
      have f1 := cell_later hb d1
      have hbp := HB.out p (List.mem_of_getElem? hpi)
      have HS := Lib.hid (HST.out i p hpi)
      have hJ : (i : Int) < (n : Int) := by omega
      have hJ0 : (0 : Int) ≤ (i : Int) := by omega
      have k1 : IntKind.i64.wrap (p.at_ + p.size) = p.at_ + p.size := IntWalk.i64_in _ (by omega)
      have k2 : IntKind.i64.wrap ((n : Int) - 1) = (n : Int) - 1 := IntWalk.i64_in _ (by omega)
      obtain ⟨c5, hc5⟩ : ∃ c5, c5 = inB2 n at_ i p := ⟨_, rfl⟩
      have HC5 := Lib.hid hc5
      generalize hz : inStep l at_ i = z at *
      clear d0 d1 hpi
      go_upto_region 5 with fail
      go_cut [56] (fun s56 wx => s56 = .bool c5 ∧ Below w.heap.size w wx)
      case first =>
        by_cases t1 : p.at_ ≤ at_
        · have t1d : decide (p.at_ ≤ at_) = true := decide_eq_true t1
          by_cases t2 : at_ < p.at_ + p.size
          · have t2d : decide (at_ < p.at_ + p.size) = true := decide_eq_true t2
            rw [inB2_2 t1 t2] at hc5
            subst hc5
            clear t1 t2
            go_quiet (fail)
            go_wp2_with fail
            go_meet
            exact ⟨rfl, below_drewN hb _⟩
          · have t2d : decide (at_ < p.at_ + p.size) = false := decide_eq_false t2
            cases t3 : ((i : Int) == (n : Int) - 1) with
            | false =>
              have hc6 : c5 = false := by rw [hc5, inB2_3 t1 t2 false _ t3 rfl]; rfl
              clear hc5
              subst hc6
              clear t1 t2
              go_quiet (fail)
              go_wp2_with fail
              go_meet
              exact ⟨rfl, below_drewN hb _⟩
            | true =>
              cases t4 : (at_ == p.at_ + p.size) with
              | false =>
                have hc6 : c5 = false := by rw [hc5, inB2_3 t1 t2 true false t3 t4]; rfl
                clear hc5
                subst hc6
                clear t1 t2
                go_quiet (fail)
                go_wp2_with fail
                go_meet
                exact ⟨rfl, below_drewN hb _⟩
              | true =>
                have hc6 : c5 = true := by rw [hc5, inB2_3 t1 t2 true true t3 t4]; rfl
                clear hc5
                subst hc6
                clear t1 t2
                go_quiet (fail)
                go_wp2_with fail
                go_meet
                exact ⟨rfl, below_drewN hb _⟩
        · have t1d : decide (p.at_ ≤ at_) = false := decide_eq_false t1
          rw [inB2_1 t1] at hc5
          subst hc5
          clear t1
          go_quiet (fail)
          go_wp2_with fail
          go_meet
          exact ⟨rfl, below_drewN hb _⟩
      case rest =>
        obtain ⟨rfl, hb2⟩ := hcut
        clear hc5
        cases c5 with
        | true =>
          have HE : Hid (inStep l at_ (i + 1) = (i : Int)) := Lib.hid (by rw [HS.out, ← HC5.out]; rfl)
          go_wp2_with fail
          go_roundw
          case rel => exact ⟨i + 1, hlt, by go_num, by rw [HE.out], hb2⟩
          case measure => simp [intOf]; omega
        | false =>
          have HE : Hid (inStep l at_ (i + 1) = z) := Lib.hid (by rw [HS.out, ← HC5.out, ← hz]; rfl)
          clear hz
          go_wp2_with fail
          go_roundw
          case rel => exact ⟨i + 1, hlt, by go_num, by rw [HE.out], hb2⟩
          case measure => simp [intOf]; omega
    · have hJ : ¬ (i : Int) < (n : Int) := by omega
      have HE : Hid (inP l at_ = inStep l at_ i) := Lib.hid (by rw [HP.out, show n = i by omega])
      generalize inStep l at_ i = z at *
      go_wp2_with fail
      go_ret
      exact ⟨by rw [HE.out]; rfl, hb⟩

end Go.Proofs.Ytmcegjkkgbnjlaa
