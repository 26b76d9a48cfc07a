/-
  Contract of the reference's relParts.
  Contract: the reference's Digits: the number that begins at a place, and how many bytes it has.
  Contracts: the reference's Uleb: a number's bytes; the reference's List: all numbers of some bytes.
  Contract of the reference's groupParts.
-/
import Derived.Test.YthnkehdcolnegaaGreatNR25
import Derived.Test.YthnkehdcolnegaaGreatNR16
import Derived.Test.YthnkehdcolnegaaGreatNR24
import Derived.Test.YthnkehdcolnegaaGreatChecked
import Derived.LoopTactic
import Derived.Lib.Hide
import Derived.Outline
import Derived.Test.YthnkehdcolnegaaGreatMem
import Derived.Deep.DeepCutAuto
import Derived.Deep.CutBlock
namespace Go.Proofs.YthnkehdcolnegaaGreat
open Go.RowKit

theorem Tryz.infoRefPart : (Tryz.prog.info? 106).map (fun i => (i.zero, i.size, i.bytes)) = some (some (.agg #[.int .i64 0, .int .i64 0, .int .i64 0, .int .i64 0, .int .i64 0, .int .i64 0, .int .i64 0, .int .i64 0, .int .i64 0, .int .i64 0, .string ⟨#[]⟩, .slice none 0 0]), 12, 120) := by kernel_rfl
set_option maxRecDepth 100000 in
set_option maxHeartbeats 4000000 in
theorem relParts_any (o : ObjD) (v0 v1 v2 v4 : Value) (a : Int) (w : World) (hp : IsL 9 ESec w v0 o.secs) (hl : Lays o) :
    Calls Tryz.prog 34 #[objV v0 v1 v2 o.hasSig v4, .int .i64 a] w (GivesParts 106 true w.heap.size (relPs a o.secs o.secs.length) w) := by
  obtain ⟨i0, hi, hz0, hz1, hz2⟩ := info_parts Tryz.infoRefPart
  have HI := Lib.hid hi
  have H0 := Lib.hid hz0
  have H1 := Lib.hid hz1
  have H2 := Lib.hid hz2
  obtain ⟨i1, gi, gz0, gz1, gz2⟩ := info_parts Tryz.infoU8
  have GI := Lib.hid gi
  have G0 := Lib.hid gz0
  have G1 := Lib.hid gz1
  have G2 := Lib.hid gz2
  have hb1 : Below w.heap.size w (w.alloc (.cells #[v0, v1, v2, .bool o.hasSig, v4] 27)) := (Below.refl _ w).alloc (Nat.le_refl _) _
  have hq := hp.below ESec.keeps hb1
  obtain ⟨p0, c0, rfl, q1, q2, _, hqh⟩ := hq
  have a0 : (w.alloc (.cells #[.slice p0 o.secs.length c0, v1, v2, .bool o.hasSig, v4] 27)).cell? ⟨w.heap.size, 0, none⟩ = some (.slice p0 o.secs.length c0) := by simp
  have hgs : (w.alloc (.cells #[.slice p0 o.secs.length c0, v1, v2, .bool o.hasSig, v4] 27)).heap.size = w.heap.size + 1 := by simp
  have hns := hl.nsec
  have HS := Lib.hid hl.secs
  have HQ := Lib.hid hqh
  have HB1 := Lib.hid hb1
  generalize hql : o.secs.length = ql at *
  have HQL := Lib.hid hql
  have HGS := Lib.hid hgs
  clear hp hl hi hz0 hz1 hz2 gi gz0 gz1 gz2 hb1 hqh hql q1 q2
  go_enter Tryz.func34, Tryz.ntmps34
  go_upto_region 1 with fail
  generalize w.alloc (.cells #[.slice p0 ql c0, v1, v2, .bool o.hasSig, v4] 27) = W1 at *
  have hgs2 : w.heap.size < W1.heap.size := by omega
  clear hgs
  generalize o.hasSig = sg at *
  go_wp2_with fail
  go_loopw [5, 6] (fun r5 r6 wr => ∃ (k : Nat) (pv : List PV) (pd : List PartD), k ≤ ql ∧ r6 = .int .i64 ((k : Int) + 1) ∧ pd = relPs a o.secs k ∧ pd.length ≤ k ∧ wr.ownsRow W1.heap.size 106 12 r5 pd.length (pvs true pv) ∧ PartsAt wr (fun b => W1.heap.size ≤ b ∧ some b ≠ r5.ownBlock) pv pd ∧ Below W1.heap.size W1 wr) (fun _ r6 _ => ql + 1 - (intOf r6).toNat)
  case atStart => exact ⟨0, [], [], Nat.zero_le _, rfl, rfl, Nat.le_refl _, World.ownsRow_nil _ _ _ _, PartsAt.nil _ _, Below.refl _ _⟩
  case round =>
    obtain ⟨k, pv, pd, hk, rfl, hpd, hpl, hown, hpa, hb⟩ := hrel
    have HPD := Lib.hid hpd
    have HPA := Lib.hid hpa
    have z0 := cell_later hb a0
    clear hpd hpa
    by_cases hlt : k < ql
    · obtain ⟨b, off, s, rfl, hsk, hse⟩ := HQ.out.at_ (i := k) (by rw [HQL.out]; exact hlt)
      obtain ⟨_, _, _, _, _, _, _, _, ⟨vr, d8, hvr⟩⟩ := hse
      obtain ⟨rp, rc, rfl, r1, r2, _, hrh⟩ := hvr
      have e8 := cell_later hb d8
      have HRH := Lib.hid (hrh.below ERel.keeps hb)
      have hsm := HS.out s (List.mem_of_getElem? hsk)
      have hrl := hsm.2.2.2.2.2.2.2.2.1
      have HR := Lib.hid hsm.2.2.2.2.2.2.2.2.2.2
      have HPS := Lib.hid (relPs_succ (a := a) hsk)
      generalize hrn : s.rels.length = rl at *
      have HRN := Lib.hid hrn
      have hJ : (k : Int) + 1 ≤ (ql : Int) := by omega
      have k1 : IntKind.i64.wrap ((k : Int) + 1 - 1) = (k : Int) := by rw [show (k : Int) + 1 - 1 = (k : Int) by omega]; exact IntWalk.i64_in _ (by omega)
      have k2 : (0 : Int) ≤ (k : Int) := by omega
      have k3 : (k : Int) < (ql : Int) := by omega
      have k4 : IntKind.i64.wrap ((k : Int) + 1 + 1) = (k : Int) + 1 + 1 := IntWalk.i64_in _ (by omega)
      clear hsk d8 hrh hsm hrn r1 r2
      generalize wr = wo at *
      go_wp2_with fail
      go_loopw [7, 9] (fun r7 r9 wx => ∃ (j n : Nat), j ≤ rl ∧ r9 = .int .i64 (j : Int) ∧ n = 24 * j ∧ wx.ownsRow wo.heap.size 5 1 r7 n ((relsBy (s.rels.take j)).map u8v) ∧ Below wo.heap.size wo wx) (fun _ r9 _ => rl - (intOf r9).toNat)
      case atStart => exact ⟨0, 0, Nat.zero_le _, rfl, rfl, World.ownsRow_nil _ _ _ _, Below.refl _ _⟩
      case round =>
        obtain ⟨j, n, hj, rfl, hn, hob, hbx⟩ := hrel
        have HN := Lib.hid hn
        by_cases hjl : j < rl
        · obtain ⟨b2, off2, r, rfl, hrj, ⟨x0, _⟩, ⟨x1, _⟩, ⟨x2, _⟩, ⟨x3, _⟩⟩ := HRH.out.at_ (i := j) (by rw [HRN.out]; exact hjl)
          have d0 := cell_later hbx x0
          have d1 := cell_later hbx x1
          have d2 := cell_later hbx x2
          have d3 := cell_later hbx x3
          have hmay := HR.out r (List.mem_of_getElem? hrj)
          have HC := Lib.hid fun W => relBytes_yes (fouOf r) W hmay.1 hmay.2
          have HST : Hid (relsBy (s.rels.take (j + 1)) = relsBy (s.rels.take j) ++ relB (fouOf r)) := Lib.hid (by rw [List.take_add_one, hrj]; exact relsBy_snoc _ _)
          have hJ1 : (j : Int) < (rl : Int) := by omega
          have hJ2 : (0 : Int) ≤ (j : Int) := by omega
          clear hrj hmay x0 x1 x2 x3 hn
          go_wp2_with fail
          refine (HC.out _).mono ?_
          rintro e w2 ⟨v2', rfl, hown2, hbb2⟩
          have hob2 := owns_below hob hbb2
          have hbx2 : Below wo.heap.size wo w2 := hbx.trans (hbb2.mono hbx.size)
          obtain ⟨p2, cc2, rfl, g1, g2, g3, g4⟩ := Has.of_owns hown2
          have hpn : p2 = none → cc2 = 0 := fun h => by
            subst h
            rcases hown2.2 with ⟨h1, _⟩ | ⟨g, cap, cur, h1, _⟩ <;> simp at h1
            exact h1.2
          have HG4 := Lib.hid g4
          have hn80 : n ≤ 2000 := by have := HN.out; omega
          clear hown2 hbb2 hob hbx d0 d1 d2 d3 g4
          go_wp2_with (at_builtin; refine wpList_append_bytes _ rfl (.tmp 30) (.tmp 35) 31 rfl wo.heap.size 5 i1 Tryz.underlying31 GI.out G0.out G1.out G2.out _ n _ rfl hob2 p2 24 cc2 (relB (fouOf r)) rfl HG4.out rfl hpn (by omega) hbx2.size ?_)
          intro v3 w3 hob3 hg3 _
          have hbx3 : Below wo.heap.size wo w3 := hbx2.grown hg3 hbx2.size (fun g hg => (hob2.lt g hg).1)
          rw [← List.map_append, ← HST.out] at hob3
          clear hob2 hbx2 hg3
          go_wp2_with fail
          go_roundw
          case rel => exact ⟨j + 1, n + 24, hjl, by go_num, by have := HN.out; omega, hob3, hbx3⟩
          case measure => simp [intOf]; omega
        · obtain rfl : j = rl := by omega
          have hobd : wr.ownsRow wo.heap.size 5 1 u7 n ((relsBy s.rels).map u8v) := by
            rw [List.take_of_length_le (by rw [HRN.out]; exact Nat.le_refl _)] at hob
            exact hob
          have hown2 := owns_belowN hown hbx
          have hpa2 : Hid (PartsAt wr (fun b => W1.heap.size ≤ b ∧ some b ≠ u5.ownBlock) pv pd) := Lib.hid (HPA.out.below hbx)
          have hb2 : Below W1.heap.size W1 wr := hb.trans (hbx.mono hb.size)
          have hbs := hb.size
          have hJ1 : ¬ (j : Int) < (j : Int) := by omega
          have hu5 := fun g hg => (hown.lt g hg).2
          clear hob hown HPA hb e8 z0 hn
          rcases Nat.eq_zero_or_pos j with h0 | h0
          · subst h0
            have hE : Hid (relPs a o.secs (k + 1) = pd) := Lib.hid (by rw [HPS.out, ← HPD.out]; unfold relPart; rw [if_pos HRN.out]; simp)
            go_wp2_with fail
            go_roundw
            case rel => exact ⟨k + 1, pv, pd, hlt, by go_num, hE.out.symm, by omega, hown2, hpa2.out, hb2⟩
            case measure => simp [intOf]; omega
          · have hj0 : (0 : Int) < (j : Int) := by omega
            obtain ⟨p7, c7, rfl, _, _, _, _⟩ := Has.of_owns hobd
            have hsl : PartsAt wr (fun b => W1.heap.size ≤ b ∧ some b ≠ u5.ownBlock) [⟨relHead a ((k : Int) + 1), nRela, (.slice p7 n c7)⟩] [⟨relHead a ((k : Int) + 1), nRela, relsBy s.rels⟩] := PartsAt.one (SlB.of_owns hobd fun b hb => by
              have h1 := (hobd.lt b hb).1
              exact ⟨by omega, fun e => by have := hu5 b e.symm; omega⟩)
            have HSL := Lib.hid hsl
            have hE : Hid (relPs a o.secs (k + 1) = pd ++ [⟨relHead a ((k : Int) + 1), nRela, relsBy s.rels⟩]) := Lib.hid (by rw [HPS.out, ← HPD.out]; unfold relPart; rw [if_neg (by rw [HRN.out]; omega)])
            have h1c : ∀ u ∈ PV.cells true ⟨relHead a ((k : Int) + 1), nRela, (.slice p7 n c7)⟩, u.oneCell' = true := fun u hu => (hsl.oneCell (q := true)) u (by simpa [pvs] using hu)
            have H1C := Lib.hid h1c
            have hbz := hb2.size
            clear hsl hu5 h1c hobd
            go_wp2_with (at_builtin; refine wpList_append_own_at _ rfl (.tmp 40) (.tmp 46) 107 rfl W1.heap.size 106 i0 _ 12 120 Tryz.underlying107 HI.out H0.out H1.out H2.out rfl (by decide) _ pd.length _ rfl (hown2.alloc _) ⟨wr.heap.size, 0, none⟩ 1 1 (PV.cells true ⟨relHead a ((k : Int) + 1), nRela, (.slice p7 n c7)⟩) rfl rfl (ten_cell_at wr _ _) H1C.out (by unfold maxLen; omega) (by omega) (by simp; omega) ?_)
            intro v1 w4 hown4 hg4 _ hat4
            have HP := Lib.hid (push_part hpa2.out HSL.out hown4 hg4 hat4)
            have hb4 : Below W1.heap.size W1 w4 := (hb2.alloc hb2.size _).grown hg4 (by simp; omega) (fun g hg => (hown2.lt g hg).1)
            clear hown4 hg4 hat4 hown2 hpa2 HSL hb2
            go_wp2_with fail
            go_roundw
            case rel => exact ⟨k + 1, _, _, hlt, by go_num, hE.out.symm, by simp; omega, HP.out.1, HP.out.2, hb4⟩
            case measure => simp [intOf]; omega
    · obtain rfl : k = ql := by omega
      have hJ : ¬ (k : Int) + 1 ≤ (k : Int) := by omega
      go_wp2_with fail
      go_ret
      refine ⟨u5, pv, rfl, ?_, ?_, HB1.out.trans (hb.mono (by omega))⟩
      · rw [← HPD.out]
        exact owns_lower hown (by omega)
      · rw [← HPD.out]
        exact HPA.out.weaken fun b hb h => ⟨by omega, h.2⟩
end Go.Proofs.YthnkehdcolnegaaGreat

namespace Go.Proofs.YthnkehdcolnegaaGreat
open Go.RowKit

end Go.Proofs.YthnkehdcolnegaaGreat

namespace Go.Proofs.YthnkehdcolnegaaGreat
open Go.RowKit

theorem ulebB_pos (f n : Nat) (h : 0 < f) : 0 < (ulebB f n).length := by
  cases f with
  | zero => omega
  | succ f =>
    unfold ulebB
    split <;> simp

theorem one_owns {w : World} (x : UInt8) : (w.alloc (.cells #[u8v x] 5)).ownsRow w.heap.size 5 1 (.slice (some ⟨w.heap.size, 0, none⟩) 1 1) 1 ([x].map u8v) :=
  World.ownsRow_lit w #[u8v x] 1 (Nat.le_refl _) (by unfold maxLen; omega) rfl

set_option maxRecDepth 100000 in
theorem refUleb_yes (f : Nat) : ∀ (n : Nat) (w : World), n < 128 ^ f → n ≤ 2147483647 → 0 < f → f ≤ 5 →
    Calls Tryz.prog 82 #[.int .i64 n] w (Gives (ulebB f n) w) := by
  induction f with
  | zero => intro n w _ _ h _; exact absurd h (by omega)
  | succ f ih =>
    intro n w hn hm _ hf5
    have IH := Lib.hid ih
    clear ih
    by_cases h : n < 128
    · have HU : Hid (ulebB (f + 1) n = [UInt8.ofNat n]) := Lib.hid (by simp [ulebB, h])
      have HB : Hid (Value.int .u8 (n : Int) = u8v (UInt8.ofNat n)) := Lib.hid (by unfold u8v; congr 1; simp; omega)
      have hmI : (n : Int) ≤ 2147483647 := by omega
      clear hn hm
      go_enter Tryz.func82, Tryz.ntmps82
      go_wp2_with fail
      go_ret
      refine ⟨_, rfl, ?_, (Below.refl _ w).alloc (Nat.le_refl _) _⟩
      rw [HU.out]
      show (w.alloc (.cells #[Value.int .u8 (n : Int)] 5)).ownsRow _ _ _ _ _ _
      rw [HB.out]
      exact one_owns _
    · have hf : 0 < f := by
        rcases Nat.eq_zero_or_pos f with h0 | h0
        · subst h0
          simp at hn
          omega
        · exact h0
      have hd : n / 128 < 128 ^ f := by
        rw [Nat.pow_succ] at hn
        exact Nat.div_lt_of_lt_mul (by rw [Nat.mul_comm]; exact hn)
      obtain ⟨d, hdd⟩ : ∃ d, d = UInt8.ofNat (128 + n % 128) := ⟨_, rfl⟩
      have HU : Hid (ulebB (f + 1) n = d :: ulebB f (n / 128)) := Lib.hid (by rw [hdd]; simp [ulebB, h])
      have HB : Hid (Value.int .u8 (128 + (n : Int) % 128) = u8v d) := Lib.hid (by rw [hdd]; unfold u8v; congr 1; simp; omega)
      clear hdd
      have HR : Hid (∀ W : World, Calls Tryz.prog 82 #[.int .i64 ((n : Int) / 128)] W (GivesH (ulebB f (n / 128)).length (ulebB f (n / 128)) W)) := Lib.hid fun W => by
        rw [show (n : Int) / 128 = ((n / 128 : Nat) : Int) by omega]
        exact (IH.out (n / 128) W hd (by omega) hf (by omega)).mono fun _ _ h => h.toH
      have hl1 := ulebB_length f (n / 128)
      have hl2 := ulebB_pos f (n / 128) hf
      have HW : Hid ((w.alloc (.cells #[Value.int .u8 (128 + (n : Int) % 128)] 5)).ownsRow w.heap.size 5 1 (.slice (some ⟨w.heap.size, 0, none⟩) 1 1) 1 ([d].map u8v)) := Lib.hid (by rw [HB.out]; exact one_owns _)
      have HBel : Hid (Below w.heap.size w (w.alloc (.cells #[Value.int .u8 (128 + (n : Int) % 128)] 5))) := Lib.hid ((Below.refl _ w).alloc (Nat.le_refl _) _)
      generalize hll : (ulebB f (n / 128)).length = m at *
      have HM := Lib.hid hll
      obtain ⟨i0, hi, hz0, hz1, hz2⟩ := info_parts Tryz.infoU8
      have HI := Lib.hid hi
      have H0 := Lib.hid hz0
      have H1 := Lib.hid hz1
      have H2 := Lib.hid hz2
      have hmI : (n : Int) ≤ 2147483647 := by omega
      have h0I : (0 : Int) ≤ (n : Int) := by omega
      clear hn hm hd hi hz0 hz1 hz2 hll
      go_enter Tryz.func82, Tryz.ntmps82
      go_wp2_with fail
      refine (HR.out _).mono ?_
      rintro e w2 ⟨p2, c2, rfl, _, hnc2, hcm2, hH2, hb2⟩
      obtain ⟨b2, off2, rfl, _⟩ := hH2.plain (by rw [HM.out]; exact hl2)
      have ho := owns_below HW.out hb2
      have hb02 : Below w.heap.size w w2 := HBel.out.trans (hb2.mono HBel.out.size)
      have HH2 := Lib.hid hH2
      clear hH2 hb2
      go_wp2_with (at_builtin; refine wpList_append_own _ rfl _ _ 31 rfl w.heap.size 5 i0 (.int .u8 0) 1 1 Tryz.underlying31 HI.out H0.out H1.out H2.out rfl (by decide) _ _ _ rfl ho ⟨b2, off2, none⟩ m c2 ((ulebB f (n / 128)).map u8v) rfl (by rw [List.length_map, HM.out, Nat.mul_one]) HH2.out.cells (map_oneCell _) ?c3 ?c4 hb02.size ?_)
      case c3 => unfold maxLen; omega
      case c4 => omega
      intro v' w3 ho' hg _
      have hb3 : Below w.heap.size w w3 := hb02.grown hg hb02.size (fun g hg => (ho.lt g hg).1)
      clear hg ho hb02
      go_wp2_with fail
      go_ret
      refine ⟨_, rfl, ?_, hb3⟩
      rw [HU.out, List.length_cons, HM.out, Nat.add_comm m 1]
      exact ho'

end Go.Proofs.YthnkehdcolnegaaGreat

namespace Go.Proofs.YthnkehdcolnegaaGreat
open Go.RowKit

set_option maxRecDepth 100000 in
set_option maxHeartbeats 4000000 in
theorem groupParts_any (o : ObjD) (v0 v1 v2 v4 : Value) (a : Int) (w : World) (hp : IsL 2 EGroup w v2 o.groups) (hx : IsL 1 EInt w v4 o.sig) (hl : Lays o) :
    Calls Tryz.prog 35 #[objV v0 v1 v2 o.hasSig v4, .int .i64 a] w (GivesParts 106 true w.heap.size (groupPs a o.groups o.hasSig o.sig) w) := by
  obtain ⟨i0, hi, hz0, hz1, hz2⟩ := info_parts Tryz.infoRefPart
  have HI := Lib.hid hi
  have H0 := Lib.hid hz0
  have H1 := Lib.hid hz1
  have H2 := Lib.hid hz2
  obtain ⟨i1, gi, gz0, gz1, gz2⟩ := info_parts Tryz.infoU8
  have GI := Lib.hid gi
  have G0 := Lib.hid gz0
  have G1 := Lib.hid gz1
  have G2 := Lib.hid gz2
  have hb1 : Below w.heap.size w (w.alloc (.cells #[v0, v1, v2, .bool o.hasSig, v4] 27)) := (Below.refl _ w).alloc (Nat.le_refl _) _
  have hq := hp.below EGroup.keeps hb1
  have hq4 := hx.below EInt.keeps hb1
  obtain ⟨p2, c2, rfl, q1, q2, _, hqh⟩ := hq
  obtain ⟨p4, c4, rfl, x1, x2, _, hxh⟩ := hq4
  have a2 : (w.alloc (.cells #[v0, v1, .slice p2 o.groups.length c2, .bool o.hasSig, .slice p4 o.sig.length c4] 27)).cell? ⟨w.heap.size, 2, none⟩ = some (.slice p2 o.groups.length c2) := by simp
  have a3 : (w.alloc (.cells #[v0, v1, .slice p2 o.groups.length c2, .bool o.hasSig, .slice p4 o.sig.length c4] 27)).cell? ⟨w.heap.size, 3, none⟩ = some (.bool o.hasSig) := by simp
  have a4 : (w.alloc (.cells #[v0, v1, .slice p2 o.groups.length c2, .bool o.hasSig, .slice p4 o.sig.length c4] 27)).cell? ⟨w.heap.size, 4, none⟩ = some (.slice p4 o.sig.length c4) := by simp
  have hgs : (w.alloc (.cells #[v0, v1, .slice p2 o.groups.length c2, .bool o.hasSig, .slice p4 o.sig.length c4] 27)).heap.size = w.heap.size + 1 := by simp
  have hng := hl.ngrp
  have hnx := hl.nsig
  have HS := Lib.hid hl.grps
  have HX := Lib.hid hl.sigs
  have HQ := Lib.hid hqh
  have HXH := Lib.hid hxh
  have HB1 := Lib.hid hb1
  have hres : groupPs a o.groups o.hasSig o.sig = o.groups.map (groupPart a) ++ bif o.hasSig then [sigPart a o.sig] else [] := rfl
  generalize groupPs a o.groups o.hasSig o.sig = res at *
  generalize hgl : o.groups.length = gl at *
  generalize hxl : o.sig.length = xl at *
  generalize o.hasSig = sg at *
  have HGL := Lib.hid hgl
  have HXL := Lib.hid hxl
  have HRES := Lib.hid hres
  clear hp hx hl hi hz0 hz1 hz2 gi gz0 gz1 gz2 hb1 hqh hxh hgl hxl q1 q2 x1 x2 hres
  go_enter Tryz.func35, Tryz.ntmps35
  go_upto_region 1 with fail
  generalize w.alloc (.cells #[v0, v1, .slice p2 gl c2, .bool sg, .slice p4 xl c4] 27) = W1 at *
  have hgs2 : w.heap.size < W1.heap.size := by omega
  clear hgs
  go_upto_block 0 with fail
  go_cut [5] (fun r5 wr => ∃ (pv : List PV) (pd : List PartD), pd = o.groups.map (groupPart a) ∧ pd.length ≤ gl ∧ wr.ownsRow W1.heap.size 106 12 r5 pd.length (pvs true pv) ∧ PartsAt wr (fun b => W1.heap.size ≤ b ∧ some b ≠ r5.ownBlock) pv pd ∧ Below W1.heap.size W1 wr)
  case first =>
    clear HRES HX HXH HXL
    go_wp2_with fail
    go_loopw [5, 6] (fun r5 r6 wr => ∃ (k : Nat) (pv : List PV) (pd : List PartD), k ≤ gl ∧ r6 = .int .i64 (k : Int) ∧ pd = (o.groups.take k).map (groupPart a) ∧ pd.length ≤ k ∧ wr.ownsRow W1.heap.size 106 12 r5 pd.length (pvs true pv) ∧ PartsAt wr (fun b => W1.heap.size ≤ b ∧ some b ≠ r5.ownBlock) pv pd ∧ Below W1.heap.size W1 wr) (fun _ r6 _ => gl - (intOf r6).toNat)
    case atStart => exact ⟨0, [], [], Nat.zero_le _, rfl, rfl, Nat.le_refl _, World.ownsRow_nil _ _ _ _, PartsAt.nil _ _, Below.refl _ _⟩
    case round =>
      obtain ⟨k, pv, pd, hk, rfl, hpd, hpl, hown, hpa, hb⟩ := hrel
      have HPD := Lib.hid hpd
      have HPA := Lib.hid hpa
      have z2 := cell_later hb a2
      clear hpd hpa
      by_cases hlt : k < gl
      · obtain ⟨b, off, g, rfl, hgk, ⟨hsy, _⟩, ⟨vm, d1, hvm⟩⟩ := HQ.out.at_ (i := k) (by rw [HGL.out]; exact hlt)
        obtain ⟨mp, mc, rfl, m1, m2, _, hmh⟩ := hvm
        have e0 := cell_later hb hsy
        have e1 := cell_later hb d1
        have HMH := Lib.hid (hmh.below EInt.keeps hb)
        have hgm := HS.out g (List.mem_of_getElem? hgk)
        have hml := hgm.2.1
        have hgn : (o.groups.take (k + 1)).map (groupPart a) = (o.groups.take k).map (groupPart a) ++ [groupPart a g] := by rw [List.take_add_one, hgk]; simp
        have HGN := Lib.hid hgn
        have HR := Lib.hid hgm.2.2
        generalize hmn : g.members.length = ml at *
        have HMN := Lib.hid hmn
        have hJ : (k : Int) < (gl : Int) := by omega
        have k2 : (0 : Int) ≤ (k : Int) := by omega
        have k4 : IntKind.i64.wrap ((k : Int) + 1) = (k : Int) + 1 := IntWalk.i64_in _ (by omega)
        clear hgk d1 hmh hgm hmn m1 m2 hsy hgn
        generalize wr = wo at *
        go_wp2_with fail
        go_loopw [7, 8] (fun r7 r8 wx => ∃ (j n : Nat), j ≤ ml ∧ r8 = .int .i64 (j : Int) ∧ n = 4 + 4 * j ∧ wx.ownsRow wo.heap.size 5 1 r7 n ((groupBy (g.members.take j)).map u8v) ∧ Below wo.heap.size wo wx) (fun _ r8 _ => ml - (intOf r8).toNat)
        case atStart => exact ⟨0, 4, Nat.zero_le _, rfl, rfl, World.ownsRow_lit wo #[u8v 1, u8v 0, u8v 0, u8v 0] 4 (Nat.le_refl _) (by unfold maxLen; omega) rfl, (Below.refl _ wo).alloc (Nat.le_refl _) _⟩
        case round =>
          obtain ⟨j, n, hj, rfl, hn, hob, hbx⟩ := hrel
          have HN := Lib.hid hn
          have y2 := cell_later hbx z2
          have y0 := cell_later hbx e0
          have y1 := cell_later hbx e1
          by_cases hjl : j < ml
          · obtain ⟨b2, off2, m, rfl, hmj, x0, _⟩ := HMH.out.at_ (i := j) (by rw [HMN.out]; exact hjl)
            have d0 := cell_later hbx x0
            rw [Nat.mul_one] at d0
            have HC : Hid (∀ W, Calls Tryz.prog 81 #[.int .u64 (IntKind.u64.wrap m), .int .i64 4] W (Gives (memB m) W)) := Lib.hid fun W => by
              rw [conv_u64]
              exact refPut_yes (u64n m) 4 W (u64n_lt m) rfl
            have HST : Hid (groupBy (g.members.take (j + 1)) = groupBy (g.members.take j) ++ memB m) := Lib.hid (by rw [List.take_add_one, hmj]; exact groupBy_snoc _ _)
            have hJ1 : (j : Int) < (ml : Int) := by omega
            have hJ2 : (0 : Int) ≤ (j : Int) := by omega
            have hmB : (memB m).length = 4 := leB_length _ _
            have HMB := Lib.hid hmB
            clear hmj x0 hn hmB
            go_wp2_with fail
            refine (HC.out _).mono ?_
            rintro e w2 ⟨v2', rfl, hown2, hbb2⟩
            rw [HMB.out] at hown2
            have hob2 := owns_below hob hbb2
            have hbx2 : Below wo.heap.size wo w2 := hbx.trans (hbb2.mono hbx.size)
            obtain ⟨p2, cc2, rfl, g1, g2, g3, g4⟩ := Has.of_owns hown2
            have hpn := none_cap hown2
            have HG4 := Lib.hid g4
            have HG3 := Lib.hid g3
            have hn80 : n ≤ 2000 := by have := HN.out; omega
            clear hown2 hbb2 hob hbx d0 g4 g3 y0 y1 y2
            go_wp2_with (at_builtin; refine wpList_append_bytes _ rfl (.tmp 30) (.tmp 41) 31 rfl wo.heap.size 5 i1 Tryz.underlying31 GI.out G0.out G1.out G2.out _ n _ rfl hob2 p2 4 cc2 (memB m) rfl HG4.out HG3.out hpn (by omega) hbx2.size ?_)
            intro v3 w3 hob3 hg3 _
            have hbx3 : Below wo.heap.size wo w3 := hbx2.grown hg3 hbx2.size (fun g hg => (hob2.lt g hg).1)
            rw [← List.map_append, ← HST.out] at hob3
            clear hob2 hbx2 hg3
            go_wp2_with fail
            go_roundw
            case rel => exact ⟨j + 1, n + 4, hjl, by go_num, by have := HN.out; omega, hob3, hbx3⟩
            case measure => simp [intOf]; omega
          · obtain rfl : j = ml := by omega
            have hobd : wr.ownsRow wo.heap.size 5 1 u7 n ((groupBy g.members).map u8v) := by
              rw [List.take_of_length_le (by rw [HMN.out]; exact Nat.le_refl _)] at hob
              exact hob
            have hown2 := owns_belowN hown hbx
            have hpa2 : Hid (PartsAt wr (fun b => W1.heap.size ≤ b ∧ some b ≠ u5.ownBlock) pv pd) := Lib.hid (HPA.out.below hbx)
            have hb2 : Below W1.heap.size W1 wr := hb.trans (hbx.mono hb.size)
            have hbs := hb.size
            have hJ1 : ¬ (j : Int) < (j : Int) := by omega
            have hu5 := fun g hg => (hown.lt g hg).2
            obtain ⟨p7, c7, rfl, _, _, _, _⟩ := Has.of_owns hobd
            have hsl : PartsAt wr (fun b => W1.heap.size ≤ b ∧ some b ≠ u5.ownBlock) [⟨groupHead a g.sym, nGroup, (.slice p7 n c7)⟩] [groupPart a g] := PartsAt.one (SlB.of_owns hobd fun b hb => by
              have h1 := (hobd.lt b hb).1
              exact ⟨by omega, fun e => by have := hu5 b e.symm; omega⟩)
            have HSL := Lib.hid hsl
            have hE : Hid ((o.groups.take (k + 1)).map (groupPart a) = pd ++ [groupPart a g]) := Lib.hid (by rw [HGN.out, ← HPD.out])
            have h1c : ∀ u ∈ PV.cells true ⟨groupHead a g.sym, nGroup, (.slice p7 n c7)⟩, u.oneCell' = true := fun u hu => (hsl.oneCell (q := true)) u (by simpa [pvs] using hu)
            have H1C := Lib.hid h1c
            have hbz := hb2.size
            clear hob hown HPA hb e0 e1 z2 hn hsl hu5 h1c hobd
            go_wp2_with (at_builtin; refine wpList_append_own_at _ rfl (.tmp 43) (.tmp 54) 107 rfl W1.heap.size 106 i0 _ 12 120 Tryz.underlying107 HI.out H0.out H1.out H2.out rfl (by decide) _ pd.length _ rfl (hown2.alloc _) ⟨wr.heap.size, 0, none⟩ 1 1 (PV.cells true ⟨groupHead a g.sym, nGroup, (.slice p7 n c7)⟩) rfl rfl (ten_cell_at wr _ _) H1C.out (by unfold maxLen; omega) (by omega) (by simp; omega) ?_)
            intro v1 w4 hown4 hg4 _ hat4
            have HP := Lib.hid (push_part hpa2.out HSL.out hown4 hg4 hat4)
            have hb4 : Below W1.heap.size W1 w4 := (hb2.alloc hb2.size _).grown hg4 (by simp; omega) (fun g hg => (hown2.lt g hg).1)
            clear hown4 hg4 hat4 hown2 hpa2 HSL hb2
            go_wp2_with fail
            go_roundw
            case rel => exact ⟨k + 1, _, _, hlt, by go_num, hE.out.symm, by simp; omega, HP.out.1, HP.out.2, hb4⟩
            case measure => simp [intOf]; omega
      · obtain rfl : k = gl := by omega
        have hJ : ¬ (k : Int) < (k : Int) := by omega
        have hE : Hid (pd = o.groups.map (groupPart a)) := Lib.hid (by rw [HPD.out, List.take_of_length_le (by rw [HGL.out]; exact Nat.le_refl _)])
        go_wp2_with fail
        go_meet
        exact ⟨pv, pd, hE.out, by omega, hown, HPA.out, hb⟩
  case rest =>
    obtain ⟨pv, pd, hpd, hpl, hown, hpa, hb⟩ := hcut
    have HPD := Lib.hid hpd
    have HPA := Lib.hid hpa
    have z3 := cell_later hb a3
    have z4 := cell_later hb a4
    clear hpd hpa HQ HS HGL
    generalize wc = wo at *
    cases sg with
    | false =>
      have hE : Hid (res = pd) := Lib.hid (by rw [HRES.out, ← HPD.out]; simp)
      go_wp2_with fail
      go_ret
      refine ⟨_, pv, rfl, ?_, ?_, HB1.out.trans (hb.mono (by omega))⟩
      · rw [hE.out]
        exact owns_lower hown (by omega)
      · rw [hE.out]
        exact HPA.out.weaken fun b hb h => ⟨by omega, h.2⟩
    | true =>
      have hE : Hid (res = pd ++ [sigPart a o.sig]) := Lib.hid (by rw [HRES.out, ← HPD.out]; simp)
      clear HRES
      go_wp2_with fail
      go_loopw [9, 10] (fun r9 r10 wx => ∃ (j n : Nat), j ≤ xl ∧ r10 = .int .i64 (j : Int) ∧ n ≤ 5 * j ∧ wx.ownsRow wo.heap.size 5 1 r9 n ((sigBy (o.sig.take j)).map u8v) ∧ Below wo.heap.size wo wx) (fun _ r10 _ => xl - (intOf r10).toNat)
      case atStart => exact ⟨0, 0, Nat.zero_le _, rfl, Nat.le_refl _, World.ownsRow_nil _ _ _ _, Below.refl _ wo⟩
      case round =>
        obtain ⟨j, n, hj, rfl, hn, hob, hbx⟩ := hrel
        have y4 := cell_later hbx z4
        by_cases hjl : j < xl
        · obtain ⟨b2, off2, m, rfl, hmj, x0, _⟩ := HXH.out.at_ (i := j) (by rw [HXL.out]; exact hjl)
          have x0 := cell_later hb x0
          have d0 := cell_later hbx x0
          rw [Nat.mul_one] at d0
          have hfm := (fitsB_iff m).1 (HX.out m (List.mem_of_getElem? hmj))
          have HC : Hid (∀ W, Calls Tryz.prog 82 #[.int .i64 m] W (Gives (ulebB 5 m.toNat) W)) := Lib.hid fun W => by
            have := refUleb_yes 5 m.toNat W (by omega) (by omega) (by omega) (by omega)
            rwa [Int.toNat_of_nonneg hfm.1] at this
          have HST : Hid (sigBy (o.sig.take (j + 1)) = sigBy (o.sig.take j) ++ ulebB 5 m.toNat) := Lib.hid (by rw [List.take_add_one, hmj]; exact sigBy_snoc _ _)
          have hJ1 : (j : Int) < (xl : Int) := by omega
          have hJ2 : (0 : Int) ≤ (j : Int) := by omega
          have hul := ulebB_length 5 m.toNat
          clear hmj x0 hfm
          generalize ulebB 5 m.toNat = ub at *
          generalize hubl : ub.length = ul at *
          have HUL := Lib.hid hubl
          clear hubl
          go_wp2_with fail
          refine (HC.out _).mono ?_
          rintro e w2 ⟨v2', rfl, hown2, hbb2⟩
          rw [HUL.out] at hown2
          have hob2 := owns_below hob hbb2
          have hbx2 : Below wo.heap.size wo w2 := hbx.trans (hbb2.mono hbx.size)
          obtain ⟨p2, cc2, rfl, g1, g2, g3, g4⟩ := Has.of_owns hown2
          have hpn := none_cap hown2
          have HG4 := Lib.hid g4
          have HG3 := Lib.hid g3
          clear hown2 hbb2 hob hbx d0 g4 g3 y4
          go_wp2_with (at_builtin; refine wpList_append_bytes _ rfl (.tmp 65) (.tmp 71) 31 rfl wo.heap.size 5 i1 Tryz.underlying31 GI.out G0.out G1.out G2.out _ n _ rfl hob2 p2 ul cc2 ub rfl HG4.out HG3.out hpn (by omega) hbx2.size ?_)
          intro v3 w3 hob3 hg3 _
          have hbx3 : Below wo.heap.size wo w3 := hbx2.grown hg3 hbx2.size (fun g hg => (hob2.lt g hg).1)
          rw [← List.map_append, ← HST.out] at hob3
          clear hob2 hbx2 hg3
          go_wp2_with fail
          go_roundw
          case rel => exact ⟨j + 1, n + ul, hjl, by go_num, by omega, hob3, hbx3⟩
          case measure => simp [intOf]; omega
        · obtain rfl : j = xl := by omega
          have hobd : wr.ownsRow wo.heap.size 5 1 u9 n ((sigBy o.sig).map u8v) := by
            rw [List.take_of_length_le (by rw [HXL.out]; exact Nat.le_refl _)] at hob
            exact hob
          have hown2 := owns_belowN hown hbx
          have hpa2 := Lib.hid (HPA.out.below hbx)
          have hb2 : Below W1.heap.size W1 wr := hb.trans (hbx.mono hb.size)
          have hbs := hb.size
          have hJ1 : ¬ (j : Int) < (j : Int) := by omega
          have hu5 := fun g hg => (hown.lt g hg).2
          obtain ⟨p7, c7, rfl, _, _, _, _⟩ := Has.of_owns hobd
          have hsl : PartsAt wr (fun b => W1.heap.size ≤ b ∧ some b ≠ u5.ownBlock) [⟨sigHead a, nSig, (.slice p7 n c7)⟩] [sigPart a o.sig] := PartsAt.one (SlB.of_owns hobd fun b hb => by
            have h1 := (hobd.lt b hb).1
            exact ⟨by omega, fun e => by have := hu5 b e.symm; omega⟩)
          have HSL := Lib.hid hsl
          have h1c : ∀ u ∈ PV.cells true ⟨sigHead a, nSig, (.slice p7 n c7)⟩, u.oneCell' = true := fun u hu => (hsl.oneCell (q := true)) u (by simpa [pvs] using hu)
          have H1C := Lib.hid h1c
          have hbz := hb2.size
          clear hob hown HPA hb z3 z4 hn hsl hu5 h1c hobd
          go_wp2_with (at_builtin; refine wpList_append_own_at _ rfl (.tmp 73) (.tmp 78) 107 rfl W1.heap.size 106 i0 _ 12 120 Tryz.underlying107 HI.out H0.out H1.out H2.out rfl (by decide) _ pd.length _ rfl (hown2.alloc _) ⟨wr.heap.size, 0, none⟩ 1 1 (PV.cells true ⟨sigHead a, nSig, (.slice p7 n c7)⟩) rfl rfl (ten_cell_at wr _ _) H1C.out (by unfold maxLen; omega) (by omega) (by simp; omega) ?_)
          intro v1 w4 hown4 hg4 _ hat4
          have HP := Lib.hid (push_part hpa2.out HSL.out hown4 hg4 hat4)
          have hb4 : Below W1.heap.size W1 w4 := (hb2.alloc hb2.size _).grown hg4 (by simp; omega) (fun g hg => (hown2.lt g hg).1)
          clear hown4 hg4 hat4 hown2 hpa2 HSL hb2
          go_wp2_with fail
          go_ret
          refine ⟨v1, pv ++ [⟨sigHead a, nSig, (.slice p7 n c7)⟩], rfl, ?_, ?_, HB1.out.trans (hb4.mono (by omega))⟩
          · rw [hE.out]
            exact owns_lower HP.out.1 (by omega)
          · rw [hE.out]
            exact HP.out.2.weaken fun b hb h => ⟨by omega, h.2⟩
end Go.Proofs.YthnkehdcolnegaaGreat
