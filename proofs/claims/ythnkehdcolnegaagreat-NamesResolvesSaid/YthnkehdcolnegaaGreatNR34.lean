/-
  Contract of the reference's symParts.
-/
import Derived.Test.YthnkehdcolnegaaGreatNR33
import Derived.Test.YthnkehdcolnegaaGreatNR16
import Derived.Test.YthnkehdcolnegaaGreatNR15
import Derived.Deep.RegionHeld3
namespace Go.Proofs.YthnkehdcolnegaaGreat
open Go.RowKit

set_option maxRecDepth 100000 in
set_option maxHeartbeats 4000000 in
theorem symParts_any (o : ObjD) (v0 v1 v2 v4 : Value) (a : Int) (w : World) (ha : 0 ≤ a ∧ a ≤ 1000) (hp : IsL 6 ESym w v1 o.syms) (hl : Lays o) :
    Calls Tryz.prog 36 #[objV v0 v1 v2 o.hasSig v4, .int .i64 a] w (GivesParts 106 true w.heap.size (symPs a o.syms) w) := by
  obtain ⟨i0, hi, hz0, hz1, hz2⟩ := info_parts Tryz.infoStr
  have HI := Lib.hid hi
  have H0 := Lib.hid hz0
  have H1 := Lib.hid hz1
  have H2 := Lib.hid hz2
  obtain ⟨i1, gi, gz0, gz1, gz2⟩ := info_parts Tryz.infoU8
  have GI := Lib.hid gi
  have G0 := Lib.hid gz0
  have G1 := Lib.hid gz1
  have G2 := Lib.hid gz2
  have hb1 : Below w.heap.size w (w.alloc (.cells #[v0, v1, v2, .bool o.hasSig, v4] 27)) := (Below.refl _ w).alloc (Nat.le_refl _) _
  have hq := hp.below ESym.keeps hb1
  obtain ⟨p1, c1, rfl, q1, q2, _, hqh⟩ := hq
  have a1 : (w.alloc (.cells #[v0, .slice p1 o.syms.length c1, v2, .bool o.hasSig, v4] 27)).cell? ⟨w.heap.size, 1, none⟩ = some (.slice p1 o.syms.length c1) := by simp
  have hgs : (w.alloc (.cells #[v0, .slice p1 o.syms.length c1, v2, .bool o.hasSig, v4] 27)).heap.size = w.heap.size + 1 := by simp
  have hny := hl.nsym
  have HS := Lib.hid hl.syms
  have HQ := Lib.hid hqh
  have HB1 := Lib.hid hb1
  have hres : symPs a o.syms = [⟨symHead a (localsOf o.syms), nSymtab, symsBy (symNames o.syms) o.syms⟩, ⟨tabHead, nStrtab, (tabOf (symNames o.syms)).tb⟩] := rfl
  generalize symPs a o.syms = res at *
  generalize hyl : o.syms.length = yl at *
  generalize o.hasSig = sg at *
  have HYL := Lib.hid hyl
  have HRES := Lib.hid hres
  have ka : IntKind.i64.wrap (a + 1) = a + 1 := IntWalk.i64_in _ (by omega)
  clear hp hl hi hz0 hz1 hz2 gi gz0 gz1 gz2 hb1 hqh hyl q1 q2 hres
  go_enter Tryz.func36, Tryz.ntmps36
  go_upto_region 1 with fail
  generalize w.alloc (.cells #[v0, .slice p1 yl c1, v2, .bool sg, v4] 27) = W1 at *
  have hgs2 : w.heap.size < W1.heap.size := by omega
  clear hgs
  go_upto_block 0 with fail
  go_cut [5] (fun r5 wr => wr.ownsRow W1.heap.size 9 1 r5 yl ((strsOf o.syms).map Value.string) ∧ Below W1.heap.size W1 wr)
  case first =>
    clear HRES
    go_wp2_with fail
    go_loopw [5, 6] (fun r5 r6 wr => ∃ (k : Nat), k ≤ yl ∧ r6 = .int .i64 (k : Int) ∧ wr.ownsRow W1.heap.size 9 1 r5 k ((strsOf (o.syms.take k)).map Value.string) ∧ Below W1.heap.size W1 wr) (fun _ r6 _ => yl - (intOf r6).toNat)
    case atStart => exact ⟨0, Nat.zero_le _, rfl, World.ownsRow_nil _ _ _ _, Below.refl _ _⟩
    case round =>
      obtain ⟨k, hk, rfl, hown, hb⟩ := hrel
      have z1 := cell_later hb a1
      by_cases hlt : k < yl
      · obtain ⟨b, off, s, rfl, hsk, ⟨hnm, _⟩, _⟩ := HQ.out.at_ (i := k) (by rw [HYL.out]; exact hlt)
        have e0 := cell_later hb hnm
        have hst : strsOf (o.syms.take (k + 1)) = strsOf (o.syms.take k) ++ [s.name] := by unfold strsOf; rw [List.take_add_one, hsk]; simp
        have HST := Lib.hid hst
        have hJ : (k : Int) < (yl : Int) := by omega
        have k2 : (0 : Int) ≤ (k : Int) := by omega
        have hbs := hb.size
        clear hsk hnm hst
        go_wp2_with (at_builtin; refine wpList_append_own _ rfl (.tmp 23) (.tmp 30) 109 rfl W1.heap.size 9 i0 _ 1 16 Tryz.underlying109 HI.out H0.out H1.out H2.out rfl (by decide) _ k _ rfl (hown.alloc _) ⟨wr.heap.size, 0, none⟩ 1 1 [.string s.name] rfl rfl (cell_one_new wr _ _) (one_str _) (by unfold maxLen; omega) (by omega) (by simp; omega) ?_)
        intro v3 w4 hown4 hg4 _
        have hb4 : Below W1.heap.size W1 w4 := (hb.alloc hb.size _).grown hg4 (by simp; omega) (fun g hg => (hown.lt g hg).1)
        rw [str_snoc, ← HST.out] at hown4
        clear hown hg4 hb
        go_wp2_with fail
        go_roundw
        case rel => exact ⟨k + 1, hlt, by go_num, hown4, hb4⟩
        case measure => simp [intOf]; omega
      · obtain rfl : k = yl := by omega
        have hJ : ¬ (k : Int) < (k : Int) := by omega
        have hE : Hid (o.syms.take k = o.syms) := Lib.hid (List.take_of_length_le (by rw [HYL.out]; exact Nat.le_refl _))
        rw [hE.out] at hown
        go_wp2_with fail
        go_meet
        exact ⟨hown, hb⟩
  case rest =>
    obtain ⟨hown, hb⟩ := hcut
    have HPB := Lib.hid (places_small o.syms (by rw [HYL.out]; omega) fun s hs => (HS.out s hs).1)
    obtain ⟨p5, c5, rfl, n1, n2, n3, hns⟩ := HasS.of_owns hown
    have hnm : symNames o.syms = (strsOf o.syms).map lst := by unfold symNames strsOf; simp
    have hmb : ∀ s ∈ strsOf o.syms, mayB (lst s) = true := fun s hs => by
      obtain ⟨y, hy, rfl⟩ := List.mem_map.1 hs
      exact (HS.out y hy).1
    have HMK := Lib.hid (refMake_wide p5 yl c5 _ _ hns n3 (by omega) hmb)
    rw [← hnm] at HMK
    have hbw1 : Below w.heap.size w W1 := HB1.out
    clear hown hns hmb hnm n1 n2 n3
    generalize hnsd : symNames o.syms = ns at *
    generalize wc = wo at *
    have HNS := Lib.hid hnsd
    clear hnsd
    have z1 := cell_later hb a1
    have HW : Hid (Below W1.heap.size W1 wo) := Lib.hid hb
    have hbs := hb.size
    clear hb a1
    go_wp2_with fail
    refine HMK.out.mono ?_
    rintro e wm ⟨t1, t2, rfl, ht, hpl, hbm⟩
    have y1 := cell_later hbm z1
    have hbms := hbm.size
    have hpll : (placesOf ns).length = yl := by rw [placesOf_length, ← HNS.out]; unfold symNames; rw [List.length_map]; exact HYL.out
    rw [hpll] at hpl
    clear hpll z1
    go_wp2_with fail
    go_loopw [9, 10, 11] (fun r9 r10 r11 wx => ∃ (k n l : Nat), k ≤ yl ∧ r11 = .int .i64 (k : Int) ∧ r10 = .int .i64 (l : Int) ∧ l = localsOf (o.syms.take k) ∧ l ≤ k ∧ n = 24 * k ∧ wx.ownsRow wm.heap.size 5 1 r9 n ((symsBy ns (o.syms.take k)).map u8v) ∧ Below wm.heap.size wm wx) (fun _ _ r11 _ => yl - (intOf r11).toNat)
    case atStart => exact ⟨0, 0, 0, Nat.zero_le _, rfl, rfl, rfl, Nat.le_refl _, rfl, World.ownsRow_nil _ _ _ _, Below.refl _ _⟩
    case round =>
      obtain ⟨k, n, l, hk, rfl, rfl, hll, hlk, hn, hob, hbx⟩ := hrel
      have HLL := Lib.hid hll
      have HN := Lib.hid hn
      have x1 := cell_later hbx y1
      by_cases hlt : k < yl
      · obtain ⟨b, off, s, rfl, hsk, ⟨d0, _⟩, ⟨d1, hb1b⟩, ⟨d2, _⟩, ⟨d3, hb3b⟩, ⟨d4, _⟩, ⟨d5, _⟩⟩ := HQ.out.at_ (i := k) (by rw [HYL.out]; exact hlt)
        have hw1x : Below W1.heap.size W1 wr := HW.out.trans ((hbm.trans (hbx.mono hbms)).mono hbs)
        have e0 := cell_later hw1x d0
        have e1 := cell_later hw1x d1
        have e2 := cell_later hw1x d2
        have e3 := cell_later hw1x d3
        have e4 := cell_later hw1x d4
        have e5 := cell_later hw1x d5
        obtain ⟨g, gc, cur, rfl, _, _, _, hgc, hgm, _, _⟩ := owns_form hpl (by omega)
        have hpx := owns_belowN hpl hbx
        have hsy := HS.out s (List.mem_of_getElem? hsk)
        have hpc : wr.cell? ⟨g, k, none⟩ = some (.int .i64 (placeOf ns (lst s.name) : Int)) := by
          rw [hpx.cellAt k (by omega)]
          have hns : ns[k]? = some (lst s.name) := by rw [← HNS.out]; unfold symNames; rw [List.getElem?_map, hsk]; rfl
          simp only [natV, placesOf, List.map_map, List.getElem?_map, hns]
          rfl
        have hpb : placeOf ns (lst s.name) ≤ 2147483647 := HPB.out s (List.mem_of_getElem? hsk)
        have hmay : (sixOf (placeOf ns (lst s.name)) s).may := by
          obtain ⟨m1, m2, m3, m4, m5, m6, m7, m8, m9⟩ := hsy
          refine ⟨(fitsB_iff _).2 ⟨by unfold sixOf; simp, by unfold sixOf; simp; omega⟩, m2, m3, m4, m5, m6, m7, ?_, ?_⟩ <;> (show _; unfold sixOf symIdx; simp only; split <;> omega)
        have HC := Lib.hid fun W => entryBytes_yes (sixOf (placeOf ns (lst s.name)) s) W hmay
        have hst : symsBy ns (o.syms.take (k + 1)) = symsBy ns (o.syms.take k) ++ entB (sixOf (placeOf ns (lst s.name)) s) := by rw [List.take_add_one, hsk]; exact symsBy_snoc _ _ _
        have HST := Lib.hid hst
        have hlo : localsOf (o.syms.take (k + 1)) = localsOf (o.syms.take k) + (bif s.bind == 0 then 1 else 0) := by rw [List.take_add_one, hsk]; exact localsOf_snoc _ _
        have HLO := Lib.hid hlo
        have hJ : (k : Int) < (yl : Int) := by omega
        have k2 : (0 : Int) ≤ (k : Int) := by omega
        clear hsk d0 d1 d2 d3 d4 d5 hw1x hpx hsy hmay hst hlo hll hn
        generalize placeOf ns (lst s.name) = pl at *
        go_upto_region 13 with fail
        have hba : Below wr.heap.size wr (wr.alloc (.cells #[.string s.name, .int .i64 s.bind, .int .i64 s.type, .int .i64 s.sec, .int .i64 s.value, .int .i64 s.size] 98)) := (Below.refl _ wr).alloc (Nat.le_refl _) _
        have hpa := cell_later hba hpc
        have hha := heap_new wr (.cells #[.string s.name, .int .i64 s.bind, .int .i64 s.type, .int .i64 s.sec, .int .i64 s.value, .int .i64 s.size] 98)
        have hsz : (wr.alloc (.cells #[.string s.name, .int .i64 s.bind, .int .i64 s.type, .int .i64 s.sec, .int .i64 s.value, .int .i64 s.size] 98)).heap.size = wr.heap.size + 1 := by simp
        generalize wr.alloc (.cells #[.string s.name, .int .i64 s.bind, .int .i64 s.type, .int .i64 s.sec, .int .i64 s.value, .int .i64 s.size] 98) = ws at *
        obtain ⟨s0, s1, s2, s3, s4, s5⟩ := cells6 _ _ _ _ _ _ _ _ _ hha
        go_cut [13] (fun s13 wx => s13 = .pointer (some ⟨wr.heap.size + 1, 0, none⟩) ∧ wx = ws.drew.alloc (.cells #[.int .i64 (pl : Int), .int .i64 s.bind, .int .i64 s.type, .int .i64 s.sec, .int .i64 s.value, .int .i64 s.size] 173))
        case first =>
          clear x1 hpc e0 e1 e2 e3 e4 e5 hba hb1b hb3b
          go_region_held3 (fun W => W.cell? ⟨g, k, none⟩ = some (.int .i64 (pl : Int)) ∧ W.cell? ⟨wr.heap.size, 1, none⟩ = some (.int .i64 s.bind) ∧ W.cell? ⟨wr.heap.size, 2, none⟩ = some (.int .i64 s.type) ∧ W.cell? ⟨wr.heap.size, 3, none⟩ = some (.int .i64 s.sec) ∧ W.cell? ⟨wr.heap.size, 4, none⟩ = some (.int .i64 s.value) ∧ W.cell? ⟨wr.heap.size, 5, none⟩ = some (.int .i64 s.size)) (first | go_keep | exact ⟨hpa, s1, s2, s3, s4, s5⟩ | fail) (fail)
          go_wp2_with fail
          go_meet
          exact ⟨rfl, rfl⟩
        case rest =>
          obtain ⟨rfl, rfl⟩ := hcut
          have hbe : Below ws.heap.size ws (ws.drew.alloc (.cells #[.int .i64 (pl : Int), .int .i64 s.bind, .int .i64 s.type, .int .i64 s.sec, .int .i64 s.value, .int .i64 s.size] 173)) := below_grow ws _
          have hwe := hba.trans (hbe.mono (by omega))
          have t3 := cell_later hbe s3
          have t1 := cell_later hbe s1
          have hhe := heap_new ws.drew (.cells #[.int .i64 (pl : Int), .int .i64 s.bind, .int .i64 s.type, .int .i64 s.sec, .int .i64 s.value, .int .i64 s.size] 173)
          rw [show ws.drew.heap.size = wr.heap.size + 1 from hsz] at hhe
          generalize (ws.drew.alloc (.cells #[.int .i64 (pl : Int), .int .i64 s.bind, .int .i64 s.type, .int .i64 s.sec, .int .i64 s.value, .int .i64 s.size] 173)) = we at *
          clear s0 s1 s2 s3 s4 s5 hha hpa hba hbe hsz e0 e1 e2 e3 e4 e5 x1 hpc
          go_upto_if 66 with fail
          go_cut [] (fun wx => Below wr.heap.size wr wx ∧ wx.heap[wr.heap.size + 1]? = some (.cells #[.int .i64 (pl : Int), .int .i64 s.bind, .int .i64 s.type, .int .i64 (symIdx s.sec), .int .i64 s.value, .int .i64 s.size] 173 (0, 0)) ∧ wx.cell? ⟨wr.heap.size, 1, none⟩ = some (.int .i64 s.bind))
          case first =>
            have hfz := frozen_of_row _ _ 3 _ _ hhe
            by_cases hm1 : s.sec = -1
            · have hid : Hid (symIdx s.sec = 65521) := Lib.hid (symIdx_yes hm1)
              have hcd : (s.sec == -1) = true := by simp [hm1]
              have hstep := heap_setCell_same we (wr.heap.size + 1) 3 _ _ (.int .i64 65521) hhe
              have HSTP := Lib.hid hstep
              have c3 := (cell_of_row _ _ 3 _ _ (0, 0) hhe)
              clear hm1 hstep
              go_wp2_with fail
              go_meet
              rw [hid.out]
              refine ⟨hwe.setCell (by simp) _, HSTP.out, ?_⟩
              rw [World.cell?_setCell_far _ _ _ _ (by simp)]
              exact t1
            · have hid : Hid (symIdx s.sec = s.sec) := Lib.hid (symIdx_no hm1)
              have hcd : (s.sec == -1) = false := by simp [hm1]
              clear hm1
              go_wp2_with fail
              go_meet
              rw [hid.out]
              exact ⟨hwe, hhe, t1⟩
          case rest =>
            obtain ⟨hwx, hhx, u1⟩ := hcut
            clear hwe hhe t1 t3
            generalize wc = we2 at *
            obtain ⟨f0, f1, f2, f3, f4, f5⟩ := cells6 _ _ _ _ _ _ _ _ _ hhx
            have hlk2 : l + 1 ≤ 1000 := by omega
            clear hhx
            go_upto_if 70 with fail
            go_cut [10] (fun s10 wx => ∃ l2 : Nat, s10 = .int .i64 (l2 : Int) ∧ l2 = localsOf (o.syms.take (k + 1)) ∧ l2 ≤ k + 1 ∧ we2 = wx)
            case first =>
              cases hbd : (s.bind == 0) with
              | true =>
                have hE : Hid (l + 1 = localsOf (o.syms.take (k + 1))) := Lib.hid (by rw [HLO.out, hbd, ← HLL.out]; rfl)
                go_wp2_with fail
                go_meet
                exact ⟨l + 1, by go_num, hE.out, by omega, rfl⟩
              | false =>
                have hE : Hid (l = localsOf (o.syms.take (k + 1))) := Lib.hid (by rw [HLO.out, hbd, ← HLL.out]; rfl)
                go_wp2_with fail
                go_meet
                exact ⟨l, rfl, hE.out, by omega, rfl⟩
            case rest =>
              obtain ⟨l2, rfl, hl2, hl2k, rfl⟩ := hcut
              have HL2 := Lib.hid hl2
              clear hl2 HLO u1
              go_wp2_with fail
              refine (HC.out _).mono ?_
              rintro e w2 ⟨v2', rfl, hown2, hbb2⟩
              rw [entB_length] at hown2
              have hobe := owns_belowN hob hwx
              have hob2 := owns_below hobe hbb2
              have hbx2 : Below wm.heap.size wm w2 := (hbx.trans (hwx.mono hbx.size)).trans (hbb2.mono (by have := hbx.size; have := hwx.size; omega))
              obtain ⟨p2, cc2, rfl, g1, g2, g3, g4⟩ := Has.of_owns hown2
              have hpn := none_cap hown2
              have HG4 := Lib.hid g4
              have HG3 := Lib.hid g3
              have hn80 : n ≤ 5000 := by have := HN.out; omega
              clear hown2 hbb2 hob hobe hwx hbx g4 g3 f0 f1 f2 f3 f4 f5
              go_wp2_with (at_builtin; refine wpList_append_bytes _ rfl (.tmp 73) (.tmp 75) 31 rfl wm.heap.size 5 i1 Tryz.underlying31 GI.out G0.out G1.out G2.out _ n _ rfl hob2 p2 24 cc2 (entB (sixOf pl s)) rfl HG4.out HG3.out hpn (by omega) hbx2.size ?_)
              intro v3 w3 hob3 hg3 _
              have hbx3 : Below wm.heap.size wm w3 := hbx2.grown hg3 hbx2.size (fun g hg => (hob2.lt g hg).1)
              rw [← List.map_append, ← HST.out] at hob3
              clear hob2 hbx2 hg3
              go_wp2_with fail
              go_roundw
              case rel => exact ⟨k + 1, n + 24, l2, hlt, by go_num, rfl, HL2.out, hl2k, by have := HN.out; omega, hob3, hbx3⟩
              case measure => simp [intOf]; omega
      · obtain rfl : k = yl := by omega
        have hJ : ¬ (k : Int) < (k : Int) := by omega
        have hE : Hid (o.syms.take k = o.syms) := Lib.hid (List.take_of_length_le (by rw [HYL.out]; exact Nat.le_refl _))
        rw [hE.out] at hob
        have hLo : Hid (l = localsOf o.syms) := Lib.hid (by rw [hll, hE.out])
        have htx := owns_below ht hbx
        obtain ⟨p9, c9, rfl, _, _, _, _⟩ := Has.of_owns hob
        obtain ⟨p7, c7, rfl, _, _, _, _⟩ := Has.of_owns htx
        have hbwr : Below w.heap.size w wr := hbw1.trans ((HW.out.trans ((hbm.trans (hbx.mono hbms)).mono hbs)).mono (by omega))
        have h9 := fun b hb => (hob.lt b hb)
        have h7 := fun b hb => (htx.lt b hb)
        have hpt : PartsAt wr (fun b => w.heap.size ≤ b ∧ b < wr.heap.size) ([⟨symHead a l, nSymtab, .slice p9 n c9⟩] ++ [⟨tabHead, nStrtab, .slice p7 (tabOf ns).tb.length c7⟩]) ([⟨symHead a l, nSymtab, symsBy ns o.syms⟩] ++ [⟨tabHead, nStrtab, (tabOf ns).tb⟩]) :=
          (PartsAt.one (SlB.of_owns hob fun b hb => ⟨by have := (h9 b hb).1; omega, (h9 b hb).2⟩)).append (PartsAt.one (SlB.of_owns htx fun b hb => ⟨by have := (h7 b hb).1; omega, (h7 b hb).2⟩))
        have HPT := Lib.hid hpt
        have hrs : Hid (res = [⟨symHead a l, nSymtab, symsBy ns o.syms⟩] ++ [⟨tabHead, nStrtab, (tabOf ns).tb⟩]) := Lib.hid (by rw [HRES.out, hLo.out]; rfl)
        have hbws := hbwr.size
        clear hll hn hE hpt h9 h7 hob htx
        generalize (tabOf ns).tb.length = tl at *
        go_wp2_with fail
        go_ret
        refine ⟨_, [⟨symHead a l, nSymtab, .slice p9 n c9⟩] ++ [⟨tabHead, nStrtab, .slice p7 tl c7⟩], rfl, ?_, ?_, ?_⟩
        · rw [hrs.out]
          exact (two_parts wr _ _ _ _ _ hbws true ([⟨symHead a l, nSymtab, .slice p9 n c9⟩] ++ [⟨tabHead, nStrtab, .slice p7 tl c7⟩]) rfl rfl).1
        · rw [hrs.out]
          show PartsAt _ (fun b => w.heap.size ≤ b ∧ some b ≠ (Value.slice (some ⟨wr.heap.size + 1 + 1, 0, none⟩) 2 2).ownBlock) _ _
          refine PartsAt.weaken (K := fun b => w.heap.size ≤ b ∧ b < wr.heap.size) (HPT.out.below (two_parts wr _ _ _ 106 _ hbws true ([⟨symHead a l, nSymtab, .slice p9 n c9⟩] ++ [⟨tabHead, nStrtab, .slice p7 tl c7⟩]) rfl rfl).2) ?_
          intro b _ h
          refine ⟨h.1, fun he => ?_⟩
          have he : b = wr.heap.size + 1 + 1 := Option.some.inj he
          omega
        · exact hbwr.trans ((two_parts wr _ _ _ 106 _ hbws true ([⟨symHead a l, nSymtab, .slice p9 n c9⟩] ++ [⟨tabHead, nStrtab, .slice p7 tl c7⟩]) rfl rfl).2.mono hbws)
end Go.Proofs.YthnkehdcolnegaaGreat
