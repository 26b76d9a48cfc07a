/-
  Parts of a proof.
-/
import Derived.Test.YteopgmieindojaaGreatGW37
import Derived.Test.YteopgmieindojaaGreatGW24
import Derived.Test.YteopgmieindojaaGreatGW39
import Derived.Deep.RegionHeld3
import Derived.Deep.DeepCutAuto
import Derived.Test.YteopgmieindojaaGreatGW36
import Derived.Lib.AppendZeros
namespace Go.Proofs.YteopgmieindojaaGreat
open Go.RowKit
def SymsMay (l : List SymD) : Prop := ∀ s ∈ l, mayB (lst s.name) = true ∧ fitsB s.value = true ∧ fitsB s.size = true ∧ 0 ≤ s.bind ∧ s.bind ≤ 2 ∧ 0 ≤ s.type ∧ s.type ≤ 3 ∧ -1 ≤ s.sec ∧ s.sec ≤ 40
theorem idx_eq {x : Int} (h : -1 ≤ x) : (if x < 0 then 65521 else x) = symIdx x := by
 unfold symIdx
 by_cases h1 : x = -1
 ·subst h1; rfl
 ·rw [if_neg h1, if_neg (by omega)]
set_option maxRecDepth 100000 in
set_option maxHeartbeats 4000000 in
theorem ownSymParts_any (p1 : Option Addr) (c1 : Nat) (syms : List SymD) (a : Int) (w : World) (ha : 0 ≤ a ∧ a ≤ 1000) (hq : HasL 6 ESym w p1 syms) (hny : syms.length ≤ 140) (hm : SymsMay syms) :
    Calls Tryz.prog 134 #[.slice p1 syms.length c1, .int .i64 a] w (GivesParts 228 false w.heap.size ((symPs a syms).map szP) w) := by
  obtain ⟨i0, hi, hz0, hz1, hz2⟩ := info_parts Tryz.infoStr
  have HI := Lib.hid hi
  have H0 := Lib.hid hz0
  have H1 := Lib.hid hz1
  have H2 := Lib.hid hz2
  obtain ⟨i1, gi, gz0, gz1, gz2⟩ := info_parts Tryz.infoU8
  have GI := Lib.hid gi
  have G0 := Lib.hid gz0
  have G1 := Lib.hid gz1
  have G2 := Lib.hid gz2
  have HS := Lib.hid hm
  have HQ := Lib.hid hq
  have hres : (symPs a syms).map szP = [szP ⟨symHead a (localsOf syms), nSymtab, symsBy (symNames syms) syms⟩, szP ⟨tabHead, nStrtab, (tabOf (symNames syms)).tb⟩] := rfl
  generalize (symPs a syms).map szP = res at *
  generalize hyl : syms.length = yl at *
  have HYL := Lib.hid hyl
  have HRES := Lib.hid hres
  have ka : IntKind.i64.wrap (a + 1) = a + 1 := IntWalk.i64_in _ (by omega)
  clear hq hm hi hz0 hz1 hz2 gi gz0 gz1 gz2 hyl hres
  go_enter Tryz.func134, Tryz.ntmps134
  go_upto_block 0 with fail
  go_cut [5] (fun r5 wr => wr.ownsRow w.heap.size 9 1 r5 yl ((strsOf syms).map Value.string) ∧ Below w.heap.size w wr)
  case first =>
    clear HRES
    go_wp2_with fail
    go_loopw [5, 17] (fun r5 r17 wr => ∃ (k : Nat), k ≤ yl ∧ r17 = .int .i64 (k : Int) ∧ wr.ownsRow w.heap.size 9 1 r5 k ((strsOf (syms.take k)).map Value.string) ∧ Below w.heap.size w wr) (fun _ r17 _ => yl - (intOf r17).toNat)
    case atStart => exact ⟨0, Nat.zero_le _, rfl, World.ownsRow_nil _ _ _ _, Below.refl _ _⟩
    case round =>
      obtain ⟨k, hk, rfl, hown, hb⟩ := hrel
      by_cases hlt : k < yl
      · obtain ⟨b, off, s, rfl, hsk, ⟨d0, _⟩, ⟨d1, _⟩, ⟨d2, _⟩, ⟨d3, _⟩, ⟨d4, _⟩, ⟨d5, _⟩⟩ := HQ.out.at_ (i := k) (by rw [HYL.out]; exact hlt)
        have e0 := cell_later hb d0
        have e1 := cell_later hb d1
        have e2 := cell_later hb d2
        have e3 := cell_later hb d3
        have e4 := cell_later hb d4
        have e5 := cell_later hb d5
        have hst : strsOf (syms.take (k + 1)) = strsOf (syms.take k) ++ [s.name] := by unfold strsOf; rw [List.take_add_one, hsk]; simp
        have HST := Lib.hid hst
        have hba : Below wr.heap.size wr (wr.alloc (.cells #[.string s.name, .int .i64 s.bind, .int .i64 s.type, .int .i64 s.sec, .int .i64 s.value, .int .i64 s.size] 98)) := (Below.refl _ wr).alloc (Nat.le_refl _) _
        have hha := heap_new wr (.cells #[.string s.name, .int .i64 s.bind, .int .i64 s.type, .int .i64 s.sec, .int .i64 s.value, .int .i64 s.size] 98)
        have hJ : (k : Int) < (yl : Int) := by omega
        have k2 : (0 : Int) ≤ (k : Int) := by omega
        have hbs := hb.size
        clear hsk d0 d1 d2 d3 d4 d5 hst
        go_upto_region 5 with fail
        generalize wr.alloc (.cells #[.string s.name, .int .i64 s.bind, .int .i64 s.type, .int .i64 s.sec, .int .i64 s.value, .int .i64 s.size] 98) = ws at *
        obtain ⟨s0, _⟩ := cells6 _ _ _ _ _ _ _ _ _ hha
        have hown2 := owns_belowN hown hba
        have hb2 : Below w.heap.size w ws := hb.trans (hba.mono hbs)
        have hb2s := hb2.size
        clear e0 e1 e2 e3 e4 e5 hha hown hb hba
        go_wp2_with (at_builtin; refine wpList_append_own _ rfl (.tmp 21) (.tmp 24) 109 rfl w.heap.size 9 i0 _ 1 16 Tryz.underlying109 HI.out H0.out H1.out H2.out rfl (by decide) _ k _ rfl (hown2.alloc _) ⟨ws.heap.size, 0, none⟩ 1 1 [.string s.name] rfl rfl (cell_one_new ws _ _) (one_str _) (by unfold maxLen; omega) (by omega) (by simp; omega) ?_)
        intro v3 w4 hown4 hg4 _
        have hb4 : Below w.heap.size w w4 := (hb2.alloc hb2.size _).grown hg4 (by simp; omega) (fun g hg => (hown2.lt g hg).1)
        rw [str_snoc, ← HST.out] at hown4
        clear hown2 hg4 hb2
        go_wp2_with fail
        go_roundw
        case rel => exact ⟨k + 1, hlt, by go_num, hown4, hb4⟩
        case measure => simp [intOf]; omega
      · obtain rfl : k = yl := by omega
        have hJ : ¬ (k : Int) < (k : Int) := by omega
        have hE : Hid (syms.take k = syms) := Lib.hid (List.take_of_length_le (by rw [HYL.out]; exact Nat.le_refl _))
        rw [hE.out] at hown
        go_wp2_with fail
        go_meet
        exact ⟨hown, hb⟩
  case rest =>
    obtain ⟨hown, hb⟩ := hcut
    have HPB := Lib.hid (places_small syms (by rw [HYL.out]; omega) fun s hs => (HS.out s hs).1)
    obtain ⟨p5, c5, rfl, n1, n2, n3, hns⟩ := HasS.of_owns hown
    have hnm : symNames syms = (strsOf syms).map lst := by unfold symNames strsOf; simp
    have hmb : ∀ s ∈ strsOf syms, mayB (lst s) = true := fun s hs => by
      obtain ⟨y, hy, rfl⟩ := List.mem_map.1 hs
      exact (HS.out y hy).1
    have HMK := Lib.hid (sMake_wide p5 yl c5 _ _ hns n3 (by omega) hmb)
    rw [← hnm] at HMK
    clear hown hns hmb hnm n1 n2 n3
    generalize hnsd : symNames syms = ns at *
    generalize wc = wo at *
    have HNS := Lib.hid hnsd
    have HW : Hid (Below w.heap.size w wo) := Lib.hid hb
    have hbs := hb.size
    clear hnsd hb
    go_wp2_with fail
    refine HMK.out.mono ?_
    rintro e wm ⟨t1, t2, rfl, ht, hpl, hbm⟩
    have hbms := hbm.size
    have hpll : (placesOf ns).length = yl := by rw [placesOf_length, ← HNS.out]; unfold symNames; rw [List.length_map]; exact HYL.out
    rw [hpll] at hpl
    clear hpll
    go_wp2_with fail
    go_loopw [10, 11, 34] (fun r10 r11 r34 wx => ∃ (k n l : Nat), k ≤ yl ∧ r34 = .int .i64 (k : Int) ∧ r11 = .int .i64 (l : Int) ∧ l = localsOf (syms.take k) ∧ l ≤ k ∧ n = 24 * k ∧ wx.ownsRow wm.heap.size 5 1 r10 n ((symsBy ns (syms.take k)).map u8v) ∧ Below wm.heap.size wm wx) (fun _ _ r34 _ => yl - (intOf r34).toNat)
    case atStart => exact ⟨0, 0, 0, Nat.zero_le _, rfl, rfl, rfl, Nat.le_refl _, rfl, World.ownsRow_nil _ _ _ _, Below.refl _ _⟩
    case round =>
      obtain ⟨k, n, l, hk, rfl, rfl, hll, hlk, hn, hob, hbx⟩ := hrel
      have HLL := Lib.hid hll
      have HN := Lib.hid hn
      have hbxs := hbx.size
      by_cases hlt : k < yl
      · obtain ⟨b, off, s, rfl, hsk, ⟨d0, _⟩, ⟨d1, _⟩, ⟨d2, _⟩, ⟨d3, hb3b⟩, ⟨d4, _⟩, ⟨d5, _⟩⟩ := HQ.out.at_ (i := k) (by rw [HYL.out]; exact hlt)
        have hw1x : Below w.heap.size w wr := HW.out.trans ((hbm.trans (hbx.mono hbms)).mono hbs)
        have e0 := cell_later hw1x d0
        have e1 := cell_later hw1x d1
        have e2 := cell_later hw1x d2
        have e3 := cell_later hw1x d3
        have e4 := cell_later hw1x d4
        have e5 := cell_later hw1x d5
        obtain ⟨g, gc, cur, rfl, _, _, _, hgc, hgm, _, _⟩ := owns_form hpl (by omega)
        have hpx := owns_belowN hpl hbx
        have hsy := HS.out s (List.mem_of_getElem? hsk)
        have hpc : wr.cell? ⟨g, k, none⟩ = some (.int .i64 (placeOf ns (lst s.name) : Int)) := by
          rw [hpx.cellAt k (by omega)]
          have hns : ns[k]? = some (lst s.name) := by rw [← HNS.out]; unfold symNames; rw [List.getElem?_map, hsk]; rfl
          simp only [natV, placesOf, List.map_map, List.getElem?_map, hns]
          rfl
        have hpb : placeOf ns (lst s.name) ≤ 2147483647 := HPB.out s (List.mem_of_getElem? hsk)
        have hmay : (sixOf (placeOf ns (lst s.name)) s).may := by
          obtain ⟨m1, m2, m3, m4, m5, m6, m7, m8, m9⟩ := hsy
          refine ⟨(fitsB_iff _).2 ⟨by unfold sixOf; simp, by unfold sixOf; simp; omega⟩, m2, m3, m4, m5, m6, m7, ?_, ?_⟩ <;> (show _; unfold sixOf symIdx; simp only; split <;> omega)
        have hix := idx_eq hsy.2.2.2.2.2.2.2.1
        have HIX := Lib.hid fun W => index_any s.sec W
        have hst : symsBy ns (syms.take (k + 1)) = symsBy ns (syms.take k) ++ entB (sixOf (placeOf ns (lst s.name)) s) := by rw [List.take_add_one, hsk]; exact symsBy_snoc _ _ _
        have hlo : localsOf (syms.take (k + 1)) = localsOf (syms.take k) + (bif s.bind == 0 then 1 else 0) := by rw [List.take_add_one, hsk]; exact localsOf_snoc _ _
        have ht6 : sixOf (placeOf ns (lst s.name)) s = ⟨(placeOf ns (lst s.name) : Int), s.bind, s.type, symIdx s.sec, s.value, s.size⟩ := rfl
        rw [ht6] at hmay hst
        rw [hix] at HIX
        generalize symIdx s.sec = ix at *
        generalize placeOf ns (lst s.name) = pl at *
        have HC := Lib.hid fun W => (yput_ok ⟨(pl : Int), s.bind, s.type, ix, s.value, s.size⟩ W).1 hmay
        have hel := entB_length ⟨(pl : Int), s.bind, s.type, ix, s.value, s.size⟩
        generalize entB ⟨(pl : Int), s.bind, s.type, ix, s.value, s.size⟩ = eb at *
        have HEL := Lib.hid hel
        have HST := Lib.hid hst
        have HLO := Lib.hid hlo
        have hJ : (k : Int) < (yl : Int) := by omega
        have k2 : (0 : Int) ≤ (k : Int) := by omega
        have hba : Below wr.heap.size wr (wr.alloc (.cells #[.string s.name, .int .i64 s.bind, .int .i64 s.type, .int .i64 s.sec, .int .i64 s.value, .int .i64 s.size] 98)) := (Below.refl _ wr).alloc (Nat.le_refl _) _
        have hpa := cell_later hba hpc
        have hha := heap_new wr (.cells #[.string s.name, .int .i64 s.bind, .int .i64 s.type, .int .i64 s.sec, .int .i64 s.value, .int .i64 s.size] 98)
        have hsz : Hid ((wr.alloc (.cells #[.string s.name, .int .i64 s.bind, .int .i64 s.type, .int .i64 s.sec, .int .i64 s.value, .int .i64 s.size] 98)).heap.size = wr.heap.size + 1) := Lib.hid (by simp)
        clear hsk d0 d1 d2 d3 d4 d5 hw1x hpx hsy hmay hst hlo hll hn hix ht6 hel hpc hb3b
        go_upto_region 13 with fail
        generalize wr.alloc (.cells #[.string s.name, .int .i64 s.bind, .int .i64 s.type, .int .i64 s.sec, .int .i64 s.value, .int .i64 s.size] 98) = ws at *
        obtain ⟨s0, s1, s2, s3, s4, s5⟩ := cells6 _ _ _ _ _ _ _ _ _ hha
        go_cut [14] (fun s14 wx => s14 = .pointer (some ⟨ws.heap.size, 0, none⟩) ∧ wx = ws.drew.alloc (.cells #[.int .i64 (pl : Int), .int .i64 s.bind, .int .i64 s.type, .int .i64 ix, .int .i64 s.value, .int .i64 s.size] 281))
        case first =>
          clear e0 e1 e2 e3 e4 e5 hba
          go_region_held3 (fun W => W.cell? ⟨g, k, none⟩ = some (.int .i64 (pl : Int)) ∧ W.cell? ⟨wr.heap.size, 1, none⟩ = some (.int .i64 s.bind) ∧ W.cell? ⟨wr.heap.size, 2, none⟩ = some (.int .i64 s.type) ∧ W.cell? ⟨wr.heap.size, 3, none⟩ = some (.int .i64 s.sec) ∧ W.cell? ⟨wr.heap.size, 4, none⟩ = some (.int .i64 s.value) ∧ W.cell? ⟨wr.heap.size, 5, none⟩ = some (.int .i64 s.size)) (first | go_keep | exact ⟨hpa, s1, s2, s3, s4, s5⟩ | fail)
            ((first
              | (go_at_call 178
                 refine (HIX.out _).mono ?_
                 rintro e w' ⟨rfl, rfl⟩)
              | fail))
          all_goals
            go_wp2_with fail
            go_meet
            exact ⟨rfl, rfl⟩
        case rest =>
          obtain ⟨rfl, rfl⟩ := hcut
          have hbe : Below ws.heap.size ws (ws.drew.alloc (.cells #[.int .i64 (pl : Int), .int .i64 s.bind, .int .i64 s.type, .int .i64 ix, .int .i64 s.value, .int .i64 s.size] 281)) := below_grow ws _
          have hwe := hba.trans (hbe.mono hba.size)
          have t1' := cell_later hbe s1
          have hhe : (ws.drew.alloc (.cells #[.int .i64 (pl : Int), .int .i64 s.bind, .int .i64 s.type, .int .i64 ix, .int .i64 s.value, .int .i64 s.size] 281)).heap[ws.heap.size]? = some (.cells #[.int .i64 (pl : Int), .int .i64 s.bind, .int .i64 s.type, .int .i64 ix, .int .i64 s.value, .int .i64 s.size] 281 (0, 0)) := heap_new ws.drew _
          generalize (ws.drew.alloc (.cells #[.int .i64 (pl : Int), .int .i64 s.bind, .int .i64 s.type, .int .i64 ix, .int .i64 s.value, .int .i64 s.size] 281)) = we at *
          obtain ⟨f0, f1, f2, f3, f4, f5⟩ := cells6 _ _ _ _ _ _ _ _ _ hhe
          have hob1 := owns_belowN hob hwe
          have hobl := fun b hb => (hob.lt b hb).2
          have hbxe : Below wm.heap.size wm we := hbx.trans (hwe.mono hbxs)
          have hbxes := hbxe.size
          clear s0 s1 s2 s3 s4 s5 hha hpa hba hbe e0 e1 e2 e3 e4 e5 hob hbx hhe hwe
          go_wp2_with fail
          refine (HC.out _).mono ?_
          rintro e w2 ⟨v2', rfl, hown2, hbb2⟩
          rw [HEL.out] at hown2
          have hob2 := owns_below hob1 hbb2
          have u1' := cell_later hbb2 t1'
          have hbx2 : Below wm.heap.size wm w2 := hbxe.trans (hbb2.mono hbxes)
          obtain ⟨p2, cc2, rfl, g1, g2, g3, g4⟩ := Has.of_owns hown2
          have hpn := none_cap hown2
          have HG4 := Lib.hid g4
          have HG3 := Lib.hid g3
          have hn80 : n ≤ 5000 := by have := HN.out; omega
          clear hown2 hbb2 hob1 hbxe g4 g3 f0 f1 f2 f3 f4 f5 t1'
          go_wp2_with (at_builtin; refine wpList_append_bytes _ rfl (.tmp 55) (.tmp 57) 31 rfl wm.heap.size 5 i1 Tryz.underlying31 GI.out G0.out G1.out G2.out _ n _ rfl hob2 p2 24 cc2 eb rfl HG4.out HG3.out hpn (by omega) hbx2.size ?_)
          intro v3 w3 hob3 hg3 _
          have hbx3 : Below wm.heap.size wm w3 := hbx2.grown hg3 hbx2.size (fun g hg => (hob2.lt g hg).1)
          have y1' := hg3.cell u1' (fun e => Nat.lt_irrefl _ (hobl _ e.symm))
          rw [← List.map_append, ← HST.out] at hob3
          have hlk2 : l + 1 ≤ 1000 := by omega
          clear hob2 hbx2 hg3 u1' hobl
          cases hbd : (s.bind == 0) with
          | true =>
            have hE : Hid (l + 1 = localsOf (syms.take (k + 1))) := Lib.hid (by rw [HLO.out, hbd, ← HLL.out]; rfl)
            go_wp2_with fail
            go_roundw
            case rel => exact ⟨k + 1, n + 24, l + 1, hlt, by go_num, by go_num, hE.out, by omega, by have := HN.out; omega, hob3, hbx3⟩
            case measure => simp [intOf]; omega
          | false =>
            have hE : Hid (l = localsOf (syms.take (k + 1))) := Lib.hid (by rw [HLO.out, hbd, ← HLL.out]; rfl)
            go_wp2_with fail
            go_roundw
            case rel => exact ⟨k + 1, n + 24, l, hlt, by go_num, rfl, hE.out, by omega, by have := HN.out; omega, hob3, hbx3⟩
            case measure => simp [intOf]; omega
      · obtain rfl : k = yl := by omega
        have hJ : ¬ (k : Int) < (k : Int) := by omega
        have hE : Hid (syms.take k = syms) := Lib.hid (List.take_of_length_le (by rw [HYL.out]; exact Nat.le_refl _))
        rw [hE.out] at hob
        have hLo : Hid (l = localsOf syms) := Lib.hid (by rw [hll, hE.out])
        have htx := owns_below ht hbx
        have hbl : (symsBy ns syms).length = n := by have := hob.1; simpa using this
        have hbwr : Below w.heap.size w wr := HW.out.trans ((hbm.trans (hbx.mono hbms)).mono hbs)
        have hbws := hbwr.size
        have h9 := fun b hb => (hob.lt b hb)
        have h7 := fun b hb => (htx.lt b hb)
        obtain ⟨p9, c9, rfl, _, _, _, _⟩ := Has.of_owns hob
        obtain ⟨p7, c7, rfl, _, _, _, _⟩ := Has.of_owns htx
        have hrs : Hid (res = [⟨szT (symHead a l) n, nSymtab, symsBy ns syms⟩] ++ [⟨szT tabHead ((tabOf ns).tb.length : Int), nStrtab, (tabOf ns).tb⟩]) := Lib.hid (by
          rw [HRES.out, hLo.out]
          unfold szP
          rw [hbl]
          rfl)
        generalize htl : (tabOf ns).tb.length = tl at *
        have hpt : PartsAt wr (fun b => w.heap.size ≤ b ∧ b < wr.heap.size) ([⟨szT (symHead a l) n, nSymtab, .slice p9 n c9⟩] ++ [⟨szT tabHead (tl : Int), nStrtab, .slice p7 tl c7⟩]) ([⟨szT (symHead a l) n, nSymtab, symsBy ns syms⟩] ++ [⟨szT tabHead (tl : Int), nStrtab, (tabOf ns).tb⟩]) :=
          (PartsAt.one (SlB.of_owns hob fun b hb => ⟨by have := (h9 b hb).1; omega, (h9 b hb).2⟩)).append (PartsAt.one (SlB.of_owns htx fun b hb => ⟨by have := (h7 b hb).1; omega, (h7 b hb).2⟩))
        have HPT := Lib.hid hpt
        have HN1 := Lib.hid fun W => newPart_any nSymtab (symHead a l) p9 n c9 W
        have HN2 := Lib.hid fun W => newPart_any nStrtab tabHead p7 tl c7 W
        clear hll hn hE hpt h9 h7 hob htx hbl htl hbx
        go_wp2_with fail
        refine (HN1.out _).mono ?_
        rintro e wa ⟨rfl, hbba⟩
        have hbas := hbba.size
        go_wp2_with fail
        refine (HN2.out _).mono ?_
        rintro e wb ⟨rfl, hbbb⟩
        have hbb9 : Below wr.heap.size wr wb := hbba.trans (hbbb.mono hbas)
        have hbb9s := hbb9.size
        have hbW : Below w.heap.size w wb := hbwr.trans (hbb9.mono hbws)
        have hbWs := hbW.size
        clear hbba hbbb
        go_wp2_with fail
        go_ret
        rw [hrs.out]
        refine ⟨.slice (some ⟨wb.heap.size, 0, none⟩) 2 2, [⟨szT (symHead a l) n, nSymtab, .slice p9 n c9⟩] ++ [⟨szT tabHead (tl : Int), nStrtab, .slice p7 tl c7⟩], rfl, World.ownsRow_lit wb _ 2 hbWs (by unfold maxLen; omega) rfl, ?_, hbW.alloc hbWs _⟩
        refine PartsAt.weaken (K := fun b => w.heap.size ≤ b ∧ b < wr.heap.size) ((HPT.out.below hbb9).below ((Below.refl _ wb).alloc (Nat.le_refl _) _)) ?_
        intro b _ h
        refine ⟨h.1, fun he => ?_⟩
        have he : b = wb.heap.size := Option.some.inj he
        omega
end Go.Proofs.YteopgmieindojaaGreat

namespace Go.Proofs.YteopgmieindojaaGreat
open Go.RowKit
def zPart : Value := .agg #[.string ⟨#[]⟩, .int .i64 0, .int .i64 0, .int .i64 0, .int .i64 0, .int .i64 0, .int .i64 0, .int .i64 0, .int .i64 0, .int .i64 0, .int .i64 0, .slice none 0 0]
theorem zPart_size : zPart.cells.size = 12 := rfl
set_option maxRecDepth 100000 in
theorem growP_nil (n : Nat) (w : World) (hn : n ≤ 1000000) :
  Calls Tryz.prog 175 #[.slice none 0 0, .int .i64 (n : Int)] w fun e w' => ∃ v, e = .returned v ∧ w'.ownsRow w.heap.size 228 12 v 0 [] ∧ Below w.heap.size w w' := by
 rcases Nat.eq_zero_or_pos n with rfl | h0
 ·go_enter Tryz.func175, Tryz.ntmps175
  go_wp2_with fail
  go_ret
  exact ⟨_, rfl, World.ownsRow_nil _ _ _ _, Below.refl _ _⟩
 ·obtain ⟨i0, hi, hz0, hz1, hz2⟩ := info_parts Tryz.infoOwnPart
  have hz0' : i0.zero = some zPart := hz0
  have happ := Lib.run_append_nil_zeros (P := Tryz.prog) w 167 3 167 228 i0 zPart .i64 .i64 Tryz.underlying167 Tryz.underlying3 hi hz0' n h0 (by omega) (by omega) (by rw [hz2]; omega)
  have hc1 : n ≤ grownCap w n 0 228 := grownCap_ge w n 0 _
  have hc2 : grownCap w n 0 228 ≤ maxLen := grownCap_le_maxLen w n 0 _ (by unfold maxLen; omega)
  generalize grownCap w n 0 228 = cap at *
  have hzs : (Builtin.zeroCells zPart.cells n ++ Builtin.zeroCells zPart.cells (cap - n)).size = cap * 12 := by
   rw [Array.size_append, size_zeroCells, size_zeroCells, zPart_size]
   omega
  generalize (Builtin.zeroCells zPart.cells n ++ Builtin.zeroCells zPart.cells (cap - n)) = Z at *
  have HA := Lib.hid happ
  have HZ := Lib.hid hzs
  have hcp : ¬ cap = 0 := by omega
  clear happ hi hz0 hz1 hz2 hzs hz0'
  go_enter Tryz.func175, Tryz.ntmps175
  go_wp2_with (at_builtin; refine Lib.wpList_append_run _ rfl _ _ _ _ rfl _ _ rfl rfl _ _ HA.out ?_)
  go_wp2_with fail
  go_ret
  refine ⟨_, rfl, ⟨by simp, .inr ⟨w.heap.size, cap, Z, rfl, Nat.le_refl _, ?_, Nat.zero_le _, hc2, HZ.out, by simp⟩⟩, ?_⟩
  ·exact heap_alloc_new w _
  ·exact ((Below.refl _ w).alloc (Nat.le_refl _) _).drew
def HasPs (w : World) (p : Option Addr) (ls : List (List PV)) : Prop :=
 ∀ i l, ls[i]? = some l → ∃ g o v b, p = some ⟨g, o, none⟩ ∧ w.cell? ⟨g, o + i, none⟩ = some v ∧ w.ownsRow b 228 12 v l.length (pvs false l) ∧ ∀ u ∈ pvs false l, u.oneCell' = true
theorem HasPs.below {w w' : World} {p : Option Addr} {ls : List (List PV)} (h : HasPs w p ls) (hb : Below w.heap.size w w') : HasPs w' p ls := fun i l hl => by
 obtain ⟨g, o, v, b, hp, hc, h1, h2⟩ := h i l hl
 exact ⟨g, o, v, b, hp, cell_later hb hc, owns_belowN h1 hb, h2⟩
theorem flatP_succ {ls : List (List PV)} {k : Nat} {l : List PV} (h : ls[k]? = some l) : (ls.take (k + 1)).flatten = (ls.take k).flatten ++ l := by
 rw [List.take_add_one, h]; simp
theorem flatP_le (ls : List (List PV)) (k : Nat) : (ls.take k).flatten.length ≤ ls.flatten.length := by
 have e : ls.flatten = (ls.take k).flatten ++ (ls.drop k).flatten := by rw [← List.flatten_append, List.take_append_drop]
 have := congrArg List.length e
 rw [List.length_append] at this
 omega
set_option maxRecDepth 100000 in
set_option maxHeartbeats 1000000 in
theorem concatP_any (p : Option Addr) (m c : Nat) (ls : List (List PV)) (w : World) (h : HasPs w p ls) (hlen : ls.length = m) (hm : m ≤ 1000000) (hsum : ls.flatten.length ≤ 100000) :
  Calls Tryz.prog 130 #[.slice p m c] w fun e w' => ∃ v, e = .returned v ∧ w'.ownsRow w.heap.size 228 12 v ls.flatten.length (pvs false ls.flatten) ∧ Below w.heap.size w w' := by
 obtain ⟨i0, hi, hz0, hz1, hz2⟩ := info_parts Tryz.infoOwnPart
 have HI := Lib.hid hi
 have H0 := Lib.hid hz0
 have H1 := Lib.hid hz1
 have H2 := Lib.hid hz2
 have HX := Lib.hid h
 have HL := Lib.hid hlen
 have HS := Lib.hid (fun k => flatP_le ls k)
 have HSUM := Lib.hid hsum
 clear h hlen hi hz0 hz1 hz2 hsum
 go_enter Tryz.func130, Tryz.ntmps130
 go_wp2_with fail
 go_loop [3, 5, 11] (fun sz _ ii => ∃ k q : Nat, k ≤ m ∧ q = (ls.take k).flatten.length ∧ ii = .int .i64 (k : Int) ∧ sz = .int .i64 (q : Int)) (fun _ _ ii => m - (intOf ii).toNat)
 case atStart => exact ⟨0, 0, Nat.zero_le _, by simp, rfl, rfl⟩
 case round =>
  obtain ⟨k, q, hk, hq, rfl, rfl⟩ := hrel
  have HQ := Lib.hid hq
  have hq1 : q ≤ 100000 := by have := HS.out k; have := HSUM.out; omega
  by_cases hlt : k < m
  ·obtain ⟨l, hl⟩ : ∃ l, ls[k]? = some l := ⟨_, List.getElem?_eq_getElem (by rw [HL.out]; exact hlt)⟩
   obtain ⟨g, o, v, b, rfl, hc, hown, _⟩ := HX.out k l hl
   obtain ⟨r, c', rfl, _, _, _⟩ := slice_form hown
   have ht := flatP_succ hl
   have hq2 : q + l.length = (ls.take (k + 1)).flatten.length := by rw [ht, List.length_append, ← hq]
   have HQ2 := Lib.hid hq2
   have hq3 : q + l.length ≤ 100000 := by have := HS.out (k + 1); have := HSUM.out; omega
   have hI : (k : Int) < (m : Int) := by omega
   have hI0 : (0 : Int) ≤ (k : Int) := by omega
   clear hq hq2 ht hl hown
   generalize l.length = n at *
   go_wp2_with fail
   go_round
   case rel => exact ⟨k + 1, q + n, hlt, HQ2.out, by go_num, by go_num⟩
   case measure => simp [intOf]; omega
  ·have hkm : k = m := by omega
   have HK := Lib.hid hkm
   have hq0 : ¬ (q : Int) < 0 := by omega
   clear hq hkm
   have HG := Lib.hid fun W => growP_nil q W (by omega)
   go_wp2_with fail
   refine (HG.out _).mono ?_
   rintro e w1 ⟨v1, rfl, hown1, hb1⟩
   clear HG HQ hq1 hq0 HK hk hlt
   go_wp2_with fail
   go_loopw [6, 8, 27] (fun v _ ii wr => ∃ k q : Nat, k ≤ m ∧ q = (ls.take k).flatten.length ∧ ii = .int .i64 (k : Int) ∧ wr.ownsRow w.heap.size 228 12 v q (pvs false (ls.take k).flatten) ∧ Below w.heap.size w wr) (fun _ _ ii _ => m - (intOf ii).toNat)
   case atStart => exact ⟨0, 0, Nat.zero_le _, by simp, rfl, hown1, hb1⟩
   case round =>
    obtain ⟨k, q, hk, hq, rfl, hown, hb⟩ := hrel
    have HQ := Lib.hid hq
    have hq1 : q ≤ 100000 := by have := HS.out k; have := HSUM.out; omega
    clear hown1 hb1
    by_cases hlt : k < m
    ·obtain ⟨l, hl⟩ : ∃ l, ls[k]? = some l := ⟨_, List.getElem?_eq_getElem (by rw [HL.out]; exact hlt)⟩
     obtain ⟨g, o, v, b, rfl, hc, howl, hone⟩ := HX.out k l hl
     have ht := flatP_succ hl
     have hq2 : q + l.length = (ls.take (k + 1)).flatten.length := by rw [ht, List.length_append, ← hq]
     have HQ2 := Lib.hid hq2
     have hq3 : q + l.length ≤ 100000 := by have := HS.out (k + 1); have := HSUM.out; omega
     have hI : (k : Int) < (m : Int) := by omega
     have hI0 : (0 : Int) ≤ (k : Int) := by omega
     have hcl := cell_later hb hc
     have howl2 := owns_belowN howl hb
     have HONE := Lib.hid hone
     have hpp : pvs false (ls.take (k + 1)).flatten = pvs false (ls.take k).flatten ++ pvs false l := by rw [ht, pvs_append]
     have HPP := Lib.hid hpp
     clear hq hq2 ht hl hc howl hone hpp
     generalize l.length = n at *
     go_wp2_with (at_builtin; refine wpList_append_rows _ rfl _ _ 167 rfl w.heap.size 228 i0 _ 12 120 Tryz.underlying167 HI.out H0.out H1.out H2.out rfl (by decide) _ q _ rfl hown _ n _ rfl _ howl2 HONE.out (by unfold maxLen; omega) (by omega) hb.size ?_)
     intro v2 w2 hown2 hgrow2 _
     have hb2 : Below w.heap.size w w2 := hb.grown hgrow2 hb.size (fun g hg => (hown.lt g hg).1)
     rw [← HPP.out] at hown2
     clear hgrow2 hown hb hcl howl2
     go_wp2_with fail
     go_roundw
     case rel => exact ⟨k + 1, q + n, hlt, HQ2.out, by go_num, hown2, hb2⟩
     case measure => simp [intOf]; omega
    ·obtain rfl : k = m := by omega
     have ht : ls.take k = ls := List.take_of_length_le (by rw [HL.out]; exact Nat.le_refl _)
     rw [ht] at hown hq
     have HO := Lib.hid hown
     have HQ2 := Lib.hid hq
     clear ht hown hq
     go_wp2_with fail
     go_ret
     exact ⟨_, rfl, by rw [← HQ2.out]; exact HO.out, hb⟩
end Go.Proofs.YteopgmieindojaaGreat

namespace Go.Proofs.YteopgmieindojaaGreat
open Go.RowKit
def linkT (a : Int) (t : Ten) : Ten := ⟨t.a, t.b, t.c, t.d, t.e, t.f, a, t.h, t.i, t.j⟩
def linkV (a : Int) (p : PV) : PV := ⟨linkT a p.h, p.name, p.v⟩
def linkD (a : Int) (p : PartD) : PartD := ⟨linkT a p.h, p.name, p.b⟩
def linkK (a : Int) (k : Nat) (l : List PV) : List PV := (l.take k).map (linkV a) ++ l.drop k
theorem linkK_zero (a : Int) (l : List PV) : linkK a 0 l = l := by simp [linkK]
theorem linkK_all (a : Int) (l : List PV) : linkK a l.length l = l.map (linkV a) := by simp [linkK]
theorem linkK_length (a : Int) (k : Nat) (l : List PV) : (linkK a k l).length = l.length := by simp [linkK]; omega
theorem linkK_step {a : Int} {k : Nat} {l : List PV} (h : k < l.length) : (pvs false (linkK a k l)).set (k * 12 + 7) (.int .i64 a) = pvs false (linkK a (k + 1) l) := by
 have e1 : linkK a k l = (l.take k).map (linkV a) ++ (l[k] :: l.drop (k + 1)) := by unfold linkK; rw [List.drop_eq_getElem_cons h]
 have e2 : linkK a (k + 1) l = (l.take k).map (linkV a) ++ (linkV a l[k] :: l.drop (k + 1)) := by
  unfold linkK
  rw [List.take_add_one, List.getElem?_eq_getElem h, List.map_append]
  simp only [Option.toList, List.map_cons, List.map_nil, List.append_assoc, List.cons_append, List.nil_append]
 have hl : (pvs false ((l.take k).map (linkV a))).length = k * 12 := by rw [pvs_length]; simp; omega
 rw [e1, e2, pvs_append, pvs_append, List.set_append_right _ _ (by omega), hl, show k * 12 + 7 - k * 12 = 7 by omega]
 congr 1
theorem link_parts {w : World} {K : Nat → Prop} {pv : List PV} {pd : List PartD} (a : Int) (h : PartsAt w K pv pd) : PartsAt w K (pv.map (linkV a)) (pd.map (linkD a)) := by
 refine ⟨by simp [h.1], fun i x y hx hy => ?_⟩
 rw [List.getElem?_map] at hx hy
 obtain ⟨x0, hx0, rfl⟩ := Option.map_eq_some_iff.1 hx
 obtain ⟨y0, hy0, rfl⟩ := Option.map_eq_some_iff.1 hy
 obtain ⟨h1, h2, h3⟩ := h.2 i x0 y0 hx0 hy0
 exact ⟨by unfold linkV linkD; rw [h1], h2, h3⟩
theorem link_rel (a : Int) (secs : List SecD) (k : Nat) : ((relPs 0 secs k).map szP).map (linkD a) = (relPs a secs k).map szP := by
 unfold relPs
 rw [List.map_flatMap, List.map_flatMap, List.map_flatMap]
 congr 1
 funext i
 unfold relPartAt relPart
 split
 ·split <;> rfl
 ·rfl
theorem link_group (a : Int) (gs : List GroupD) (sg : Bool) (sig : List Int) : ((groupPs 0 gs sg sig).map szP).map (linkD a) = (groupPs a gs sg sig).map szP := by
 unfold groupPs
 simp only [List.map_append, List.map_map]
 cases sg <;> rfl
def ownPs (o : ObjD) : List PartD := o.secs.map secPart ++ ((relPs (symNo o) o.secs o.secs.length ++ groupPs (symNo o) o.groups o.hasSig o.sig).map szP ++ (symPs (symNo o) o.syms).map szP)
theorem hasPs_three (w : World) (T : TypeId) (v1 v2 v3 : Value) (l1 l2 l3 : List PV) (b1 b2 b3 : Nat) (h1 : w.ownsRow b1 228 12 v1 l1.length (pvs false l1)) (h2 : w.ownsRow b2 228 12 v2 l2.length (pvs false l2)) (h3 : w.ownsRow b3 228 12 v3 l3.length (pvs false l3))
  (o1 : ∀ u ∈ pvs false l1, u.oneCell' = true) (o2 : ∀ u ∈ pvs false l2, u.oneCell' = true) (o3 : ∀ u ∈ pvs false l3, u.oneCell' = true) :
  HasPs (w.alloc (.cells #[v1, v2, v3] T)) (some ⟨w.heap.size, 0, none⟩) [l1, l2, l3] := fun i l hl => by
 have hn := heap_new w (.cells #[v1, v2, v3] T)
 match i, hl with
 | 0, hl =>
  simp at hl
  subst hl
  exact ⟨_, _, v1, b1, rfl, (cell_of_row _ w.heap.size 0 _ T (0, 0) hn).trans rfl, h1.alloc _, o1⟩
 | 1, hl =>
  simp at hl
  subst hl
  exact ⟨_, _, v2, b2, rfl, (cell_of_row _ w.heap.size 1 _ T (0, 0) hn).trans rfl, h2.alloc _, o2⟩
 | 2, hl =>
  simp at hl
  subst hl
  exact ⟨_, _, v3, b3, rfl, (cell_of_row _ w.heap.size 2 _ T (0, 0) hn).trans rfl, h3.alloc _, o3⟩
theorem three_parts {w4 wm w5 : World} {lo N : Nat} {T : TypeId} {vO v1 v2 v3 : Value} {l1 l2 l3 : List PV} {d1 d2 d3 d : List PartD} (hd : d = d1 ++ (d2 ++ d3)) (h1 : PartsAt w4 (fun b => lo ≤ b ∧ some b ≠ v1.ownBlock) l1 d1) (h2 : PartsAt w4 (fun b => lo ≤ b ∧ some b ≠ v2.ownBlock) l2 d2) (h3 : PartsAt w4 (fun b => lo ≤ b ∧ some b ≠ v3.ownBlock) l3 d3)
  (hb : Below w4.heap.size w4 wm) (hb5 : Below wm.heap.size wm w5) (ho : w5.ownsRow wm.heap.size T 12 vO ([l1, l2, l3].flatten).length (pvs false [l1, l2, l3].flatten)) (hN : N ≤ w4.heap.size) :
  w5.ownsRow N T 12 vO d.length (pvs false [l1, l2, l3].flatten) ∧ PartsAt w5 (fun b => lo ≤ b ∧ some b ≠ vO.ownBlock) [l1, l2, l3].flatten d := by
 have hf : [l1, l2, l3].flatten = l1 ++ (l2 ++ l3) := by simp
 have hs := hb.size
 have hpt : PartsAt w4 (fun b => lo ≤ b ∧ b < w4.heap.size) (l1 ++ (l2 ++ l3)) (d1 ++ (d2 ++ d3)) := (h1.weaken fun b hb h => ⟨h.1, hb⟩).append ((h2.weaken fun b hb h => ⟨h.1, hb⟩).append (h3.weaken fun b hb h => ⟨h.1, hb⟩))
 subst hd
 rw [hf] at ho ⊢
 constructor
 ·rw [← hpt.1]
  exact owns_lower ho (by omega)
 ·refine ((hpt.below hb).below hb5).weaken fun b _ h => ⟨h.1, fun e => ?_⟩
  have := (ho.lt b e.symm).1
  omega
theorem own_lt {w : World} {base s n : Nat} {T : TypeId} {v v2 : Value} {xs : List Value} (h : w.ownsRow base T s v n xs) (hlo : ∀ g, v2.ownBlock = some g → w.heap.size ≤ g) : v.ownBlock = none ∨ v.ownBlock ≠ v2.ownBlock := by
 cases hv : v.ownBlock with
 | none => exact .inl rfl
 | some b =>
  refine .inr fun e => ?_
  have h1 := (h.lt b hv).2
  have h2 := hlo b e.symm
  omega
set_option maxRecDepth 100000 in
set_option maxHeartbeats 4000000 in
theorem ownParts_any (o : ObjD) (v0 v1 v2 v4 : Value) (w : World) (hp : ObjParts w v0 v1 v2 v4 o) (hl : Lays o) :
    Calls Tryz.prog 79 #[objV v0 v1 v2 o.hasSig v4] w (GivesParts 228 false 0 (ownPs o) w) := by
  have hb1 : Below w.heap.size w (w.alloc (.cells #[v0, v1, v2, .bool o.hasSig, v4] 27)) := (Below.refl _ w).alloc (Nat.le_refl _) _
  have hpW := hp.below hb1
  obtain ⟨hq, hys, hgp, hsg⟩ := hpW
  have hsgx := hsg
  obtain ⟨p0, c0, rfl, _, _, _, hqh⟩ := hq
  obtain ⟨p1, c1, rfl, _, _, _, hyh⟩ := hys
  obtain ⟨p2, c2, rfl, _, _, _, hgh⟩ := hgp
  have a0 : (w.alloc (.cells #[.slice p0 o.secs.length c0, .slice p1 o.syms.length c1, .slice p2 o.groups.length c2, .bool o.hasSig, v4] 27)).cell? ⟨w.heap.size, 0, none⟩ = some (.slice p0 o.secs.length c0) := by simp
  have a1 : (w.alloc (.cells #[.slice p0 o.secs.length c0, .slice p1 o.syms.length c1, .slice p2 o.groups.length c2, .bool o.hasSig, v4] 27)).cell? ⟨w.heap.size, 1, none⟩ = some (.slice p1 o.syms.length c1) := by simp
  have a2 : (w.alloc (.cells #[.slice p0 o.secs.length c0, .slice p1 o.syms.length c1, .slice p2 o.groups.length c2, .bool o.hasSig, v4] 27)).cell? ⟨w.heap.size, 2, none⟩ = some (.slice p2 o.groups.length c2) := by simp
  have a3 : (w.alloc (.cells #[.slice p0 o.secs.length c0, .slice p1 o.syms.length c1, .slice p2 o.groups.length c2, .bool o.hasSig, v4] 27)).cell? ⟨w.heap.size, 3, none⟩ = some (.bool o.hasSig) := by simp
  have a4 : (w.alloc (.cells #[.slice p0 o.secs.length c0, .slice p1 o.syms.length c1, .slice p2 o.groups.length c2, .bool o.hasSig, v4] 27)).cell? ⟨w.heap.size, 4, none⟩ = some v4 := by simp
  have hbs1 := hb1.size
  have hnsec := hl.nsec
  have hngrp := hl.ngrp
  have hnsym := hl.nsym
  generalize hW1 : w.alloc (.cells #[.slice p0 o.secs.length c0, .slice p1 o.syms.length c1, .slice p2 o.groups.length c2, .bool o.hasSig, v4] 27) = W1 at *
  have hgW : w.heap.size < W1.heap.size := World.block_lt_of_cell? W1 _ a0
  have HSP := Lib.hid fun (W : World) (hW : Below W1.heap.size W1 W) => ownSecParts_any p0 c0 o.secs W (hqh.below ESec.keeps hW) hl.nsec
  have HR := Lib.hid fun (W : World) (hW : Below W1.heap.size W1 W) => ownRelParts_any p0 c0 o.secs W (hqh.below ESec.keeps hW) hl.nsec (fun s hs => ⟨(hl.secs s hs).2.2.2.2.2.2.2.2.1, (hl.secs s hs).2.2.2.2.2.2.2.2.2.2⟩)
  have HG := Lib.hid fun (W : World) (hW : Below W1.heap.size W1 W) => ownGroupParts_any p2 c2 o.groups W (hgh.below EGroup.keeps hW) hl.ngrp (fun g hg => (hl.grps g hg).2.1)
  have HX := Lib.hid fun (W : World) (hW : Below W1.heap.size W1 W) => ownSigParts_any (.slice p0 o.secs.length c0) (.slice p1 o.syms.length c1) (.slice p2 o.groups.length c2) v4 o.hasSig o.sig W (hsgx.below EInt.keeps hW) (by have := hl.nsig; omega) hl.sigs
  have HY := Lib.hid fun (a : Int) (ha : 0 ≤ a ∧ a ≤ 1000) (W : World) (hW : Below W1.heap.size W1 W) => ownSymParts_any p1 c1 o.syms a W ha (hyh.below ESym.keeps hW) hl.nsym hl.syms
  have HSN := Lib.hid (symNo_le hl)
  have HB1 := Lib.hid hb1
  have hop : ownPs o = o.secs.map secPart ++ ((relPs (symNo o) o.secs o.secs.length ++ groupPs (symNo o) o.groups o.hasSig o.sig).map szP ++ (symPs (symNo o) o.syms).map szP) := rfl
  have hsn : symNo o = 1 + o.secs.length + (relPs 0 o.secs o.secs.length).length + (groupPs 0 o.groups o.hasSig o.sig).length := rfl
  have hod : (relPs 0 o.secs o.secs.length ++ groupPs 0 o.groups o.hasSig o.sig).map szP = (relPs 0 o.secs o.secs.length).map szP ++ ((o.groups.map (groupPart 0)).map szP ++ (bif o.hasSig then [sigPart 0 o.sig] else []).map szP) := by unfold groupPs; rw [List.map_append, List.map_append]
  have HOP := Lib.hid hop
  have HSNO := Lib.hid hsn
  have HOD := Lib.hid hod
  clear hp hl hb1 hqh hyh hgh hsg hsgx hop hsn hod
  generalize hql : o.secs.length = ql at *
  generalize hyl : o.syms.length = yl at *
  generalize hgl : o.groups.length = gl at *
  generalize o.hasSig = sg at *
  have HQL := Lib.hid hql
  have HGL := Lib.hid hgl
  clear hql hyl hgl
  go_enter Tryz.func79, Tryz.ntmps79
  go_upto_region 1 with fail
  clear hW1
  go_wp2_with fail
  refine (HSP.out _ (Below.refl _ _)).mono ?_
  rintro e wa ⟨vS, pvS, rfl, hownS, hpaS, hbA⟩
  have hbAs := hbA.size
  have z0 := cell_later hbA a0
  have z1 := cell_later hbA a1
  have z2 := cell_later hbA a2
  have z3 := cell_later hbA a3
  have z4 := cell_later hbA a4
  have HPS := Lib.hid hpaS
  clear hpaS a0 a1 a2 a3 a4 HSP
  have hocS := HPS.out.oneCell (q := false)
  have HOCS := Lib.hid hocS
  have hsl : (o.secs.map secPart).length = ql := by rw [List.length_map, HQL.out]
  rw [hsl] at hownS
  clear hocS
  have hnr : (relPs 0 o.secs ql).length ≤ ql := relPs_len _ _ _
  have hng := groupPs_len 0 o.groups sg o.sig
  have hgl2 : o.groups.length ≤ 40 := by have := HGL.out; omega
  go_upto_region 2 with fail
  go_cut [4] (fun s4 wx => ∃ (pvO : List PV), wx.ownsRow wa.heap.size 228 12 s4 ((relPs 0 o.secs ql ++ groupPs 0 o.groups sg o.sig).map szP).length (pvs false pvO) ∧ PartsAt wx (fun b => wa.heap.size ≤ b ∧ some b ≠ s4.ownBlock) pvO ((relPs 0 o.secs ql ++ groupPs 0 o.groups sg o.sig).map szP) ∧ Below wa.heap.size wa wx)
  case first =>
    clear HY HOP HSNO
    go_region_held3 (fun W => W.cell? ⟨w.heap.size, 0, none⟩ = some (.slice p0 ql c0) ∧ W.cell? ⟨w.heap.size, 1, none⟩ = some (.slice p1 yl c1) ∧ W.cell? ⟨w.heap.size, 2, none⟩ = some (.slice p2 gl c2) ∧ W.cell? ⟨w.heap.size, 3, none⟩ = some (.bool sg) ∧ W.cell? ⟨w.heap.size, 4, none⟩ = some v4) (first | go_keep | exact ⟨z0, z1, z2, z3, z4⟩ | exact ⟨e0, e1, e2, e3, e4⟩ | exact ⟨g0, g1, g2, g3, g4⟩ | exact ⟨k0, k1, k2, k3, k4⟩ | exact ⟨m0, m1, m2, m3, m4⟩ | exact ⟨q0, q1, q2, q3, q4⟩ | fail)
      ((first
        | (go_at_call 131
           refine (HR.out _ (by exact hbA.drew)).mono ?_
           rintro e w2 ⟨vR, pvR, rfl, hownR, hpaR, hbb2⟩
           rw [List.length_map] at hownR
           obtain ⟨pR, cR, rfl, _, _, _⟩ := slice_form hownR
           have e0 : w2.cell? ⟨w.heap.size, 0, none⟩ = some (.slice p0 ql c0) := cell_later hbb2 z0
           have e1 : w2.cell? ⟨w.heap.size, 1, none⟩ = some (.slice p1 yl c1) := cell_later hbb2 z1
           have e2 : w2.cell? ⟨w.heap.size, 2, none⟩ = some (.slice p2 gl c2) := cell_later hbb2 z2
           have e3 : w2.cell? ⟨w.heap.size, 3, none⟩ = some (.bool sg) := cell_later hbb2 z3
           have e4 : w2.cell? ⟨w.heap.size, 4, none⟩ = some v4 := cell_later hbb2 z4
           have hb2 : Below W1.heap.size W1 w2 := hbA.drew.trans (hbb2.mono (by exact hbAs))
           have hbl2 : Below wa.heap.size wa w2 := (Below.refl _ wa).drew.trans hbb2
           have hownR' : w2.ownsRow wa.heap.size 228 12 (.slice pR (relPs 0 o.secs ql).length cR) (relPs 0 o.secs ql).length (pvs false pvR) := hownR
           have HPR : Hid (PartsAt w2 (fun b => wa.heap.size ≤ b ∧ some b ≠ (Value.slice pR (relPs 0 o.secs ql).length cR).ownBlock) pvR ((relPs 0 o.secs ql).map szP)) := Lib.hid hpaR
           clear hownR hpaR hbb2)
        | (go_at_call 132
           refine (HG.out _ (by exact hb2)).mono ?_
           rintro e w3 ⟨vG, pvG, rfl, hownG, hpaG, hbb3⟩
           rw [List.length_map, List.length_map] at hownG
           obtain ⟨pG, cG, rfl, _, _, _⟩ := slice_form hownG
           have g0 : w3.cell? ⟨w.heap.size, 0, none⟩ = some (.slice p0 ql c0) := cell_later hbb3 e0
           have g1 : w3.cell? ⟨w.heap.size, 1, none⟩ = some (.slice p1 yl c1) := cell_later hbb3 e1
           have g2 : w3.cell? ⟨w.heap.size, 2, none⟩ = some (.slice p2 gl c2) := cell_later hbb3 e2
           have g3 : w3.cell? ⟨w.heap.size, 3, none⟩ = some (.bool sg) := cell_later hbb3 e3
           have g4 : w3.cell? ⟨w.heap.size, 4, none⟩ = some v4 := cell_later hbb3 e4
           have hb3 : Below W1.heap.size W1 w3 := hb2.trans (hbb3.mono hb2.size)
           have hbl3 : Below wa.heap.size wa w3 := hbl2.trans (hbb3.mono hbl2.size)
           have hownR3 := owns_belowN hownR' hbb3
           have HPR3 := Lib.hid (HPR.out.below hbb3)
           have HPG := Lib.hid hpaG
           have hl2 := hbl2.size
           clear hpaG hbb3 hownR' HPR)
        | (go_at_call 133
           refine (HX.out _ (by exact hb3)).mono ?_
           rintro e w4 ⟨vX, pvX, rfl, hownX, hpaX, hbb4⟩
           rw [List.length_map] at hownX
           obtain ⟨pX, cX, rfl, _, _, _⟩ := slice_form hownX
           have k0 : w4.cell? ⟨w.heap.size, 0, none⟩ = some (.slice p0 ql c0) := cell_later hbb4 g0
           have k1 : w4.cell? ⟨w.heap.size, 1, none⟩ = some (.slice p1 yl c1) := cell_later hbb4 g1
           have k2 : w4.cell? ⟨w.heap.size, 2, none⟩ = some (.slice p2 gl c2) := cell_later hbb4 g2
           have k3 : w4.cell? ⟨w.heap.size, 3, none⟩ = some (.bool sg) := cell_later hbb4 g3
           have k4 : w4.cell? ⟨w.heap.size, 4, none⟩ = some v4 := cell_later hbb4 g4
           have hl3 := hbl3.size
           have hbl4 : Below wa.heap.size wa w4 := hbl3.trans (hbb4.mono hl3)
           have hl4 := hbl4.size
           have hownR4 := owns_belowN hownR3 hbb4
           have hownG4 := owns_belowN hownG hbb4
           have HPR4 := Lib.hid (HPR3.out.below hbb4)
           have HPG4 := Lib.hid (HPG.out.below hbb4)
           have HPX := Lib.hid hpaX
           have hbm : Below w4.heap.size w4 (w4.alloc (.cells #[(.slice pR (relPs 0 o.secs ql).length cR), (.slice pG o.groups.length cG), (.slice pX (bif sg then [sigPart 0 o.sig] else []).length cX)] 167)) := (Below.refl _ w4).alloc (Nat.le_refl _) _
           have m0 := cell_later hbm k0
           have m1 := cell_later hbm k1
           have m2 := cell_later hbm k2
           have m3 := cell_later hbm k3
           have m4 := cell_later hbm k4
           clear hpaX hbb4 hownR3 hownG HPR3 HPG)
        | (go_at_call 130
           refine (concatP_any (some ⟨w4.heap.size, 0, none⟩) 3 3 [pvR, pvG, pvX] _ (hasPs_three w4 167 _ _ _ pvR pvG pvX _ _ _ (by rw [HPR4.out.1, List.length_map]; exact hownR4) (by rw [HPG4.out.1, List.length_map, List.length_map]; exact hownG4) (by rw [HPX.out.1, List.length_map]; exact hownX) (HPR4.out.oneCell (q := false)) (HPG4.out.oneCell (q := false)) (HPX.out.oneCell (q := false))) rfl (by omega) (by
             have f1 := HPR4.out.1
             have f2 := HPG4.out.1
             have f3 := HPX.out.1
             rw [List.length_map] at f1 f2 f3
             rw [List.length_map] at f2
             have f4 : (bif sg then [sigPart 0 o.sig] else []).length ≤ 1 := by cases sg <;> simp
             simp only [List.flatten_cons, List.flatten_nil, List.length_append, List.length_nil]
             omega)).mono ?_
           rintro e w5 ⟨vO, rfl, hownO, hbb5⟩
           have q0 := cell_later hbb5 m0
           have q1 := cell_later hbb5 m1
           have q2 := cell_later hbb5 m2
           have q3 := cell_later hbb5 m3
           have q4 := cell_later hbb5 m4
           have HF := Lib.hid (three_parts HOD.out (HPR4.out.weaken fun b _ h => h) (HPG4.out.weaken fun b _ h => ⟨by omega, h.2⟩) (HPX.out.weaken fun b _ h => ⟨by omega, h.2⟩) hbm hbb5 hownO hl4)
           have hbl5 : Below wa.heap.size wa w5 := hbl4.trans ((hbm.trans (hbb5.mono hbm.size)).mono hl4))
        | fail))
    go_wp2_with fail
    go_meet
    exact ⟨_, HF.out.1, HF.out.2, hbl5⟩
  case rest =>
    obtain ⟨pvO, hownO, hpaO, hbO⟩ := hcut
    have hodl : ((relPs 0 o.secs ql ++ groupPs 0 o.groups sg o.sig).map szP).length = (relPs 0 o.secs ql).length + (groupPs 0 o.groups sg o.sig).length := by rw [List.length_map, List.length_append]
    have hlk : ((relPs 0 o.secs ql ++ groupPs 0 o.groups sg o.sig).map szP).map (linkD (symNo o : Int)) = (relPs (symNo o) o.secs ql ++ groupPs (symNo o) o.groups sg o.sig).map szP := by
      rw [List.map_append, List.map_append, link_rel, link_group, ← List.map_append]
    have hsno := HSNO.out
    have hsle := HSN.out
    have HLK := Lib.hid hlk
    have hpl := hpaO.1
    clear hlk HR HG HX HOD
    generalize (relPs 0 o.secs ql ++ groupPs 0 o.groups sg o.sig).map szP = od at *
    generalize (relPs (symNo o) o.secs ql ++ groupPs (symNo o) o.groups sg o.sig).map szP = od2 at *
    generalize (relPs 0 o.secs ql).length = n1 at *
    generalize (groupPs 0 o.groups sg o.sig).length = n2 at *
    generalize wc = wb at *
    generalize hsa : symNo o = sa at *
    generalize hnn : od.length = n at *
    have hsa2 : sa = 1 + ql + n := by omega
    have HSA := Lib.hid hsa2
    have hn9 : n ≤ 122 := by omega
    have HPL := Lib.hid hpl
    have HPO := Lib.hid hpaO
    have hownS2 := owns_belowN hownS hbO
    have hownS9 := hownS
    have HPS9 := Lib.hid HPS.out
    have HPS2 := Lib.hid (HPS.out.below hbO)
    obtain ⟨pS, cS, rfl, _, _, _⟩ := slice_form hownS
    obtain ⟨pO, cO, rfl, _, _, _⟩ := slice_form hownO
    have kk1 : IntKind.i64.wrap (1 + (ql : Int)) = 1 + (ql : Int) := IntWalk.i64_in _ (by omega)
    have kk2 : IntKind.i64.wrap (1 + (ql : Int) + (n : Int)) = (sa : Int) := by rw [show 1 + (ql : Int) + (n : Int) = (sa : Int) by omega]; exact IntWalk.i64_in _ (by omega)
    have HNN := Lib.hid hnn
    clear hodl hsno hsa hsa2 hnn hpl hownS hpaO HPS HSNO
    go_wp2_with fail
    go_loopw [6, 28] (fun r6 r28 wr => ∃ (k : Nat), k ≤ n ∧ r28 = .int .i64 (k : Int) ∧ wr.ownsRow wa.heap.size 228 12 (.slice pO n cO) n (pvs false (linkK sa k pvO)) ∧ wb.grownBy wr (Value.slice pO n cO).ownBlock) (fun _ r28 _ => n - (intOf r28).toNat)
    case atStart => exact ⟨0, Nat.zero_le _, rfl, by rw [linkK_zero]; exact hownO, World.grownBy.refl _ _⟩
    case round =>
      obtain ⟨k, hk, rfl, hown, hgr⟩ := hrel
      by_cases hlt : k < n
      · have hfr := hown.2
        rcases hfr with ⟨_, h0⟩ | ⟨g, cap, cur, he, _, _, _, _, _, _⟩
        · omega
        simp only [Value.slice.injEq] at he
        obtain ⟨rfl, _, rfl⟩ := he
        have hkl : k < pvO.length := by have := HPL.out; omega
        have hcx := hown.cellAt (k * 12 + 7) (by omega)
        have hst := hown.stored (k * 12 + 7) (.int .i64 (sa : Int))
        rw [linkK_step hkl] at hst
        have hcx2 : wr.cell? ⟨g, k * 12 + 7, none⟩ = some ((pvs false (linkK sa k pvO))[k * 12 + 7]'(by rw [pvs_length, linkK_length]; omega)) := by rw [hcx]; exact List.getElem?_eq_getElem _
        generalize (pvs false (linkK sa k pvO))[k * 12 + 7]'(by rw [pvs_length, linkK_length]; omega) = u0 at hcx2
        have hf := hown.frozenAt (k * 12 + 7)
        have HST := Lib.hid hst.1
        have HGR : Hid (wb.grownBy (wr.setCell ⟨g, k * 12 + 7, none⟩ (.int .i64 (sa : Int))) (some g)) := Lib.hid (hgr.trans hst.2)
        have hJ : (k : Int) < (n : Int) := by omega
        have k2 : (0 : Int) ≤ (k : Int) := by omega
        clear hcx hst hown hgr
        go_wp2_with fail
        go_roundw
        case rel => exact ⟨k + 1, hlt, by go_num, HST.out, HGR.out⟩
        case measure => simp [intOf]; omega
      · obtain rfl : k = n := by omega
        have hlkl : linkK sa k pvO = pvO.map (linkV sa) := by rw [show k = pvO.length from HPL.out.symm, linkK_all]
        rw [hlkl] at hown
        have hlo := fun g hg => (hownO.lt g hg).1
        have hbR : Below wa.heap.size wa wr := hbO.grown hgr hbO.size hlo
        have HPO3 : Hid (PartsAt wr (fun b => wa.heap.size ≤ b ∧ some b ≠ (Value.slice pO k cO).ownBlock) (pvO.map (linkV sa)) od2) := Lib.hid (by
          have h1 := link_parts (sa : Int) (HPO.out.grown hgr (.inl rfl))
          rw [HLK.out] at h1
          exact h1)
        have hbS : Below wa.heap.size wa wr := hbR
        have hownS3 : wr.ownsRow W1.heap.size 228 12 (.slice pS ql cS) ql (pvs false pvS) := hownS2.kept hgr (own_lt hownS9 hlo)
        have HPS3 := Lib.hid (HPS9.out.below hbR)
        have y1 := cell_later hbR z1
        have hbW : Below W1.heap.size W1 wr := hbA.trans (hbR.mono hbAs)
        have hbWs := hbW.size
        have hbRs := hbR.size
        have HYY := Lib.hid (HY.out (sa : Int) ⟨by omega, by omega⟩)
        have hJ : ¬ (k : Int) < (k : Int) := by omega
        have hsy : ((symPs (sa : Int) o.syms).map szP).length = 2 := rfl
        have HSY := Lib.hid hsy
        clear hlkl hgr hbO hownO HPO hownS2 HPS2 hlo z0 z1 z2 z3 z4 hsy
        go_wp2_with fail
        refine (HYY.out _ hbW).mono ?_
        rintro e wy ⟨vY, pvY, rfl, hownY, hpaY, hbY⟩
        rw [HSY.out] at hownY
        obtain ⟨pY, cY, rfl, _, _, _⟩ := slice_form hownY
        have hownS4 := owns_belowN hownS3 hbY
        have hownO4 := owns_belowN hown hbY
        have HPS4 := Lib.hid (HPS3.out.below hbY)
        have HPO4 := Lib.hid (HPO3.out.below hbY)
        have HPY := Lib.hid hpaY
        have hsl3 : pvS.length = ql := by rw [HPS4.out.1, List.length_map]; exact HQL.out
        have hsl4 : (pvO.map (linkV sa)).length = k := by rw [List.length_map]; exact HPL.out
        have hsl5 : pvY.length = 2 := by rw [HPY.out.1]; exact HSY.out
        have hps3 := hasPs_three wy 167 (.slice pS ql cS) (.slice pO k cO) (.slice pY 2 cY) pvS (pvO.map (linkV sa)) pvY _ _ _ (by rw [hsl3]; exact hownS4) (by rw [hsl4]; exact hownO4) (by rw [hsl5]; exact hownY) (HPS4.out.oneCell (q := false)) (HPO4.out.oneCell (q := false)) (HPY.out.oneCell (q := false))
        have hflen : ([pvS, pvO.map (linkV sa), pvY].flatten).length ≤ 100000 := by
          simp only [List.flatten_cons, List.flatten_nil, List.length_append, List.length_nil]
          omega
        have HCC := Lib.hid (concatP_any (some ⟨wy.heap.size, 0, none⟩) 3 3 [pvS, pvO.map (linkV sa), pvY] _ hps3 rfl (by omega) hflen)
        have hbY2 : Below W1.heap.size W1 wy := hbW.trans (hbY.mono hbWs)
        have hbm : Below wy.heap.size wy (wy.alloc (.cells #[(.slice pS ql cS), (.slice pO k cO), (.slice pY 2 cY)] 167)) := (Below.refl _ wy).alloc (Nat.le_refl _) _
        have HBM := Lib.hid hbm
        clear hownS3 hown hownY hownS4 hownO4 HPS3 HPO3 hpaY hbY hps3 hflen hsl3 hsl4 hsl5 hbm y1 hbR hbS
        go_wp2_with fail
        refine HCC.out.mono ?_
        rintro e w5 ⟨vF, rfl, hownF, hbF⟩
        have hf := three_parts (lo := 0) (d := ownPs o) (N := W1.heap.size) (by rw [HOP.out]) HPS4.out (HPO4.out.weaken fun b _ h => ⟨by omega, h.2⟩) (HPY.out.weaken fun b _ h => ⟨by omega, h.2⟩) HBM.out hbF hownF (by have := hbY2.size; omega)
        have HF := Lib.hid hf
        have hbFin : Below w.heap.size w w5 := HB1.out.trans ((hbY2.trans ((HBM.out.trans (hbF.mono HBM.out.size)).mono hbY2.size)).mono hbs1)
        clear hownF hbF hf hbY2
        go_wp2_with fail
        go_ret
        exact ⟨vF, _, rfl, owns_lower HF.out.1 (by omega), HF.out.2, hbFin⟩
end Go.Proofs.YteopgmieindojaaGreat
