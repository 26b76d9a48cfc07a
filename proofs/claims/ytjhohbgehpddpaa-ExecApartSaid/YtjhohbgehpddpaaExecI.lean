/-
  The walk of ExecApart.
-/
import Derived.Test.YtjhohbgehpddpaaExecG
import Derived.Test.YtjhohbgehpddpaaExecH
import Derived.Test.YtjhohbgehpddpaaAppend
import Derived.Laws.BitsAllLaws
namespace Go.Proofs.Ytjhohbgehpddpaa
open Go.RowKit

theorem xcode_ne (a b : Int) (w : World) : (binOp .neq 44 (.iface 49 (.int .i64 a)) (.iface 49 (.int .i64 b))).run Try.prog w = .ok (.bool (!(a == b))) w := by
  have h := xcode_eq a b w
  simp only [binOp] at h ⊢
  revert h
  cases hq : (Op.equal 44 (.iface 49 (.int .i64 a)) (.iface 49 (.int .i64 b))).run Try.prog w <;> simp [hq] <;> intro h <;> simp_all
theorem turn_ne (x y : UInt8) (h : y ≠ 0) : x ^^^ y ≠ x := by
  intro e
  apply h
  have : x ^^^ (x ^^^ y) = x ^^^ x := by rw [e]
  simpa [← UInt8.xor_assoc] using this
theorem Has.take {w : World} {p : Option Addr} {l : List UInt8} (h : Has w p l) (c : Nat) : Has w p (l.take c) := fun i x hx => by
  rw [List.getElem?_take] at hx
  split at hx
  · exact h i x hx
  · cases hx
/-- The segments' row, where there is one. -/
theorem segs_cells {w : World} {N c m : Nat} {q : Option Addr} {svs : List SegV} (h : w.ownsRow N 48 4 (.slice q m c) m (svs.flatMap SegV.cells)) (hm : svs.length = m) {k : Nat} {x : SegV} (hx : svs[k]? = some x) :
    ∃ b, q = some ⟨b, 0, none⟩ ∧ w.cell? ⟨b, k * 4, none⟩ = some (.int .i64 (x.s.addr : Int)) ∧ w.cell? ⟨b, k * 4 + 1, none⟩ = some (.int .i64 (x.s.size : Int)) ∧ w.cell? ⟨b, k * 4 + 2, none⟩ = some (.int .i64 (x.s.flags : Int)) ∧ w.cell? ⟨b, k * 4 + 3, none⟩ = some x.d := by
  have hk := (List.getElem?_eq_some_iff.1 hx).1
  rcases h.2 with ⟨e, h0⟩ | ⟨g, cap, cur, e, _⟩
  · omega
  · cases e
    refine ⟨g, rfl, ?_, ?_, ?_, ?_⟩
    · exact row_cell (f := SegV.cells) segV_cells h hx (j := 0) rfl hm
    · exact row_cell (f := SegV.cells) segV_cells h hx (j := 1) rfl hm
    · exact row_cell (f := SegV.cells) segV_cells h hx (j := 2) rfl hm
    · exact row_cell (f := SegV.cells) segV_cells h hx (j := 3) rfl hm

set_option maxRecDepth 100000 in
set_option maxHeartbeats 4000000 in
theorem xapart_walk (p : Option Addr) (len cap : Nat) (l : List UInt8) (addr turn by_ cut : Int) (w : World) (h : Has w p l) (hlen : l.length = len) (hcap : len ≤ cap) (hm : cap ≤ maxLen) (_hp : p = none → cap = 0)
    (hby : 0 ≤ by_ ∧ by_ < 256) :
    Calls Try.prog 6 #[.slice p len cap, .int .i64 addr, .int .i64 turn, .int .u8 by_, .int .i64 cut] w fun e w' => e = .returned (.bool true) ∧ Below w.heap.size w w' := by
  have HU := Lib.hid fun W => xup_any W
  by_cases hbig : 40000 < len
  · have hI : (40000 : Int) < (len : Int) := by omega
    clear h hlen
    go_enter Try.func6, Try.ntmps6
    go_wp2_with fail
    refine (HU.out _).mono ?_
    rintro e w1 ⟨rfl, hb1⟩
    go_wp2_with fail
    go_ret
    exact ⟨rfl, hb1⟩
  have hI : ¬ (40000 : Int) < (len : Int) := by omega
  have hl40 : len ≤ 40000 := by omega
  clear hbig
  cases hL : loadO l with
  | none =>
    have HN := Lib.hid fun (W : World) (hW : Below w.heap.size w W) => xload_no hL p len cap W (h.below hW) hlen hcap hm (by omega)
    clear h hlen hL
    go_enter Try.func6, Try.ntmps6
    go_wp2_with fail
    refine (HU.out _).mono ?_
    rintro e w1 ⟨rfl, hb1⟩
    have hn := HN.out w1 hb1
    go_wp2_with fail
    refine hn.mono ?_
    rintro e w2 ⟨rfl, hb2⟩
    have hbw2 := hb1.trans (hb2.mono hb1.size)
    have hg := heap_alloc_new w2 (.cells #[z64, .slice none 0 0] 42)
    have hbw3 : Below w.heap.size w (w2.alloc (.cells #[z64, .slice none 0 0] 42)) := hbw2.alloc hbw2.size _
    clear hn hb2 hb1 HN HU
    go_upto_region 5 with fail
    generalize w2.alloc (.cells #[z64, .slice none 0 0] 42) = w3 at *
    generalize w2.heap.size = g2 at *
    obtain ⟨⟨c0, c1⟩, _⟩ := cells2 _ _ _ _ _ hg
    clear hbw2 hg
    go_wp2_with fail
    go_ret
    exact ⟨rfl, hbw3⟩
  | some pr =>
    obtain ⟨en, segs⟩ := pr
    obtain ⟨hx, ee, hgo, hsm⟩ := loadO_parts hL
    obtain ⟨hfacts, hcnt, _⟩ := loadGo_facts addr hgo
    obtain ⟨h64, hM16, hMfit⟩ := head_fit hx
    rw [← hsm] at hM16 hMfit
    have HL := Lib.hid fun (W : World) (hW : Below w.heap.size w W) => xload_yes hL p len cap W (h.below hW) hlen hcap hm (by omega)
    have HCUT := Lib.hid fun (c : Nat) (hc : c < 64 + 56 * segs.length) (W : World) (hW : Below w.heap.size w W) => xload_no (load_cut hL hc) p c c W ((h.below hW).take c) (by rw [List.length_take]; omega) (Nat.le_refl _) (by omega) (by omega)
    have HTURN := Lib.hid fun (t : Nat) (x y : UInt8) (ht : t < 16) (hx : l[t]? = some x) (hy : y ≠ x) (q : Option Addr) (cq : Nat) (W : World) (hW : Has W q (l.set t y)) (h1 : len ≤ cq) (h2 : cq ≤ maxLen) => xload_no (load_turned hL ht hx hy) q len cq W hW (by rw [List.length_set]; exact hlen) h1 h2 (by omega)
    have HFACTS := Lib.hid fun (x : SegD) (hx : x ∈ segs) => (hfacts x hx).1
    have HCNT := Lib.hid hcnt
    have HH := Lib.hid fun (W : World) (hW : Below w.heap.size w W) => h.below hW
    have HLEN := Lib.hid hlen
    rw [hlen] at hMfit h64 HFACTS
    generalize hmm : segs.length = m at *
    have HMM := Lib.hid hmm
    clear hmm hx hgo hsm hfacts hcnt hL h hlen
    go_enter Try.func6, Try.ntmps6
    go_wp2_with fail
    refine (HU.out _).mono ?_
    rintro e w1 ⟨rfl, hb1⟩
    have hl := HL.out w1 hb1
    go_wp2_with fail
    refine hl.mono ?_
    rintro e w2 ⟨q, cq, rfl, ⟨svs, hsv, ho, hok⟩, hc1, hc2, hc3, hb2⟩
    have hbw2 := hb1.trans (hb2.mono hb1.size)
    have hsl : svs.length = m := by rw [← HMM.out, ← hsv, List.length_map]
    rw [hsl] at ho
    have hg := heap_alloc_new w2 (.cells #[.int .i64 (en : Int), .slice q m cq] 42)
    have hb23 : Below w2.heap.size w2 (w2.alloc (.cells #[.int .i64 (en : Int), .slice q m cq] 42)) := (Below.refl _ w2).alloc (Nat.le_refl _) _
    have hbw3 := hbw2.trans (hb23.mono hbw2.size)
    have ho3 := owns_belowN ho hb23
    have HOK3 := Lib.hid fun (x : SegV) (hx : x ∈ svs) => owns_belowN (hok x hx) hb23
    have HSV := Lib.hid hsv
    have HSL := Lib.hid hsl
    clear hl hb2 hb1 ho hok hsv hsl HL HU hbw2 hb23
    go_upto_region 5 with fail
    generalize w2.alloc (.cells #[.int .i64 (en : Int), .slice q m cq] 42) = w3 at *
    generalize w2.heap.size = g2 at *
    obtain ⟨⟨c0, c1⟩, _⟩ := cells2 _ _ _ _ _ hg
    have HO3 := Lib.hid ho3
    clear ho3 hg
    go_wp2_with fail
    go_loopw [14, 15] (fun r14 r15 wr => ∃ k n : Nat, k ≤ m ∧ r15 = .int .i64 (k : Int) ∧ r14 = .int .i64 (n : Int) ∧ n = cntS addr (segs.take k) ∧ n ≤ k ∧ Below w3.heap.size w3 wr) (fun _ r15 _ => m - (intOf r15).toNat)
    case atStart => exact ⟨0, 0, Nat.zero_le _, rfl, rfl, rfl, Nat.le_refl _, Below.refl _ _⟩
    case round =>
      obtain ⟨k, n, hk, rfl, rfl, hn, hnk, hb⟩ := hrel
      have d1 := cell_later hb c1
      have HN := Lib.hid hn
      clear hn
      by_cases hlt : k < m
      · have hI2 : (k : Int) < (m : Int) := by omega
        have hI3 : (0 : Int) ≤ (k : Int) := by omega
        obtain ⟨x, hx⟩ : ∃ x, svs[k]? = some x := ⟨_, List.getElem?_eq_getElem (by rw [HSL.out]; exact hlt)⟩
        obtain ⟨b, rfl, x0', x1', x2', x3'⟩ := segs_cells HO3.out HSL.out hx
        have y0 := cell_later hb x0'
        have y1 := cell_later hb x1'
        have y2 := cell_later hb x2'
        have y3 := cell_later hb x3'
        have hok := HOK3.out x (List.mem_of_getElem? hx)
        have hxs : segs[k]? = some x.s := by rw [← HSV.out, List.getElem?_map, hx]; rfl
        have hfit := HFACTS.out x.s (List.mem_of_getElem? hxs)
        have htk : segs.take (k + 1) = segs.take k ++ [x.s] := by rw [List.take_add_one, hxs]; rfl
        have hcs : cntS addr (segs.take (k + 1)) = n + (bif inS addr x.s then 1 else 0) := by rw [htk, cntS_snoc, ← HN.out]
        have HCS := Lib.hid hcs
        obtain ⟨⟨A, Z, G, D⟩, d⟩ := x
        obtain ⟨pd, cd, hde, _⟩ := slice_form hok
        simp only at hde
        subst hde
        have hin : inS addr ⟨A, Z, G, D⟩ = (decide ((A : Int) ≤ addr) && decide (addr < (A : Int) + (Z : Int))) := rfl
        rw [hin] at HCS
        obtain ⟨hfl, hf2, hf3, hf4⟩ := hfit
        simp only at y0 y1 y2 y3 hfl hf2 hf3 hf4
        generalize D.length = dn at *
        have hbk : Below w3.heap.size w3 (wr.alloc (.cells #[.int .i64 (A : Int), .int .i64 (Z : Int), .int .i64 (G : Int), .slice pd dn cd] 48)) := hb.alloc hb.size _
        have hgk := heap_alloc_new wr (.cells #[.int .i64 (A : Int), .int .i64 (Z : Int), .int .i64 (G : Int), .slice pd dn cd] 48)
        clear hok hx hxs htk hcs hin x0' x1' x2' x3' hb
        go_upto_region 12 with fail
        generalize wr.alloc (.cells #[.int .i64 (A : Int), .int .i64 (Z : Int), .int .i64 (G : Int), .slice pd dn cd] 48) = wk at *
        generalize wr.heap.size = gk at *
        obtain ⟨⟨e0, e1, e2, e3⟩, _⟩ := cells4 _ _ _ _ _ _ _ hgk
        have k1 : IntKind.i64.wrap ((A : Int) + (Z : Int)) = (A : Int) + (Z : Int) := IntWalk.i64_in _ (by omega)
        have k2 : IntKind.i64.wrap ((n : Int) + 1) = (n : Int) + 1 := IntWalk.i64_in _ (by omega)
        have k3 : IntKind.i64.wrap ((k : Int) + 1) = (k : Int) + 1 := IntWalk.i64_in _ (by omega)
        have j1 : ¬ (Z : Int) < (dn : Int) := by omega
        have j2 : ¬ (A : Int) < 0 := by omega
        have j3 : ¬ (2147483648 : Int) < (A : Int) + (Z : Int) := by omega
        have j4 : ¬ (len : Int) < (dn : Int) := by omega
        clear hgk y0 y1 y2 y3 d1
        go_upto_region 12 with fail
        go_cut [94] (fun s94 wx => s94 = .bool false ∧ wk = wx)
        case first =>
          rcases hfl with rfl | rfl | rfl
          all_goals
            go_wp2_with fail
            go_meet
            exact ⟨rfl, rfl⟩
        case rest =>
          obtain ⟨rfl, rfl⟩ := hcut
          cases h1 : decide ((A : Int) ≤ addr) with
          | false =>
            rw [h1] at HCS
            have h2 : ¬ (A : Int) ≤ addr := by simpa using h1
            clear h1
            go_wp2_with fail
            go_roundw
            case rel => exact ⟨k + 1, n, hlt, by go_num, rfl, HCS.out.symm, by omega, hbk⟩
            case measure => simp [intOf]; omega
          | true =>
            rw [h1] at HCS
            have h2 : (A : Int) ≤ addr := by simpa using h1
            clear h1
            cases h3 : decide (addr < (A : Int) + (Z : Int)) with
            | false =>
              rw [h3] at HCS
              have h4 : ¬ addr < (A : Int) + (Z : Int) := by simpa using h3
              clear h3
              go_wp2_with fail
              go_roundw
              case rel => exact ⟨k + 1, n, hlt, by go_num, rfl, HCS.out.symm, by omega, hbk⟩
              case measure => simp [intOf]; omega
            | true =>
              rw [h3] at HCS
              have h4 : addr < (A : Int) + (Z : Int) := by simpa using h3
              clear h3
              go_wp2_with fail
              go_roundw
              case rel => exact ⟨k + 1, n + 1, hlt, by go_num, by go_num, HCS.out.symm, by omega, hbk⟩
              case measure => simp [intOf]; omega
      · obtain rfl : k = m := by omega
        have hI2 : ¬ (k : Int) < (k : Int) := by omega
        have hn1 : n ≤ 1 := by
          have h1 := HN.out
          rw [List.take_of_length_le (by rw [HMM.out]; exact Nat.le_refl _)] at h1
          have := HCNT.out
          omega
        have i1 : ¬ (1 : Int) < (n : Int) := by omega
        have k1 : IntKind.i64.wrap (56 * (k : Int)) = 56 * (k : Int) := IntWalk.i64_in _ (by omega)
        have k2 : IntKind.i64.wrap (64 + 56 * (k : Int)) = 64 + 56 * (k : Int) := IntWalk.i64_in _ (by omega)
        have i2 : ¬ (len : Int) < 64 + 56 * (k : Int) := by omega
        have hbwr := hbw3.trans (hb.mono hbw3.size)
        clear c0 c1 hb hbw3 HN HCNT HFACTS HOK3 HO3 HSV HSL hnk
        go_upto_region 18 with fail
        obtain ⟨cb, hcb⟩ : ∃ cb, cb = (decide (0 ≤ cut) && decide (cut < 64 + 56 * (k : Int))) := ⟨_, rfl⟩
        have HCB := Lib.hid hcb
        clear hcb
        go_cut [132] (fun s132 wx => s132 = .bool cb ∧ wr = wx)
        case first =>
          cases h1 : decide (0 ≤ cut) with
          | false =>
            have hE : cb = false := by rw [HCB.out, h1]; rfl
            have h2 : ¬ 0 ≤ cut := by simpa using h1
            clear h1
            go_wp2_with fail
            go_meet
            exact ⟨by rw [hE], rfl⟩
          | true =>
            cases h3 : decide (cut < 64 + 56 * (k : Int)) with
            | false =>
              have hE : cb = false := by rw [HCB.out, h1, h3]; rfl
              have h2 : 0 ≤ cut := by simpa using h1
              have h4 : ¬ cut < 64 + 56 * (k : Int) := by simpa using h3
              clear h1 h3
              go_wp2_with fail
              go_meet
              exact ⟨by rw [hE], rfl⟩
            | true =>
              have hE : cb = true := by rw [HCB.out, h1, h3]; rfl
              have h2 : 0 ≤ cut := by simpa using h1
              have h4 : cut < 64 + 56 * (k : Int) := by simpa using h3
              clear h1 h3
              go_wp2_with fail
              go_meet
              exact ⟨by rw [hE], rfl⟩
        case rest =>
          obtain ⟨rfl, rfl⟩ := hcut
          go_upto_if 132 with fail
          go_cut [] (fun wx => Below w.heap.size w wx)
          case first =>
            cases cb with
            | false =>
              go_wp2_with fail
              go_meet
              exact hbwr
            | true =>
              have hcc : 0 ≤ cut ∧ cut < 64 + 56 * (k : Int) := by
                have h := HCB.out
                simp only [Bool.true_eq, Bool.and_eq_true, decide_eq_true_eq] at h
                exact h
              obtain ⟨c, rfl⟩ := Int.eq_ofNat_of_zero_le hcc.1
              have hck : c < 64 + 56 * k := by omega
              have hcl := HCUT.out c hck wr hbwr
              have f1 : (0 : Int) ≤ (c : Int) := by omega
              have f2 : (c : Int) ≤ (cap : Int) := by omega
              have f3 : c ≤ cap := by omega
              clear HCUT HTURN hcc HCB
              go_wp2_with fail
              refine hcl.mono ?_
              rintro e w4 ⟨rfl, hb4⟩
              have hbw4 := hbwr.trans (hb4.mono hbwr.size)
              have hbw5 : Below w.heap.size w (w4.alloc (.cells #[z64, .slice none 0 0] 42)) := hbw4.alloc hbw4.size _
              clear hcl hb4 hbw4 hbwr
              go_upto_region 20 with fail
              generalize w4.alloc (.cells #[z64, .slice none 0 0] 42) = w5 at *
              have hq := xcode_ne 2 2 w5
              go_wp2_with fail
              go_meet
              exact hbw5
          case rest =>
            have hbc := hcut
            clear hcut hbwr HCUT HCB
            by_cases t1 : turn < 0
            · go_wp2_with fail
              go_ret
              exact ⟨rfl, hbc⟩
            by_cases t2 : 15 < turn
            · go_wp2_with fail
              go_ret
              exact ⟨rfl, hbc⟩
            by_cases t3 : by_ = 0
            · subst t3
              go_wp2_with fail
              go_ret
              exact ⟨rfl, hbc⟩
            obtain ⟨j, rfl⟩ := Int.eq_ofNat_of_zero_le (show 0 ≤ turn by omega)
            obtain ⟨y, hy⟩ : ∃ y : UInt8, by_ = (y.toNat : Int) := ⟨UInt8.ofNat by_.toNat, by simp; omega⟩
            subst hy
            have t3' : ((y.toNat : Int) == 0) = false := by simpa using t3
            obtain ⟨xx, hxx⟩ : ∃ xx, l[j]? = some xx := ⟨_, List.getElem?_eq_getElem (by rw [HLEN.out]; omega)⟩
            obtain ⟨z, hz⟩ : ∃ z, z = xx ^^^ y := ⟨_, rfl⟩
            have hzx : z ≠ xx := by
              rw [hz]
              exact turn_ne xx y fun e => t3 (by rw [e]; rfl)
            have hxor : bits .xor .u8 (xx.toNat : Int) (y.toNat : Int) = (z.toNat : Int) := by
              rw [u8_xor_nat _ _ xx.toNat_lt y.toNat_lt, hz, UInt8.toNat_xor]
            have HT := Lib.hid (HTURN.out j xx z (by omega) hxx hzx)
            have j0 : (0 : Int) ≤ (j : Int) := by omega
            have j1 : (j : Int) < (len : Int) := by omega
            have j2 : j < len := by omega
            obtain ⟨i0, hi, hz0, hz1, hz2⟩ := info_parts Try.infoU8
            have HI := Lib.hid hi
            have H0 := Lib.hid hz0
            have H1 := Lib.hid hz1
            have H2 := Lib.hid hz2
            have hown0 : (wc.alloc (.cells #[] 5)).ownsRow wc.heap.size 5 1 (.slice (some ⟨wc.heap.size, 0, none⟩) 0 0) 0 [] := World.ownsRow_lit wc #[] 0 (Nat.le_refl _) (Nat.zero_le _) rfl
            have hb0 : Below wc.heap.size wc (wc.alloc (.cells #[] 5)) := (Below.refl _ wc).alloc (Nat.le_refl _) _
            have hHc := HH.out _ (hbc.trans (hb0.mono hbc.size))
            obtain ⟨pb, po, rfl, _⟩ := hHc.plain (by rw [HLEN.out]; omega)
            have HHC := Lib.hid hHc
            have HXX := Lib.hid hxx
            have HML : Hid (cap ≤ maxLen) := Lib.hid hm
            clear hz hxx hzx HTURN t3 hi hz0 hz1 hz2 hHc
            go_wp2_with (at_builtin; refine wpList_append_own _ rfl _ _ 22 rfl wc.heap.size 5 i0 (.int .u8 0) 1 1 Try.underlying22 HI.out H0.out H1.out H2.out rfl (by decide) _ 0 _ rfl hown0 ⟨pb, po, none⟩ len cap (l.map u8v) rfl (by rw [List.length_map, HLEN.out, Nat.mul_one]) HHC.out.cells (map_oneCell _) (by unfold maxLen; omega) (by omega) (by simp) ?_)
            intro v6 w6 hown6 hgrow6 _
            obtain ⟨g6, cp6, cur6, rfl, hg6a, hg6b, _⟩ := owns_form hown6 (by omega)
            have hcp6 : len ≤ cp6 ∧ cp6 ≤ maxLen := by
              obtain ⟨p', c', e', h1', h2', _⟩ := Has.of_owns hown6
              cases e'
              exact ⟨h1', h2'⟩
            have hb6 : Below w.heap.size w w6 := hbc.trans ((hb0.grown hgrow6 (by simp) (fun g hg => by cases hg; exact Nat.le_refl _)).mono hbc.size)
            have q0 : w6.cell? ⟨g6, j, none⟩ = some (.int .u8 (xx.toNat : Int)) := by
              rw [hown6.cellAt j (by omega), List.getElem?_map, HXX.out]
              rfl
            have q1 := hown6.frozenAt j
            have hst := (hown6.stored j (u8v z)).1
            rw [← List.map_set] at hst
            have hHs : Has (w6.setCell ⟨g6, j, none⟩ (.int .u8 (z.toNat : Int))) (some ⟨g6, 0, none⟩) (l.set j z) := by
              obtain ⟨p', c', e', _, _, _, h4'⟩ := Has.of_owns hst
              cases e'
              exact h4'
            have hb7 : Below w.heap.size w (w6.setCell ⟨g6, j, none⟩ (.int .u8 (z.toNat : Int))) := hb6.setCell (show w.heap.size ≤ g6 by have := hbc.size; omega) _
            have hload := HT.out (some ⟨g6, 0, none⟩) cp6 _ hHs hcp6.1 hcp6.2
            have HLD := Lib.hid hload
            have HB7 := Lib.hid hb7
            clear hst hHs hown6 hgrow6 hb6 hb7 hload hb0 hown0 hbc HT
            go_wp2_with fail
            refine HLD.out.mono ?_
            rintro e w8 ⟨rfl, hb8⟩
            have hb8w := HB7.out.trans (hb8.mono HB7.out.size)
            have hb9 : Below w.heap.size w (w8.alloc (.cells #[z64, .slice none 0 0] 42)) := hb8w.alloc hb8w.size _
            clear hb8 hb8w HLD HB7 q0 q1
            go_upto_region 27 with fail
            generalize w8.alloc (.cells #[z64, .slice none 0 0] 42) = w9 at *
            have hq := xcode_eq 2 2 w9
            go_wp2_with fail
            go_ret
            exact ⟨rfl, hb9⟩
end Go.Proofs.Ytjhohbgehpddpaa
