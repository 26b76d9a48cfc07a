/-
  The walk of PieceTells: piece and its reference tell the same.
-/
import Derived.Test.YtmcegjkkgbnjlaaPieceSpec
import Derived.Test.YtmcegjkkgbnjlaaPieceAlone
namespace Go.Proofs.Ytmcegjkkgbnjlaa
open Go.RowKit

theorem pieces_bd {s : SecD} (h : SecFacts s) : ∀ p ∈ piecesOf s, p.bd := fun p hp => by
  have h1 := (pieces_facts h).2.2.1 p hp
  have h2 := h.1
  unfold PcD.bd
  omega
theorem isL_get {α : Type} {k : Nat} {E : World → Nat → Nat → α → Prop} {w : World} {v : Value} {l : List α} (h : IsL k E w v l) : ∃ pp c, v = .slice pp l.length c ∧ l.length ≤ c ∧ c ≤ maxLen ∧ (pp = none → c = 0) ∧ HasL k E w pp l := h

set_option maxRecDepth 100000 in
set_option maxHeartbeats 4000000 in
theorem ptells_walk (hsplit : PSplitOK) (hfind : PFindOK) (s : SecD) (v : Value) (at_ : Int) (w : World) (h : IsSec w v s) (ha0 : -9223372036854775808 ≤ at_) (ha1 : at_ ≤ 9223372036854775807) :
    Calls Try.prog 12 #[v, .int .i64 at_] w fun e w' => e = .returned (.bool true) ∧ Below w.heap.size w w' := by
  obtain ⟨vd, vr, rfl, ⟨hn, hbd⟩, hd, hr⟩ := h
  obtain ⟨dp, dc, rfl, hd1, hd2, hd3, hdh⟩ := hd
  obtain ⟨rp, rc, rfl, hr1, hr2, hr3, hrh⟩ := hr
  have HUP := Lib.hid fun W => pup_any hsplit hfind W
  have hb1 : Below w.heap.size w (w.alloc (.cells #[.string s.name, .int .i64 s.type, .int .i64 s.flags, .int .i64 s.align, .int .i64 s.ent, .int .i64 s.link, .int .i64 s.size, .slice dp s.data.length dc, .slice rp s.rels.length rc] 104)) := (Below.refl _ w).alloc (Nat.le_refl _) _
  have hcell : ∀ i v, (#[.string s.name, .int .i64 s.type, .int .i64 s.flags, .int .i64 s.align, .int .i64 s.ent, .int .i64 s.link, .int .i64 s.size, .slice dp s.data.length dc, .slice rp s.rels.length rc] : Array Value)[i]? = some v → (w.alloc (.cells #[.string s.name, .int .i64 s.type, .int .i64 s.flags, .int .i64 s.align, .int .i64 s.ent, .int .i64 s.link, .int .i64 s.size, .slice dp s.data.length dc, .slice rp s.rels.length rc] 104)).cell? ⟨w.heap.size, i, none⟩ = some v := fun i v hv =>
    (cell_of_row _ w.heap.size i _ 104 (0, 0) (heap_alloc_new w _)).trans hv
  have a0 := hcell 0 _ rfl
  have a1 := hcell 1 _ rfl
  have a2 := hcell 2 _ rfl
  have a3 := hcell 3 _ rfl
  have a4 := hcell 4 _ rfl
  have a5 := hcell 5 _ rfl
  have a6 := hcell 6 _ rfl
  have a7 := hcell 7 _ rfl
  have a8 := hcell 8 _ rfl
  have hsb : SecBd s := ⟨hbd _ (by simp), hbd _ (by simp), hbd _ (by simp)⟩
  have HAL := Lib.hid fun W (hb : Below w.heap.size w W) => alone_any s dp rp dc rc W ⟨dp, dc, rfl, hd1, hd2, hd3, hdh.below EByte.keeps hb⟩ ⟨rp, rc, rfl, hr1, hr2, hr3, hrh.below ERel.keeps hb⟩ hn hbd
  have HSP := Lib.hid fun W (hb : Below w.heap.size w W) (hf : SecFacts s) (h4 : s.data.length ≤ 4000) => hsplit s dp dc (.slice rp s.rels.length rc) W (hdh.below EByte.keeps hb) hd1 hd2 hd3 hsb hf h4
  have HRS := Lib.hid fun W (hb : Below w.heap.size w W) (h4 : s.data.length ≤ 4000) => refSplit_any s dp dc (.slice rp s.rels.length rc) W (hdh.below EByte.keeps hb) hsb (by omega)
  have HFI := Lib.hid hfind
  clear hcell hsplit hfind hdh hrh hsb hbd hd1 hd2 hd3 hr1 hr2 hr3 hn
  go_enter Try.func12, Try.ntmps12
  go_upto_region 1 with fail
  generalize hgb : w.heap.size = gb at *
  generalize w.alloc (.cells #[.string s.name, .int .i64 s.type, .int .i64 s.flags, .int .i64 s.align, .int .i64 s.ent, .int .i64 s.link, .int .i64 s.size, .slice dp s.data.length dc, .slice rp s.rels.length rc] 104) = W1 at *
  have hgW : gb ≤ W1.heap.size := by rw [← hgb]; exact hb1.size
  go_wp2_with fail
  refine (HUP.out _).mono ?_
  rintro e w2 ⟨rfl, hx2⟩
  have hb2 := hb1.trans (hx2.mono hgW)
  have x0 := cell_later hx2 a0
  have x1 := cell_later hx2 a1
  have x2 := cell_later hx2 a2
  have x3 := cell_later hx2 a3
  have x4 := cell_later hx2 a4
  have x5 := cell_later hx2 a5
  have x6 := cell_later hx2 a6
  have x7 := cell_later hx2 a7
  have x8 := cell_later hx2 a8
  clear a0 a1 a2 a3 a4 a5 a6 a7 a8 hx2 hb1 HUP
  have hg2 : gb ≤ w2.heap.size := by rw [← hgb]; exact hb2.size
  go_wp2_with fail
  refine (HAL.out _ hb2).mono ?_
  rintro e w3 ⟨r, rfl, hx3, hr⟩
  have hb3 := hb2.trans (hx3.mono hg2)
  have hg3 : gb ≤ w3.heap.size := by rw [← hgb]; exact hb3.size
  have y0 := cell_later hx3 x0
  have y1 := cell_later hx3 x1
  have y2 := cell_later hx3 x2
  have y3 := cell_later hx3 x3
  have y4 := cell_later hx3 x4
  have y5 := cell_later hx3 x5
  have y6 := cell_later hx3 x6
  have y7 := cell_later hx3 x7
  have y8 := cell_later hx3 x8
  clear x0 x1 x2 x3 x4 x5 x6 x7 x8 hx3 hb2 hg2 HAL
  rcases hr with rfl | ⟨rfl, hf, h4⟩
  · go_wp2_with fail
    go_ret
    subst hgb
    exact ⟨rfl, hb3⟩
  obtain ⟨i1, i2, i3, _⟩ := pieces_facts hf
  have i4 := pieces_some (s := s)
  have i5 := pieces_bd hf
  have i6 := hf.1
  have HS1 := Lib.hid fun W hb => HSP.out W hb hf h4
  have HS2 := Lib.hid fun W hb => HRS.out W hb h4
  clear HSP HRS hf h4
  generalize piecesOf s = l at *
  go_wp2_with fail
  refine (HS1.out _ hb3).mono ?_
  rintro e w4 ⟨v4, rfl, hv4, hx4⟩
  have hb4 := hb3.trans (hx4.mono hg3)
  have hg4 : gb ≤ w4.heap.size := by rw [← hgb]; exact hb4.size
  have z0 := cell_later hx4 y0
  have z1 := cell_later hx4 y1
  have z2 := cell_later hx4 y2
  have z3 := cell_later hx4 y3
  have z4 := cell_later hx4 y4
  have z5 := cell_later hx4 y5
  have z6 := cell_later hx4 y6
  have z7 := cell_later hx4 y7
  have z8 := cell_later hx4 y8
  clear y0 y1 y2 y3 y4 y5 y6 y7 y8 hx4 hb3 hg3 HS1
  go_wp2_with fail
  refine (HS2.out _ hb4).mono ?_
  rintro e w5 ⟨v5, rfl, hown5, hx5⟩
  have hb5 := hb4.trans (hx5.mono hg4)
  have hg5 : gb ≤ w5.heap.size := by rw [← hgb]; exact hb5.size
  have hv5 := isL_pc hown5 i5
  have hv4' := hv4.below EPc.keeps hx5
  obtain ⟨p1, c1, rfl, j1, j2, j3, hh1⟩ := isL_get hv4'
  obtain ⟨p2, c2, rfl, k1, k2, k3, hh2⟩ := isL_get hv5
  clear z0 z1 z2 z3 z4 z5 z6 z7 z8 hx5 hb4 hg4 HS2 hown5 hv5 hv4 hv4'
  have HI1 := Lib.hid fun W (hb : Below w5.heap.size w5 W) => HFI.out p1 c1 l s.size at_ W (hh1.below EPc.keeps hb) j1 j2 j3 i2 i1 i6.2 i3 i4 ha0 ha1
  have HI2 := Lib.hid fun W (hb : Below w5.heap.size w5 W) => refIn_any p2 c2 l.length l at_ W (hh2.below EPc.keeps hb) rfl (by omega) (fun p hp => by have := i3 p hp; omega)
  have HH1 := Lib.hid hh1
  have HH2 := Lib.hid hh2
  clear HFI i1 i3 i4 i5 hh1 hh2
  generalize hln : l.length = n at *
  have HLN := Lib.hid hln
  have hnn : ((n : Int) != (n : Int)) = false := by simp
  clear hln
  go_wp2_with fail
  go_loopw [8] (fun r8 wr => ∃ i : Nat, i ≤ n ∧ r8 = .int .i64 (i : Int) ∧ Below w5.heap.size w5 wr) (fun r8 _ => n - (intOf r8).toNat)
  case atStart => exact ⟨0, Nat.zero_le _, rfl, Below.refl _ _⟩
  case round =>
    obtain ⟨i, hi, rfl, hb⟩ := hrel
    by_cases hlt : i < n
    · obtain ⟨b, off, p, rfl, hpi, ⟨⟨d0, _⟩, ⟨d1, _⟩⟩⟩ := HH1.out.at_ (i := i) (by rw [HLN.out]; exact hlt)
      obtain ⟨b', off', p', rfl, hpi', ⟨⟨e0, _⟩, ⟨e1, _⟩⟩⟩ := HH2.out.at_ (i := i) (by rw [HLN.out]; exact hlt)
      obtain rfl : p' = p := by rw [hpi] at hpi'; cases hpi'; rfl
      have f0 := cell_later hb d0
      have f1 := cell_later hb d1
      have g0 := cell_later hb e0
      have g1 := cell_later hb e1
      have hJ : (i : Int) < (n : Int) := by omega
      have hJ0 : (0 : Int) ≤ (i : Int) := by omega
      have q0 : (p'.at_ != p'.at_) = false := by simp
      have q1 : (p'.size != p'.size) = false := by simp
      clear d0 d1 e0 e1 hpi hpi'
      go_upto_region 11 with fail
      go_cut [52] (fun s52 wx => s52 = .bool false ∧ Below w5.heap.size w5 wx)
      case first =>
        go_quiet (fail)
        go_wp2_with fail
        go_meet
        exact ⟨rfl, below_drewN hb _⟩
      case rest =>
        obtain ⟨rfl, hb2⟩ := hcut
        go_wp2_with fail
        go_roundw
        case rel => exact ⟨i + 1, hlt, by go_num, hb2⟩
        case measure => simp [intOf]; omega
    · have hJ : ¬ (i : Int) < (n : Int) := by omega
      have hinq : ∀ x : Int, (x == x) = true := fun x => by simp
      generalize inP l at_ = z at *
      have hz := hinq z
      clear hinq
      go_wp2_with fail
      refine (HI1.out _ hb).mono ?_
      rintro e w6 ⟨rfl, hx6⟩
      have hb6 := hb.trans (hx6.mono hb.size)
      clear hx6
      go_wp2_with fail
      refine (HI2.out _ hb6).mono ?_
      rintro e w7 ⟨rfl, hx7⟩
      have hb7 := hb6.trans (hx7.mono hb6.size)
      clear hx7
      go_wp2_with fail
      go_ret
      subst hgb
      exact ⟨rfl, hb5.trans (hb7.mono hg5)⟩

end Go.Proofs.Ytmcegjkkgbnjlaa
