/-
  The walk of PieceAll: pieces stand one behind the other and have all of the section.
-/
import Derived.Test.YtmcegjkkgbnjlaaPTells
namespace Go.Proofs.Ytmcegjkkgbnjlaa
open Go.RowKit

theorem u8_zero (x : UInt8) : ((x.toNat : Int) == 0) = (x == 0) := by
  by_cases h : x = 0
  · subst h; rfl
  · have h2 : ¬ x.toNat = 0 := fun e => h (UInt8.toNat_inj.1 (by simpa using e))
    have e1 : (x == 0) = false := by simpa using h
    have e2 : ((x.toNat : Int) == 0) = false := by simp; omega
    rw [e1, e2]

set_option maxRecDepth 100000 in
set_option maxHeartbeats 4000000 in
theorem pall_walk (hsplit : PSplitOK) (hfind : PFindOK) (s : SecD) (v : Value) (at_ : Int) (w : World) (h : IsSec w v s) (ha0 : -9223372036854775808 ≤ at_) (ha1 : at_ ≤ 9223372036854775807) :
    Calls Try.prog 13 #[v, .int .i64 at_] w fun e w' => e = .returned (.bool true) ∧ Below w.heap.size w w' := by
  obtain ⟨vd, vr, rfl, ⟨hn, hbd⟩, hd, hr⟩ := h
  obtain ⟨dp, dc, rfl, hd1, hd2, hd3, hdh⟩ := hd
  obtain ⟨rp, rc, rfl, hr1, hr2, hr3, hrh⟩ := hr
  have HUP := Lib.hid fun W => pup_any hsplit hfind W
  have hb1 : Below w.heap.size w (w.alloc (.cells #[.string s.name, .int .i64 s.type, .int .i64 s.flags, .int .i64 s.align, .int .i64 s.ent, .int .i64 s.link, .int .i64 s.size, .slice dp s.data.length dc, .slice rp s.rels.length rc] 104)) := (Below.refl _ w).alloc (Nat.le_refl _) _
  have hcell : ∀ i v, (#[.string s.name, .int .i64 s.type, .int .i64 s.flags, .int .i64 s.align, .int .i64 s.ent, .int .i64 s.link, .int .i64 s.size, .slice dp s.data.length dc, .slice rp s.rels.length rc] : Array Value)[i]? = some v → (w.alloc (.cells #[.string s.name, .int .i64 s.type, .int .i64 s.flags, .int .i64 s.align, .int .i64 s.ent, .int .i64 s.link, .int .i64 s.size, .slice dp s.data.length dc, .slice rp s.rels.length rc] 104)).cell? ⟨w.heap.size, i, none⟩ = some v := fun i v hv =>
    (cell_of_row _ w.heap.size i _ 104 (0, 0) (heap_alloc_new w _)).trans hv
  have a0 := hcell 0 _ rfl
  have a1 := hcell 1 _ rfl
  have a2 := hcell 2 _ rfl
  have a3 := hcell 3 _ rfl
  have a4 := hcell 4 _ rfl
  have a5 := hcell 5 _ rfl
  have a6 := hcell 6 _ rfl
  have a7 := hcell 7 _ rfl
  have a8 := hcell 8 _ rfl
  have hsb : SecBd s := ⟨hbd _ (by simp), hbd _ (by simp), hbd _ (by simp)⟩
  have HAL := Lib.hid fun W (hb : Below w.heap.size w W) => alone_any s dp rp dc rc W ⟨dp, dc, rfl, hd1, hd2, hd3, hdh.below EByte.keeps hb⟩ ⟨rp, rc, rfl, hr1, hr2, hr3, hrh.below ERel.keeps hb⟩ hn hbd
  have HSP := Lib.hid fun W (hb : Below w.heap.size w W) (hf : SecFacts s) (h4 : s.data.length ≤ 4000) => hsplit s dp dc (.slice rp s.rels.length rc) W (hdh.below EByte.keeps hb) hd1 hd2 hd3 hsb hf h4
  have HHS := Lib.hid fun W => has_any s.name s.type s.flags s.align s.ent s.link s.size (.slice dp s.data.length dc) (.slice rp s.rels.length rc) 32 W (by omega) (by omega) hsb.1
  have HDH := Lib.hid fun W (hb : Below w.heap.size w W) => hdh.below EByte.keeps hb
  have HFI := Lib.hid hfind
  clear hcell hsplit hfind hdh hrh hsb hbd hd1 hd2 hd3 hr1 hr2 hr3 hn
  go_enter Try.func13, Try.ntmps13
  go_upto_region 1 with fail
  generalize hgb : w.heap.size = gb at *
  generalize w.alloc (.cells #[.string s.name, .int .i64 s.type, .int .i64 s.flags, .int .i64 s.align, .int .i64 s.ent, .int .i64 s.link, .int .i64 s.size, .slice dp s.data.length dc, .slice rp s.rels.length rc] 104) = W1 at *
  have hgW : gb ≤ W1.heap.size := by rw [← hgb]; exact hb1.size
  go_wp2_with fail
  refine (HUP.out _).mono ?_
  rintro e w2 ⟨rfl, hx2⟩
  have hb2 := hb1.trans (hx2.mono hgW)
  have x0 := cell_later hx2 a0
  have x1 := cell_later hx2 a1
  have x2 := cell_later hx2 a2
  have x3 := cell_later hx2 a3
  have x4 := cell_later hx2 a4
  have x5 := cell_later hx2 a5
  have x6 := cell_later hx2 a6
  have x7 := cell_later hx2 a7
  have x8 := cell_later hx2 a8
  clear a0 a1 a2 a3 a4 a5 a6 a7 a8 hx2 hb1 HUP
  have hg2 : gb ≤ w2.heap.size := by rw [← hgb]; exact hb2.size
  go_wp2_with fail
  refine (HAL.out _ hb2).mono ?_
  rintro e w3 ⟨r, rfl, hx3, hr⟩
  have hb3 := hb2.trans (hx3.mono hg2)
  have hg3 : gb ≤ w3.heap.size := by rw [← hgb]; exact hb3.size
  have y0 := cell_later hx3 x0
  have y1 := cell_later hx3 x1
  have y2 := cell_later hx3 x2
  have y3 := cell_later hx3 x3
  have y4 := cell_later hx3 x4
  have y5 := cell_later hx3 x5
  have y6 := cell_later hx3 x6
  have y7 := cell_later hx3 x7
  have y8 := cell_later hx3 x8
  clear x0 x1 x2 x3 x4 x5 x6 x7 x8 hx3 hb2 hg2 HAL
  rcases hr with rfl | ⟨rfl, hf, h4⟩
  · go_wp2_with fail
    go_ret
    subst hgb
    exact ⟨rfl, hb3⟩
  obtain ⟨i1, i2, i3, i7⟩ := pieces_facts hf
  have i4 := pieces_some (s := s)
  have i6 := hf.1
  have hin0 : at_ < 0 ∨ s.size < at_ ∨ (piecesOf s).length = 0 → inP (piecesOf s) at_ = -1 := inP_out i3
  have hin1 : 0 ≤ at_ → at_ ≤ s.size → 0 < (piecesOf s).length → _ := inP_in i1
  have HS1 := Lib.hid fun W hb => HSP.out W hb hf h4
  have hdl : s.data.length ≤ 4000 := h4
  clear HSP hf h4
  generalize piecesOf s = l at *
  generalize hasF s.flags 32 = q32 at *
  have hch : ∀ (i : Nat) (p : PcD), l[i]? = some p → p.at_ = endOf (l.take i) ∧ endOf (l.take (i + 1)) = endOf (l.take i) + p.size := fun i p hp => ⟨(i1.2 i p hp).1, endOf_take hp⟩
  have hend : endOf (l.take l.length) = s.size := by rw [List.take_length]; exact i1.1
  have HCH := Lib.hid hch
  have HI7 := Lib.hid i7
  have HI3 := Lib.hid i3
  have HIN0 := Lib.hid hin0
  have HIN1 := Lib.hid hin1
  clear hch i7 hin0 hin1
  go_wp2_with fail
  refine (HS1.out _ hb3).mono ?_
  rintro e w4 ⟨v4, rfl, hv4, hx4⟩
  have hb4 := hb3.trans (hx4.mono hg3)
  have hg4 : gb ≤ w4.heap.size := by rw [← hgb]; exact hb4.size
  have z0 := cell_later hx4 y0
  have z1 := cell_later hx4 y1
  have z2 := cell_later hx4 y2
  have z3 := cell_later hx4 y3
  have z4 := cell_later hx4 y4
  have z5 := cell_later hx4 y5
  have z6 := cell_later hx4 y6
  have z7 := cell_later hx4 y7
  have z8 := cell_later hx4 y8
  clear y0 y1 y2 y3 y4 y5 y6 y7 y8 hx4 hb3 hg3 HS1
  obtain ⟨p1, c1, rfl, j1, j2, j3, hh1⟩ := isL_get hv4
  have HI1 := Lib.hid fun W (hb : Below w4.heap.size w4 W) => HFI.out p1 c1 l s.size at_ W (hh1.below EPc.keeps hb) j1 j2 j3 i2 i1 i6.2 i3 i4 ha0 ha1
  have HH1 := Lib.hid hh1
  have HDW := Lib.hid (HDH.out _ hb4)
  clear HFI i1 i3 i4 hh1 hv4 HDH
  generalize hln : l.length = n at *
  have HLN := Lib.hid hln
  have HEND := Lib.hid hend
  generalize hdln : s.data.length = dl at *
  have HDL := Lib.hid hdln
  clear hln hend hdln
  go_wp2_with fail
  go_loopw [7, 8] (fun r7 r8 wr => ∃ i : Nat, i ≤ n ∧ r8 = .int .i64 (i : Int) ∧ r7 = .int .i64 (endOf (l.take i)) ∧ Below w4.heap.size w4 wr) (fun _ r8 _ => n - (intOf r8).toNat)
  case atStart => exact ⟨0, Nat.zero_le _, rfl, rfl, Below.refl _ _⟩
  case round =>
    obtain ⟨i, hi, rfl, rfl, hb⟩ := hrel
    have u0 := cell_later hb z0
    have u1 := cell_later hb z1
    have u2 := cell_later hb z2
    have u3 := cell_later hb z3
    have u4 := cell_later hb z4
    have u5 := cell_later hb z5
    have u6 := cell_later hb z6
    have u7 := cell_later hb z7
    have u8 := cell_later hb z8
    by_cases hlt : i < n
    · obtain ⟨b, off, p, rfl, hpi, ⟨⟨d0, _⟩, ⟨d1, _⟩⟩⟩ := HH1.out.at_ (i := i) (by rw [HLN.out]; exact hlt)
      have f0 := cell_later hb d0
      have f1 := cell_later hb d1
      have hJ : (i : Int) < (n : Int) := by omega
      have hJ0 : (0 : Int) ≤ (i : Int) := by omega
      obtain ⟨hc1, hc2⟩ := HCH.out i p hpi
      have hp3 := HI3.out p (List.mem_of_getElem? hpi)
      have HP7 : Hid (q32 = true → p.at_ + p.size ≤ (dl : Int) ∧ ∀ (j : Nat) x, p.at_ ≤ (j : Int) → (j : Int) < p.at_ + p.size → s.data[j]? = some x → (x == 0) = ((j : Int) == p.at_ + p.size - 1)) := Lib.hid fun h => HI7.out h p (List.mem_of_getElem? hpi)
      have HC2 := Lib.hid hc2
      generalize endOf (l.take i) = E at *
      subst hc1
      obtain ⟨A, hA⟩ : ∃ A, A = p.at_ := ⟨_, rfl⟩
      obtain ⟨Z, hZ⟩ : ∃ Z, Z = p.size := ⟨_, rfl⟩
      rw [← hA] at f0 hp3 HP7 HC2 ⊢
      rw [← hZ] at f1 hp3 HP7 HC2
      rw [← hA] at d0
      rw [← hZ] at d1
      clear hA hZ hpi hc2
      have q0 : (A != A) = false := by simp
      have q1 : decide (Z < 0) = false := decide_eq_false (by omega)
      have kw : IntKind.i64.wrap (s.size - A) = s.size - A := IntWalk.i64_in _ (by omega)
      have q2 : decide (s.size - A < Z) = false := decide_eq_false (by omega)
      have kw2 : IntKind.i64.wrap (A + Z) = A + Z := IntWalk.i64_in _ (by omega)
      go_upto_region 9 with fail
      go_cut [51] (fun s51 wx => s51 = .bool false ∧ Below w4.heap.size w4 wx)
      case first =>
        go_quiet (fail)
        go_wp2_with fail
        go_meet
        exact ⟨rfl, below_drewN hb _⟩
      case rest =>
        obtain ⟨rfl, hb2⟩ := hcut
        clear u0 u1 u2 u3 u4 u5 u6 u7 u8 f0 f1 hb
        have t0 := cell_later hb2 z0
        have t1 := cell_later hb2 z1
        have t2 := cell_later hb2 z2
        have t3 := cell_later hb2 z3
        have t4 := cell_later hb2 z4
        have t5 := cell_later hb2 z5
        have t6 := cell_later hb2 z6
        have t7 := cell_later hb2 z7
        have t8 := cell_later hb2 z8
        have f0 := cell_later hb2 d0
        have f1 := cell_later hb2 d1
        go_wp2_with fail
        refine (HHS.out _).mono ?_
        rintro e w6 ⟨rfl, hx6⟩
        have hb6 := hb2.trans (hx6.mono hb2.size)
        have g0 := cell_later hb6 d0
        clear hx6 t0 t1 t2 t3 t4 t5 t6 t7 t8 f0 f1 hb2
        go_wp2_with fail
        go_loopw [10] (fun r10 wx => ∃ k : Nat, A ≤ (k : Int) ∧ (k : Int) ≤ A + Z ∧ r10 = .int .i64 (k : Int) ∧ w6 = wx) (fun r10 _ => (A + Z - intOf r10).toNat)
        case atStart => exact ⟨A.toNat, by omega, by omega, by congr 1; omega, by trivial⟩
        case round =>
          obtain ⟨k, hk0, hk1, rfl, rfl⟩ := hrel
          have u7 := cell_later hb6 z7
          cases q32 with
          | false =>
            go_wp2_with fail
            go_roundw
            case rel => exact ⟨i + 1, hlt, by go_num, by rw [HC2.out], hb6⟩
            case measure => simp [intOf]; omega
          | true =>
            obtain ⟨m1, m2⟩ := HP7.out rfl
            by_cases hkl : (k : Int) < A + Z
            · obtain ⟨bd, od, x, rfl, hx, hxe⟩ := HDW.out.at_ (i := k) (by rw [HDL.out]; omega)
              have hcx := cell_later hb6 hxe
              rw [Nat.mul_one] at hcx
              have hm3 := m2 k x hk0 hkl hx
              have hA2 := u8_zero x
              obtain ⟨cx, hcx2⟩ : ∃ c, c = (x == 0) := ⟨_, rfl⟩
              rw [← hcx2] at hm3 hA2
              have hkI : decide ((dl : Int) ≤ (k : Int)) = false := decide_eq_false (by omega)
              have hkn : ¬ (dl : Int) ≤ (k : Int) := by omega
              have hkd : (k : Int) < (dl : Int) := by omega
              have hkz : (0 : Int) ≤ (k : Int) := by omega
              have kw3 : IntKind.i64.wrap (A + Z - 1) = A + Z - 1 := IntWalk.i64_in _ (by omega)
              have hB := hm3.symm
              have hcc : (cx != cx) = false := by cases cx <;> rfl
              clear hm3 hcx2 hx hxe m1 m2 HP7
              go_wp2_with fail
              go_roundw
              case rel => exact ⟨k + 1, by omega, by omega, by go_num, by trivial⟩
              case measure => simp [intOf]; omega
            · have hke : decide ((k : Int) < A + Z) = false := decide_eq_false hkl
              clear m1 m2
              go_wp2_with fail
              go_roundw
              case rel => exact ⟨i + 1, hlt, by go_num, by rw [HC2.out], hb6⟩
              case measure => simp [intOf]; omega
    · have hJ : ¬ (i : Int) < (n : Int) := by omega
      have he : endOf (l.take i) = s.size := by rw [show i = n by omega]; exact HEND.out
      rw [he]
      have q0 : (s.size != s.size) = false := by simp
      clear he HCH HI7 HDW
      go_wp2_with fail
      refine (HI1.out _ hb).mono ?_
      rintro e w6 ⟨rfl, hx6⟩
      have hb6 := hb.trans (hx6.mono hb.size)
      have g6 := cell_later hb6 z6
      have hbw : Below gb w w6 := hb4.trans (hb6.mono hg4)
      clear hx6 u0 u1 u2 u3 u4 u5 u6 u7 u8 hb
      by_cases t1 : at_ < 0
      · have hz := HIN0.out (.inl t1)
        rw [hz]
        have t1d : decide (at_ < 0) = true := decide_eq_true t1
        clear hz HIN0 HIN1 HI1
        go_wp2_with fail
        go_ret
        subst hgb
        exact ⟨rfl, hbw⟩
      have t1d : decide (at_ < 0) = false := decide_eq_false t1
      by_cases t2 : s.size < at_
      · have hz := HIN0.out (.inr (.inl t2))
        rw [hz]
        have t2d : decide (s.size < at_) = true := decide_eq_true t2
        clear hz HIN0 HIN1 HI1
        go_wp2_with fail
        go_ret
        subst hgb
        exact ⟨rfl, hbw⟩
      have t2d : decide (s.size < at_) = false := decide_eq_false t2
      rcases Nat.eq_zero_or_pos n with h0 | h0
      · have hz := HIN0.out (.inr (.inr h0))
        rw [hz]
        clear hz HIN0 HIN1 HI1
        subst h0
        go_wp2_with fail
        go_ret
        subst hgb
        exact ⟨rfl, hbw⟩
      have hn0 : ¬ n = 0 := by omega
      have hn1 : ((n : Int) == 0) = false := by simp; omega
      obtain ⟨m, p, hm, hml, hp, hp0, hp1⟩ := HIN1.out (by omega) (by omega) h0
      obtain ⟨b, off, p', rfl, hpi, ⟨⟨d0, _⟩, ⟨d1, _⟩⟩⟩ := HH1.out.at_ (i := m) (by rw [HLN.out]; exact hml)
      obtain rfl : p' = p := by rw [hp] at hpi; cases hpi; rfl
      have f0 := cell_later hb6 d0
      have f1 := cell_later hb6 d1
      have hp3 := HI3.out p' (List.mem_of_getElem? hp)
      have kw : IntKind.i64.wrap (p'.at_ + p'.size) = p'.at_ + p'.size := IntWalk.i64_in _ (by omega)
      have kw2 : IntKind.i64.wrap ((n : Int) - 1) = (n : Int) - 1 := IntWalk.i64_in _ (by omega)
      have hm0 : decide ((m : Int) < 0) = false := decide_eq_false (by omega)
      have hm1 : decide ((n : Int) ≤ (m : Int)) = false := decide_eq_false (by omega)
      have hm2 : (m : Int) < (n : Int) := by omega
      have hm3 : (0 : Int) ≤ (m : Int) := by omega
      have hge : decide (p'.at_ ≤ at_) = true := decide_eq_true hp0
      rw [hm]
      clear hm HIN0 HIN1 HI1 HI3 HH1 d0 d1 hp hpi t1 t2
      by_cases t3 : at_ < p'.at_ + p'.size
      · have t3d : decide (at_ < p'.at_ + p'.size) = true := decide_eq_true t3
        clear hp0 hp1 t3
        go_wp2_with fail
        go_quiet (fail)
        go_wp2_with fail
        go_ret
        subst hgb
        exact ⟨rfl, below_drewN hbw _⟩
      · have t3d : decide (at_ < p'.at_ + p'.size) = false := decide_eq_false t3
        rcases hp1 with hp1 | ⟨hp1, hp2⟩
        · exact absurd hp1 t3
        have t4 : (at_ == s.size) = true := by simpa using hp1
        have t5 : ((m : Int) == (n : Int) - 1) = true := by simpa using hp2
        clear hp0 hp1 hp2 t3
        go_wp2_with fail
        go_quiet (fail)
        go_wp2_with fail
        go_ret
        subst hgb
        exact ⟨rfl, below_drewN hbw _⟩

end Go.Proofs.Ytmcegjkkgbnjlaa
