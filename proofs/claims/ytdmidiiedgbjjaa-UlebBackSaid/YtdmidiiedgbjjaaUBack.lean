/-
  The walk of UlebBack: what was put is got, whatever stands behind it.
-/
import Derived.Test.YtdmidiiedgbjjaaUTells
import Derived.Test.YtdmidiiedgbjjaaAppend
namespace Go.Proofs.Ytdmidiiedgbjjaa
open Go.RowKit

theorem IsRow.hasI {w : World} {a : Option Addr} {len cap : Nat} {zs : List Int} (h : IsRow .i64 w a len cap zs) : ∃ xs : List Int, xs.length = len ∧ HasI w a xs ∧ len ≤ cap ∧ cap ≤ maxLen := by
  rcases h with ⟨rfl, rfl, rfl, rfl⟩ | ⟨x, rfl, hl, hm, hz, hc, _⟩
  · exact ⟨[], rfl, fun i x hx => by simp at hx, Nat.le_refl _, Nat.zero_le _⟩
  · refine ⟨zs.take len, by simp; omega, fun i y hy => ⟨x, rfl, ?_⟩, hl, hm⟩
    rw [List.getElem?_take] at hy
    split at hy
    · have hi : i < zs.length := (List.getElem?_eq_some_iff.1 hy).1
      rw [hc i hi]
      simp [List.getD, hy]
    · cases hy

def inR (x : Int) : Prop := 0 ≤ x ∧ x ≤ 2147483647
/-- The numbers' bytes, one behind the other. -/
def flatB : List Int → List UInt8
  | [] => []
  | x :: r => ulebB 5 x.toNat ++ flatB r
theorem flatB_snoc : ∀ (l : List Int) (x : Int), flatB (l ++ [x]) = flatB l ++ ulebB 5 x.toNat
  | [], x => by simp [flatB]
  | y :: r, x => by simp [flatB, flatB_snoc r x]
theorem flatB_length : ∀ l : List Int, (flatB l).length ≤ 5 * l.length
  | [] => by simp [flatB]
  | x :: r => by
    have := flatB_length r
    have := ulebB_length 5 x.toNat
    simp [flatB]
    omega

theorem digs5_ulebB (v : Nat) (r : List UInt8) (h : v ≤ 2147483647) : digs5 (ulebB 5 v ++ r) = some (v, (ulebB 5 v).length) := by
  simp [digs5, digs_ulebB 5 v r (by omega) (by omega), h]
theorem listA_flatB : ∀ l : List Int, (∀ x ∈ l, inR x) → listA (flatB l) = some (l.map Int.toNat)
  | [], _ => rfl
  | x :: r, h => by
    have hx := h x (by simp)
    have e := digs5_ulebB x.toNat (flatB r) (by have := hx.2; omega)
    rw [flatB, listA_some e, List.drop_left, listA_flatB r fun y hy => h y (by simp [hy])]
    rfl
theorem map_toNat : ∀ l : List Int, (∀ x ∈ l, inR x) → (l.map Int.toNat).map (fun (n : Nat) => (n : Int)) = l
  | [], _ => rfl
  | x :: r, h => by
    have hx := (h x (by simp)).1
    have e := map_toNat r fun y hy => h y (by simp [hy])
    simp only [List.map_cons, e]
    congr 1
    omega

theorem ulist_back (p : Option Addr) (len cap : Nat) (xs : List Int) (w : World) (h : Has w p (flatB xs)) (hx : ∀ x ∈ xs, inR x) (hlen : (flatB xs).length = len) (hcap : len ≤ cap) (hbig : len ≤ 1000000000) :
    Calls Try.prog 8 #[.slice p len cap] w (GivesLH xs.length xs true w) := by
  have := (ulist_any p len cap (flatB xs) w h hlen hcap hbig).mono fun _ _ x => x.toLH
  rw [listA_flatB xs hx] at this
  simpa [map_toNat xs hx] using this

theorem uget_back (p : Option Addr) (len cap v : Nat) (r : List UInt8) (w : World) (h : Has w p (ulebB 5 v ++ r)) (hv : v ≤ 2147483647) (hlen : (ulebB 5 v).length + r.length = len) (hcap : len ≤ cap) (hbig : len ≤ 1000000000) :
    Calls Try.prog 6 #[.slice p len cap, .int .i64 0] w fun e w' => e = got v (ulebB 5 v).length true ∧ w = w' := by
  have h5 := ulebB_pos 5 v (by omega)
  have := uget_in p len cap (ulebB 5 v ++ r) 0 w h (by rw [List.length_append]; exact hlen) (by omega) hcap hbig
  rw [List.drop_zero, ugot_some 0 (digs5_ulebB v r hv)] at this
  simpa using this

set_option maxRecDepth 100000 in
set_option maxHeartbeats 2000000 in
theorem uback_walk (p q : Option Addr) (len cap m c : Nat) (xs : List Int) (l : List UInt8) (w : World) (h : HasI w p xs) (hlen : xs.length = len) (hq : Has w q l) (hm : l.length = m) (hcq : q = none → c = 0) (hmc : m ≤ c) :
    Calls Try.prog 4 #[.slice p len cap, .slice q m c] w fun e w' => e = .returned (.bool true) ∧ Below w.heap.size w w' := by
  by_cases hb1 : 100 < len
  · have hI : (100 : Int) < (len : Int) := by omega
    go_enter Try.func4, Try.ntmps4
    go_wp2_with fail
    refine (up_any _).mono ?_
    rintro e w1 ⟨rfl, hb1⟩
    go_wp2_with fail
    go_ret
    exact ⟨rfl, hb1⟩
  by_cases hb2 : 1000 < m
  · have hI : ¬ (100 : Int) < (len : Int) := by omega
    have hJ : (1000 : Int) < (m : Int) := by omega
    go_enter Try.func4, Try.ntmps4
    go_wp2_with fail
    refine (up_any _).mono ?_
    rintro e w1 ⟨rfl, hb1⟩
    go_wp2_with fail
    go_ret
    exact ⟨rfl, hb1⟩
  have hI : ¬ (100 : Int) < (len : Int) := by omega
  have hJ : ¬ (1000 : Int) < (m : Int) := by omega
  obtain ⟨i0, hi, hz0, hz1, hz2⟩ := info_parts Try.infoU8
  have HI := Lib.hid hi
  have H0 := Lib.hid hz0
  have H1 := Lib.hid hz1
  have H2 := Lib.hid hz2
  have HX := Lib.hid h
  have HL := Lib.hid hlen
  have HQ := Lib.hid hq
  have HM := Lib.hid hm
  have HC := Lib.hid hcq
  have hl100 : len ≤ 100 := by omega
  have hm1000 : m ≤ 1000 := by omega
  clear hi hz0 hz1 hz2 h hlen hq hm hcq hb1 hb2
  go_enter Try.func4, Try.ntmps4
  go_wp2_with fail
  refine (up_any _).mono ?_
  rintro e w1 ⟨rfl, hb1⟩
  go_wp2_with fail
  go_loopw [6, 7] (fun all ii wr => ∃ (k n : Nat) (out : List UInt8), k ≤ len ∧ n ≤ 5 * k ∧ ii = .int .i64 (k : Int) ∧ out = flatB (xs.take k) ∧ (∀ x ∈ xs.take k, inR x) ∧ wr.ownsRow w.heap.size 5 1 all n (out.map u8v) ∧ Below w.heap.size w wr) (fun _ ii _ => len - (intOf ii).toNat)
  case atStart => exact ⟨0, 0, [], Nat.zero_le _, Nat.le_refl _, rfl, rfl, fun x hx => by simp at hx, World.ownsRow_nil _ _ _ _, hb1⟩
  case round =>
    obtain ⟨k, n, out, hk, hn, rfl, hout, hin, hown, hb⟩ := hrel
    have HO := Lib.hid hout
    have HN := Lib.hid hin
    clear hout hin hb1
    by_cases hlt : k < len
    · obtain ⟨b1, o1, x, rfl, hx, hc1⟩ := HX.out.at_ (i := k) (by rw [HL.out]; exact hlt)
      have HXK := Lib.hid hx
      have hltI : (k : Int) < (len : Int) := by omega
      have h0I : (0 : Int) ≤ (k : Int) := by omega
      have hc : wr.cell? ⟨b1, o1 + k, none⟩ = some (.int .i64 x) := cell_later hb hc1
      clear hx hc1
      by_cases hr : 0 ≤ x ∧ x ≤ 2147483647
      · obtain ⟨v, rfl⟩ := Int.eq_ofNat_of_zero_le hr.1
        have hv : v ≤ 2147483647 := by omega
        have hvI : ¬ (2147483647 : Int) < (v : Int) := by omega
        have hv0 : ¬ (v : Int) < 0 := by omega
        have HP := Lib.hid fun W => (uput_yes v W hv).mono fun _ _ h => h.toH
        have HG := Lib.hid fun (q : Option Addr) (ln cp : Nat) (W : World) (h : Has W q (ulebB 5 v ++ l)) (h1 : (ulebB 5 v).length + l.length = ln) (h2 : ln ≤ cp) (h3 : ln ≤ 1000000000) => uget_back q ln cp v l W h hv h1 h2 h3
        have hn1 : 1 ≤ (ulebB 5 v).length := ulebB_pos 5 v (by omega)
        have hn5 := ulebB_length 5 v
        obtain ⟨put, hput⟩ : ∃ z, z = ulebB 5 v := ⟨_, rfl⟩
        obtain ⟨nn, hnn⟩ : ∃ z, z = put.length := ⟨_, rfl⟩
        rw [← hput] at HP HG hn1 hn5
        rw [← hnn] at HP HG hn1 hn5
        have HPut := Lib.hid hput
        have HNN := Lib.hid hnn
        clear hput hnn hr
        go_wp2_with fail
        refine (HP.out _).mono ?_
        rintro e w2 ⟨p2, c2, rfl, hl2, hnc2, hcm2, hH2, hbb2⟩
        have hb2 : Below w.heap.size w w2 := hb.trans (hbb2.mono hb.size)
        have hc2 : w2.cell? ⟨b1, o1 + k, none⟩ = some (.int .i64 (v : Int)) := cell_later hbb2 hc
        obtain ⟨b2, o2, rfl, _⟩ := hH2.plain (by omega)
        have hown2 := owns_below hown hbb2
        have HH2 := Lib.hid hH2
        have HL2 := Lib.hid hl2
        have HQ2 : Hid (Has w2 q l) := Lib.hid (HQ.out.below hb2)
        clear hH2 hl2 hbb2 hown hb hc
        go_wp2_with (at_builtin; refine wpList_append_full w2 rfl (.tmp 59) (.tmp 60) _ rfl 5 i0 (.int .u8 0) Try.underlying22 HI.out H0.out H1.out H2.out (some ⟨b2, o2, none⟩) q nn m c put l rfl rfl HH2.out HQ2.out HL2.out HM.out (by omega) (fun h => ⟨HC.out h, by have := HC.out h; omega⟩) (by omega) ?_)
        intro p3 c3 w3 hc3 hH3 hbb3
        have hb3 : Below w.heap.size w w3 := hb2.trans (hbb3.mono hb2.size)
        have hc4 : w3.cell? ⟨b1, o1 + k, none⟩ = some (.int .i64 (v : Int)) := cell_later hbb3 hc2
        have hown3 := owns_below hown2 hbb3
        have HG3 := Lib.hid (HG.out p3 (nn + m) c3 w3 hH3 (by rw [HM.out]) hc3 (by omega))
        have HH3 : Hid (Has w3 (some ⟨b2, o2, none⟩) put) := Lib.hid (HH2.out.below hbb3)
        clear hown2 hc2 hb2 hbb3 hH3
        have hvv : ((v : Int) != (v : Int)) = false := by simp
        have hnnn : ((nn : Int) != (nn : Int)) = false := by simp
        go_wp2_with fail
        refine HG3.out.mono ?_
        rintro e w' ⟨rfl, rfl⟩
        go_wp2_with (at_builtin; refine wpList_append_own _ rfl (.tmp 90) (.tmp 91) 22 rfl w.heap.size 5 i0 (.int .u8 0) 1 1 Try.underlying22 HI.out H0.out H1.out H2.out rfl (by decide) _ n (out.map u8v) rfl hown3 ⟨b2, o2, none⟩ nn c2 (put.map u8v) rfl (by rw [List.length_map, HL2.out, Nat.mul_one]) HH3.out.cells (map_oneCell _) (by unfold maxLen; omega) (by omega) hb3.size ?_)
        intro v' w4 hown4 hgrow _
        have hb4 : Below w.heap.size w w4 := hb3.grown hgrow hb3.size (fun g hg => (hown3.lt g hg).1)
        rw [← List.map_append] at hown4
        clear hgrow hown3 hb3 hc4
        go_wp2_with fail
        go_roundw
        case rel =>
          have ht : xs.take (k + 1) = xs.take k ++ [(v : Int)] := by
            rw [List.take_add_one, HXK.out]
            rfl
          refine ⟨k + 1, n + nn, out ++ put, by omega, by omega, by go_num, ?_, ?_, hown4, hb4⟩
          · rw [ht, flatB_snoc, HO.out, HPut.out]
            rfl
          · intro x hx
            rw [ht, List.mem_append] at hx
            rcases hx with hx | hx
            · exact HN.out x hx
            · simp at hx
              subst hx
              exact ⟨by omega, by omega⟩
        case measure => simp [intOf]; omega
      · have HP := Lib.hid fun W => uput_no x W (by omega)
        by_cases hx0 : x < 0
        · go_wp2_with fail
          refine (HP.out _).mono ?_
          rintro e w' ⟨rfl, rfl⟩
          go_wp2_with fail
          go_ret
          exact ⟨rfl, hb⟩
        · have hx1 : 2147483647 < x := by omega
          clear hr
          go_wp2_with fail
          refine (HP.out _).mono ?_
          rintro e w' ⟨rfl, rfl⟩
          go_wp2_with fail
          go_ret
          exact ⟨rfl, hb⟩
    · obtain rfl : k = len := by omega
      have ht : xs.take k = xs := List.take_of_length_le (by rw [HL.out]; exact Nat.le_refl _)
      rw [ht] at HO HN
      obtain ⟨p6, c6, rfl, hn6, hc6, hl6, hH6⟩ := Has.of_owns hown
      rw [HO.out] at hH6 hl6
      have HLst := Lib.hid ((ulist_back p6 n c6 xs wr hH6 HN.out hl6 hn6 (by omega)).mono fun _ _ h => h)
      rw [HL.out] at HLst
      clear hown hH6 hl6 ht
      go_wp2_with fail
      refine HLst.out.mono ?_
      rintro e w5 ⟨p5, c5, rfl, hH5, hm5, hl5, hbb5⟩
      have hb5 : Below w.heap.size w w5 := hb.trans (hbb5.mono hb.size)
      have HInts := Lib.hid (ints_same p5 p k c5 cap xs w5 hH5 (HX.out.below hb5) hl5 hm5)
      clear hH5 hl5 hbb5 hb
      go_wp2_with fail
      refine HInts.out.mono ?_
      rintro e w6 ⟨rfl, j, hw6⟩
      have hb6 : Below w.heap.size w w6 := by rw [hw6]; exact below_drewN hb5 _
      clear hw6 hb5
      go_wp2_with fail
      go_ret
      exact ⟨rfl, hb6⟩

end Go.Proofs.Ytdmidiiedgbjjaa
