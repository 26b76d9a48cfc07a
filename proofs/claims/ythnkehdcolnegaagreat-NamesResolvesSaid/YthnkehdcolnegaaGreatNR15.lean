/-
  Words on slices of strings, and on two rows of unlike elements.
  Tables of names in memory.
  Contract: the reference's Make: the table of names, and their places.
  Contracts of the library's IndexByte, at strings and at slices of bytes whose cells are known.
-/
import Derived.Test.YthnkehdcolnegaaGreatNR14
import Derived.Test.YthnkehdcolnegaaGreatMem0
import Derived.Lib.AppendStr
import Derived.Deep.QuietTactic
import Derived.BigQuiet
import Derived.Deep.DeepCutAuto
import Derived.Deep.CutBlock
import Derived.Laws.Closers25
import Derived.Test.YthnkehdcolnegaaGreatMem
import Derived.Lib.BytesEntry
import Derived.Laws.Externs
namespace Go.Proofs.YthnkehdcolnegaaGreat
open Go.RowKit

/-- Behind the address p lie the strings ss. -/
def HasS (w : World) (p : Option Addr) (ss : List ByteArray) : Prop :=
  ∀ i x, ss[i]? = some x → ∃ a, p = some a ∧ w.cell? (a.add i) = some (.string x)
theorem HasS.below {w w' : World} {p : Option Addr} {ss : List ByteArray} (h : HasS w p ss) (hb : Below w.heap.size w w') : HasS w' p ss := fun i x hx => by
  obtain ⟨a, e, hc⟩ := h i x hx
  exact ⟨a, e, (hb.cell (World.block_lt_of_cell? w _ hc)).trans hc⟩
theorem HasS.at_ {w : World} {p : Option Addr} {ss : List ByteArray} (h : HasS w p ss) {i : Nat} (hi : i < ss.length) :
    ∃ b off x, p = some ⟨b, off, none⟩ ∧ ss[i]? = some x ∧ w.cell? ⟨b, off + i, none⟩ = some (.string x) := by
  obtain ⟨⟨b, off, spot⟩, e, hc⟩ := h i ss[i] (List.getElem?_eq_getElem hi)
  have hs : spot = none := by
    obtain ⟨a0, e0, hc0⟩ := h 0 ss[0] (List.getElem?_eq_getElem (by omega))
    rw [e] at e0
    cases e0
    simpa [Addr.add] using World.cell?_spot hc0
  subst hs
  refine ⟨b, off, ss[i], e, List.getElem?_eq_getElem hi, ?_⟩
  have ha : (⟨b, off, none⟩ : Addr).add i = ⟨b, off + i, none⟩ := by unfold Addr.add; split <;> simp_all
  rwa [ha] at hc
theorem HasS.plain {w : World} {p : Option Addr} {ss : List ByteArray} (h : HasS w p ss) (hl : 0 < ss.length) :
    ∃ b off, p = some ⟨b, off, none⟩ ∧ ∀ i x, ss[i]? = some x → w.cell? ⟨b, off + i, none⟩ = some (.string x) := by
  obtain ⟨b, off, x, e, _, _⟩ := h.at_ hl
  refine ⟨b, off, e, fun i y hy => ?_⟩
  obtain ⟨b', off', y', e', hy', hc⟩ := h.at_ (List.getElem?_eq_some_iff.1 hy).1
  rw [e] at e'
  simp only [Option.some.injEq, Addr.mk.injEq, and_true] at e'
  obtain ⟨rfl, rfl⟩ := e'
  rw [hy] at hy'
  cases hy'
  exact hc

/-- A string's bytes. -/
abbrev lst (s : ByteArray) : Nm := s.data.toList
theorem lst_inj {a b : ByteArray} (h : lst a = lst b) : a = b := by
  apply ByteArray.ext
  exact Array.toList_inj.1 h
theorem strCells_lst (s : ByteArray) : Lib.strCells s = (lst s).map u8v := by simp [Lib.strCells, u8v]

theorem owns_apart {w : World} {b1 b2 : Nat} {e1 e2 : TypeId} {s1 s2 : Nat} {v1 v2 : Value} {n1 n2 : Nat} {xs1 xs2 : List Value} (h1 : w.ownsRow b1 e1 s1 v1 n1 xs1) (h2 : w.ownsRow b2 e2 s2 v2 n2 xs2) (he : e1 ≠ e2) :
    v1.ownBlock = none ∨ v1.ownBlock ≠ v2.ownBlock := by
  rcases h1.2 with ⟨rfl, _⟩ | ⟨g, cap, cur, rfl, _, hg, _⟩
  · exact .inl rfl
  · right
    rcases h2.2 with ⟨rfl, _⟩ | ⟨g', cap', cur', rfl, _, hg', _⟩
    · simp [Value.ownBlock]
    · simp only [Value.ownBlock, ne_eq, Option.some.injEq]
      intro e
      subst e
      rw [hg] at hg'
      simp only [Option.some.injEq, Obj.cells.injEq] at hg'
      exact he hg'.2.1

end Go.Proofs.YthnkehdcolnegaaGreat

namespace Go.Proofs.YthnkehdcolnegaaGreat
open Go.RowKit

end Go.Proofs.YthnkehdcolnegaaGreat

namespace Go.Proofs.YthnkehdcolnegaaGreat
open Go.RowKit

/-- The call hands back a table and places, both in memory of its own. -/
def GivesT (ns : List Nm) (w : World) (e : Ending) (w' : World) : Prop :=
  ∃ v1 v2, e = .returned (.tuple #[v1, v2]) ∧ w'.ownsRow w.heap.size 5 1 v1 (tabOf ns).tb.length ((tabOf ns).tb.map u8v) ∧ w'.ownsRow w.heap.size 3 1 v2 (placesOf ns).length (natV (placesOf ns)) ∧ Below w.heap.size w w'

theorem placesOf_length (ns : List Nm) : (placesOf ns).length = ns.length := by simp [placesOf]
theorem zero_row (w : World) : (w.alloc (.cells #[.int .u8 0] 5)).ownsRow w.heap.size 5 1 (.slice (some ⟨w.heap.size, 0, none⟩) 1 1) 1 ([0].map u8v) :=
  World.ownsRow_lit w #[u8v 0] 1 (Nat.le_refl _) (by unfold maxLen; omega) rfl

theorem isEmpty_yes {s : ByteArray} (h : lst s = []) : s.toList.isEmpty = true := by
  rw [← decide_eq_emptyBytes, decide_eq_true_eq]
  exact lst_inj (by rw [h]; rfl)
theorem isEmpty_no {s : ByteArray} (h : lst s ≠ []) : s.toList.isEmpty = false := by
  rw [← decide_eq_emptyBytes, decide_eq_false_iff_not]
  intro e
  exact h (by rw [e]; rfl)
theorem eq_no {x y : ByteArray} (h : y ≠ x) : (y.toList == x.toList) = false := by
  rw [ByteArray.toList_eq, ByteArray.toList_eq, beq_eq_false_iff_ne]
  exact fun e => h (lst_inj e)
/-- Where a name stands, if it came before; else -1. -/
def found (ns : List Nm) (n : Nm) (k : Nat) (a : Int) : Prop :=
  (a = -1 ∧ n ≠ [] ∧ ∀ j y, j < k → ns[j]? = some y → y ≠ n) ∨ (a = (placeOf ns n : Int) ∧ (n = [] ∨ n ∈ ns))

theorem one_cell_at (w : World) (x : UInt8) : ∀ j z, [u8v x][j]? = some z → (w.alloc (.cells #[.int .u8 (x.toNat : Int)] 5)).cell? ((⟨w.heap.size, 0, none⟩ : Addr).add j) = some z := fun j z hj => by
  match j, hj with
  | 0, hj => simp at hj; subst hj; simp [Addr.add, u8v]
theorem one_cells (x : UInt8) : ∀ u ∈ [u8v x], u.oneCell' = true := fun u hu => by simp at hu; subst hu; rfl
theorem one_cell_at2 (w : World) (q : Int) (t : TypeId) : ∀ j z, [Value.int .i64 q][j]? = some z → (w.alloc (.cells #[.int .i64 q] t)).cell? ((⟨w.heap.size, 0, none⟩ : Addr).add j) = some z := fun j z hj => by
  match j, hj with
  | 0, hj => simp at hj; subst hj; simp [Addr.add]
theorem one_cells2 (q : Int) : ∀ u ∈ [Value.int .i64 q], u.oneCell' = true := fun u hu => by simp at hu; subst hu; rfl
theorem row_snoc2 (out : List UInt8) (d : UInt8) : out.map u8v ++ [u8v d] = (out ++ [d]).map u8v := by simp

set_option maxHeartbeats 2000000 in
set_option maxRecDepth 100000 in
theorem refMake_wide (p : Option Addr) (len cap : Nat) (ss : List ByteArray) (w : World) (h : HasS w p ss) (hlen : ss.length = len) (hl100 : len ≤ 1000) (hs : ∀ s ∈ ss, mayB (lst s) = true) :
    Calls Tryz.prog 37 #[.slice p len cap] w (GivesT (ss.map lst) w) := by
  obtain ⟨i0, hi, hz0, hz1, hz2⟩ := info_parts Tryz.infoU8
  obtain ⟨i1, gi, gz0, gz1, gz2⟩ := info_parts Tryz.infoInt
  have HI := Lib.hid hi
  have H0 := Lib.hid hz0
  have H1 := Lib.hid hz1
  have H2 := Lib.hid hz2
  have GI := Lib.hid gi
  have G0 := Lib.hid gz0
  have G1 := Lib.hid gz1
  have G2 := Lib.hid gz2
  have HS := Lib.hid hs
  have HM := Lib.hid h
  have HL := Lib.hid hlen
  clear hs h hlen hi hz0 hz1 hz2 gi gz0 gz1 gz2
  go_enter Tryz.func37, Tryz.ntmps37
  go_wp2_with fail
  go_loopw [4, 5, 6] (fun out places ii wr => ∃ (k n : Nat) (ns : List Nm), k ≤ len ∧ n ≤ 33 * k + 1 ∧ ns = (ss.take k).map lst ∧ ii = .int .i64 (k : Int) ∧ wr.ownsRow w.heap.size 5 1 out n ((tabOf ns).tb.map u8v) ∧ wr.ownsRow w.heap.size 3 1 places k (natV (placesOf ns)) ∧ Below w.heap.size w wr) (fun _ _ ii _ => len - (intOf ii).toNat)
  case atStart => exact ⟨0, 1, [], Nat.zero_le _, Nat.le_refl _, rfl, rfl, zero_row w, World.ownsRow_nil _ _ _ _, (Below.refl _ w).alloc (Nat.le_refl _) _⟩
  case round =>
    obtain ⟨k, n, ns, hk, hn, hns, rfl, hown, hpl, hb⟩ := hrel
    have HN := Lib.hid hns
    clear hns
    by_cases hlt : k < len
    · obtain ⟨b, off, x, rfl, hx, hc0⟩ := HM.out.at_ (i := k) (by rw [HL.out]; exact hlt)
      have hc := cell_later hb hc0
      have HX := Lib.hid hx
      have hI1 : (k : Int) < (len : Int) := by omega
      have hI0 : (0 : Int) ≤ (k : Int) := by omega
      clear hc0 hx
      have hns : ns.length = k := by rw [HN.out]; simp; have := HL.out; omega
      have HNL := Lib.hid hns
      clear hns
      go_upto_if 20 with fail
      go_cut [7] (fun s7 wx => ∃ a : Int, s7 = .int .i64 a ∧ found ns (lst x) 0 a ∧ -1 ≤ a ∧ a ≤ 0 ∧ wr = wx)
      case first =>
        by_cases hx0 : lst x = []
        · have he := isEmpty_yes hx0
          have HF : Hid (found ns (lst x) 0 0) := Lib.hid (.inr ⟨by rw [hx0, placeOf_nil]; rfl, .inl hx0⟩)
          clear hx0
          rw [he]
          go_wp2_with fail
          go_meet
          exact ⟨0, rfl, HF.out, by omega, by omega, rfl⟩
        · have he := isEmpty_no hx0
          have HF : Hid (found ns (lst x) 0 (-1)) := Lib.hid (.inl ⟨rfl, hx0, fun j y hj => absurd hj (by omega)⟩)
          clear hx0
          rw [he]
          go_wp2_with fail
          go_meet
          exact ⟨-1, rfl, HF.out, by omega, by omega, rfl⟩
      case rest =>
        obtain ⟨a0, rfl, hf0, ha1, ha2, rfl⟩ := hcut
        have HF0 := Lib.hid hf0
        clear hf0
        go_upto_block 2 with fail
        go_cut [7] (fun s7 wx => ∃ (a : Int) (m : Nat), s7 = .int .i64 a ∧ found ns (lst x) k a ∧ -1 ≤ a ∧ wx = wr.drewN m)
        case first =>
          go_wp2_with fail
          go_loopw [7, 8] (fun s7 s8 wx => ∃ (a : Int) (j m : Nat), s7 = .int .i64 a ∧ s8 = .int .i64 (j : Int) ∧ j ≤ k ∧ found ns (lst x) j a ∧ -1 ≤ a ∧ wx = wr.drewN m) (fun _ s8 _ => k - (intOf s8).toNat)
          case atStart => exact ⟨a0, 0, 0, rfl, rfl, Nat.zero_le _, HF0.out, ha1, rfl⟩
          case round =>
            obtain ⟨a, j, m, rfl, rfl, hjk, hf, hage, rfl⟩ := hrel
            have HF := Lib.hid hf
            clear hf
            by_cases hj : j < k
            · have hjI : (j : Int) < (k : Int) := by omega
              by_cases hneg : a < 0
              · obtain rfl : a = -1 := by omega
                obtain ⟨b', off', y, hp', hy, hcy0⟩ := HM.out.at_ (i := j) (by rw [HL.out]; omega)
                simp only [Option.some.injEq, Addr.mk.injEq, and_true] at hp'
                obtain ⟨rfl, rfl⟩ := hp'
                have hcy := cell_later hb hcy0
                have hj0 : (0 : Int) ≤ (j : Int) := by omega
                have hjl : (j : Int) < (len : Int) := by omega
                have hnsj : ns[j]? = some (lst y) := by
                  rw [HN.out, List.getElem?_map, List.getElem?_take, if_pos hj, hy]
                  rfl
                have HNJ := Lib.hid hnsj
                clear hcy0 hy hnsj
                by_cases hyx : y = x
                · subst hyx
                  obtain ⟨g, gc, cur, rfl, _, _, _, hgc, hgm, _, _⟩ := owns_form hpl (by omega)
                  have hpc : wr.cell? ⟨g, j, none⟩ = some (.int .i64 (placeOf ns (lst y) : Int)) := by
                    rw [hpl.cellAt j (by omega)]
                    simp only [natV, placesOf, List.map_map, List.getElem?_map, HNJ.out]
                    rfl
                  have HF2 : Hid (found ns (lst y) (j + 1) (placeOf ns (lst y) : Int)) := Lib.hid (.inr ⟨rfl, .inr (List.mem_of_getElem? HNJ.out)⟩)
                  clear hneg
                  generalize (placeOf ns (lst y)) = q at *
                  go_wp2_with fail
                  go_quiet (fail)
                  go_wp2_with fail
                  go_roundw
                  case rel => exact ⟨_, j + 1, _, rfl, by go_num, hj, HF2.out, by omega, rfl⟩
                  case measure => simp [intOf]; omega
                · have hne2 := eq_no hyx
                  have HF2 : Hid (found ns (lst x) (j + 1) (-1)) := Lib.hid (by
                    rcases HF.out with ⟨h1, h2, h3⟩ | ⟨h1, _⟩
                    · refine .inl ⟨h1, h2, fun i z hi hz => ?_⟩
                      by_cases e : i = j
                      · subst e
                        rw [HNJ.out] at hz
                        cases hz
                        exact fun e => hyx (lst_inj e)
                      · exact h3 i z (by omega) hz
                    · omega)
                  clear hneg
                  go_wp2_with fail
                  go_quiet (fail)
                  go_wp2_with fail
                  go_roundw
                  case rel => exact ⟨_, j + 1, _, rfl, by go_num, hj, HF2.out, by omega, rfl⟩
                  case measure => simp [intOf]; omega
              · have HF2 : Hid (found ns (lst x) k a) := Lib.hid (by
                  rcases HF.out with ⟨h1, _⟩ | h1
                  · omega
                  · exact .inr h1)
                have hnI : ¬ a < 0 := hneg
                go_wp2_with fail
                go_meet
                exact ⟨a, m, rfl, HF2.out, hage, rfl⟩
            · obtain rfl : j = k := by omega
              have hjI : ¬ (j : Int) < (j : Int) := by omega
              go_wp2_with fail
              go_meet
              exact ⟨a, m, rfl, HF.out, hage, rfl⟩
        case rest =>
          obtain ⟨a, m, rfl, hf, hage, rfl⟩ := hcut
          have HF := Lib.hid hf
          clear hf
          have hownm : (wr.drewN m).ownsRow w.heap.size 5 1 u4 n ((tabOf ns).tb.map u8v) := hown
          have hplm : (wr.drewN m).ownsRow w.heap.size 3 1 u5 k (natV (placesOf ns)) := hpl
          have hbm : Below w.heap.size w (wr.drewN m) := below_drewN hb m
          have hcm : (wr.drewN m).cell? ⟨b, off + k, none⟩ = some (.string x) := hc
          clear hown hpl hb hc
          generalize wr.drewN m = wd at *
          go_upto_if 44 with fail
          go_cut [4, 7] (fun s4 s7 wx => ∃ (n2 q : Nat), s7 = .int .i64 (q : Int) ∧ q = placeOf (ns ++ [lst x]) (lst x) ∧ n2 ≤ 33 * (k + 1) + 1 ∧ wx.ownsRow w.heap.size 5 1 s4 n2 ((tabOf (ns ++ [lst x])).tb.map u8v) ∧ wx.ownsRow w.heap.size 3 1 u5 k (natV (placesOf ns)) ∧ Below w.heap.size w wx)
          case first =>
            by_cases hneg : a < 0
            · have hnew : lst x ≠ [] ∧ lst x ∉ ns := by
                rcases HF.out with ⟨_, h2, h3⟩ | ⟨h1, _⟩
                · refine ⟨h2, fun hm => ?_⟩
                  obtain ⟨j, hj⟩ := List.getElem?_of_mem hm
                  exact h3 j _ (by have := (List.getElem?_eq_some_iff.1 hj).1; have := HNL.out; omega) hj rfl
                · omega
              have HT := Lib.hid (tab_new hnew.1 hnew.2)
              have hx32 := (all_ne (HS.out x (List.mem_of_getElem? HX.out))).1
              have hxs : (lst x).length = x.size := by simp
              have HXS := Lib.hid hxs
              have hsz : x.size ≤ 32 := by omega
              have hnt : (tabOf ns).tb.length = n := by have := hownm.1; simpa using this
              have HNT := Lib.hid hnt
              have hap := owns_apart hplm hownm (by decide)
              obtain ⟨p4, c4, rfl, _, _, _, _⟩ := Has.of_owns hownm
              obtain rfl : a = -1 := by rcases HF.out with ⟨h, _⟩ | ⟨h, _⟩ <;> omega
              clear hnew hx32 hxs hnt hneg
              go_wp2_with (at_builtin; refine Lib.wpList_append_own_string wd rfl (.tmp 47) (.tmp 51) 31 9 rfl w.heap.size 5 i0 Tryz.underlying31 Tryz.underlying9 HI.out H0.out H1.out H2.out _ n _ rfl hownm x rfl (by unfold maxLen; omega) (by omega) hbm.size ?_)
              intro v5 w5 hown5 hgrow5 _
              have hpl5 := hplm.kept hgrow5 hap
              have hb5 : Below w.heap.size w w5 := hbm.grown hgrow5 hbm.size (fun g hg => (hownm.lt g hg).1)
              rw [strCells_lst, ← List.map_append] at hown5
              clear hgrow5 hplm hap hownm hbm hcm
              go_wp2_with (at_builtin; refine wpList_append_own _ rfl (.tmp 53) (.tmp 54) 31 rfl w.heap.size 5 i0 (.int .u8 0) 1 1 Tryz.underlying31 HI.out H0.out H1.out H2.out rfl (by decide) _ _ _ rfl (hown5.alloc _) ⟨w5.heap.size, 0, none⟩ 1 1 [u8v 0] rfl rfl (one_cell_at w5 0) (one_cells 0) (by unfold maxLen; omega) (by omega) (by have := hb5.size; simp; omega) ?_)
              intro v6 w6 hown6 hgrow6 _
              have hap6 := owns_apart (hpl5.alloc (.cells #[.int .u8 0] 5)) (hown5.alloc (.cells #[.int .u8 0] 5)) (by decide)
              have hpl6 := (hpl5.alloc (.cells #[.int .u8 0] 5)).kept hgrow6 hap6
              have hb6 : Below w.heap.size w w6 := (hb5.alloc hb5.size _).grown hgrow6 (by have := hb5.size; simp; omega) (fun g hg => (hown5.lt g hg).1)
              rw [row_snoc2] at hown6
              clear hgrow6 hpl5 hap6 hown5 hb5
              go_wp2_with fail
              go_meet
              refine ⟨n + x.size + 1, n, rfl, by rw [HT.out.2, HNT.out], by omega, ?_, hpl6, hb6⟩
              rw [HT.out.1, List.map_append]
              exact hown6
            · have hold : lst x = [] ∨ lst x ∈ ns := by
                rcases HF.out with ⟨h, _⟩ | ⟨_, h⟩
                · omega
                · exact h
              obtain ⟨q, rfl⟩ := Int.eq_ofNat_of_zero_le (show 0 ≤ a by omega)
              have HT := Lib.hid (tab_old hold)
              have HQ : Hid (q = placeOf ns (lst x)) := Lib.hid (by rcases HF.out with ⟨h, _⟩ | ⟨h, _⟩ <;> omega)
              have hnI : ¬ (q : Int) < 0 := by omega
              clear hold hneg
              go_wp2_with fail
              go_meet
              exact ⟨n, q, rfl, by rw [HT.out.2]; exact HQ.out, by omega, by rw [HT.out.1]; exact hownm, hplm, hbm⟩
          case rest =>
            obtain ⟨n2, q, rfl, hq, hn2, hown2, hpl2, hb2⟩ := hcut
            have HQ := Lib.hid hq
            clear hq hcm hownm hplm hbm
            go_wp2_with (at_builtin; refine wpList_append_own _ rfl (.tmp 56) (.tmp 58) 25 rfl w.heap.size 3 i1 (.int .i64 0) 1 8 Tryz.underlying25 GI.out G0.out G1.out G2.out rfl (by decide) _ _ _ rfl (hpl2.alloc _) ⟨wc.heap.size, 0, none⟩ 1 1 [Value.int .i64 (q : Int)] rfl rfl (one_cell_at2 wc _ _) (one_cells2 _) (by unfold maxLen; omega) (by omega) (by have := hb2.size; simp; omega) ?_)
            intro v7 w7 hpl7 hgrow7 _
            have hap7 := owns_apart (hown2.alloc (.cells #[.int .i64 (q : Int)] 3)) (hpl2.alloc (.cells #[.int .i64 (q : Int)] 3)) (by decide)
            have hown7 := (hown2.alloc (.cells #[.int .i64 (q : Int)] 3)).kept hgrow7 hap7
            have hb7 : Below w.heap.size w w7 := (hb2.alloc hb2.size _).grown hgrow7 (by have := hb2.size; simp; omega) (fun g hg => (hpl2.lt g hg).1)
            clear hgrow7 hpl2 hap7 hown2 hb2
            go_wp2_with fail
            go_roundw
            case rel =>
              have hn1 : (ss.take (k + 1)).map lst = ns ++ [lst x] := by
                rw [List.take_add_one, HX.out, HN.out]
                simp
              refine ⟨k + 1, n2, ns ++ [lst x], hlt, hn2, hn1.symm, by go_num, hown7, ?_, hb7⟩
              rw [placesOf_snoc, ← HQ.out, ← natV_snoc]
              exact hpl7
            case measure => simp [intOf]; omega
    · obtain rfl : k = len := by omega
      have ht : ss.take k = ss := List.take_of_length_le (by rw [HL.out]; exact Nat.le_refl _)
      have HNS : Hid (ns = ss.map lst) := Lib.hid (by rw [HN.out, ht])
      have hnt : (tabOf ns).tb.length = n := by have := hown.1; simpa using this
      have hkl : (placesOf ns).length = k := by have := hpl.1; simp [natV] at this; simpa using this
      rw [← hnt] at hown
      rw [← hkl] at hpl
      rw [HNS.out] at hown hpl
      clear ht hnt hkl
      go_wp2_with fail
      go_ret2
      exact ⟨_, _, rfl, hown, hpl, hb⟩

end Go.Proofs.YthnkehdcolnegaaGreat

namespace Go.Proofs.YthnkehdcolnegaaGreat
open Go.RowKit

theorem idx_none {l : List UInt8} {c : UInt8} (h : ∀ (i : Nat) (y : UInt8), l[i]? = some y → y ≠ c) : Lib.indexByte l c = -1 := by
  induction l with
  | nil => rfl
  | cons x r ih =>
    have hx : (x == c) = false := by rw [beq_eq_false_iff_ne]; exact h 0 x rfl
    have := ih fun i y hy => h (i + 1) y (by simpa using hy)
    simp [Lib.indexByte, hx, this]
theorem idx_some {c : UInt8} : ∀ {l : List UInt8} {k : Nat}, (∀ (i : Nat) (y : UInt8), i < k → l[i]? = some y → y ≠ c) → l[k]? = some c → Lib.indexByte l c = k
  | [], _, _, h => by simp at h
  | x :: r, 0, _, h => by
    simp at h
    simp [Lib.indexByte, h]
  | x :: r, k + 1, hb, h => by
    have hx : (x == c) = false := by rw [beq_eq_false_iff_ne]; exact hb 0 x (by omega) rfl
    have := idx_some (c := c) (l := r) (k := k) (fun i y hi hy => hb (i + 1) y (by omega) (by simpa using hy)) (by simpa using h)
    have h2 : ((k : Int) == -1) = false := by rw [beq_eq_false_iff_ne]; omega
    simp [Lib.indexByte, hx, this, h2]
/-- A list has a first such byte, or none. -/
theorem first_of (c : UInt8) : ∀ l : List UInt8, (∃ k : Nat, l[k]? = some c ∧ ∀ (i : Nat) (y : UInt8), i < k → l[i]? = some y → y ≠ c) ∨ ∀ (i : Nat) (y : UInt8), l[i]? = some y → y ≠ c
  | [] => .inr fun i y h => by simp at h
  | x :: r => by
    by_cases hx : x = c
    · exact .inl ⟨0, by simp [hx], fun i y hi => absurd hi (by omega)⟩
    · rcases first_of c r with ⟨k, h1, h2⟩ | h
      · refine .inl ⟨k + 1, by simpa using h1, fun i y hi hy => ?_⟩
        match i, hy with
        | 0, hy => simp at hy; exact hy ▸ hx
        | i + 1, hy => exact h2 i y (by omega) (by simpa using hy)
      · refine .inr fun i y hy => ?_
        match i, hy with
        | 0, hy => simp at hy; exact hy ▸ hx
        | i + 1, hy => exact h i y (by simpa using hy)

set_option maxRecDepth 100000 in
theorem sIdx_any (s : ByteArray) (c : Int) (w : World) :
    Calls Tryz.prog 223 #[.string s, .int .u8 c] w fun e w' => e = .returned (.int .i64 (Lib.indexByte s.data.toList c.toNat.toUInt8)) ∧ w = w' := by
  go_enter Tryz.func223, Tryz.ntmps223
  go_wp2_with fail
  rw [run_callFunc_extern Tryz.func229 (by kernel_rfl) (by kernel_rfl) (by kernel_rfl) (e := Extern.BytealgIndexByte.indexByte) (by kernel_rfl), Lib.run_indexByteString]
  simp only [Result.andThen]
  rw [Oper.upon_value]
  go_wp2_with fail
  go_ret
  exact ⟨rfl, rfl⟩

set_option maxRecDepth 100000 in
theorem strIdx_any (s : ByteArray) (c : Int) (w : World) :
    Calls Tryz.prog 210 #[.string s, .int .u8 c] w fun e w' => e = .returned (.int .i64 (Lib.indexByte s.data.toList c.toNat.toUInt8)) ∧ w = w' := by
  have HC := Lib.hid (sIdx_any s c w)
  go_enter Tryz.func210, Tryz.ntmps210
  go_wp2_with fail
  refine HC.out.mono ?_
  rintro e w' ⟨rfl, rfl⟩
  go_wp2_with fail
  go_ret
  exact ⟨rfl, rfl⟩

end Go.Proofs.YthnkehdcolnegaaGreat
