/-
  Contract of the project's insn: Encode.
-/
import Derived.Test.YtbedbkifdhjdfaaDoorIDecode
import Derived.Test.YtbedbkifdhjdfaaDoorMarked
import Derived.Test.YtbedbkifdhjdfaaDoorPut
import Derived.Deep.AppendLies
namespace Go.Proofs.YtbedbkifdhjdfaaDoor
open Go.RowKit

theorem enc_bad {x : Ins} (h : x.op < 1 ∨ 20 < x.op) : enc x = [] := by
  have hr : raw x = [] := by
    unfold raw
    by_cases h1 : 1 ≤ x.op
    · rw [if_pos h1, List.getElem?_eq_none (by have : shapesL.length = 20 := rfl; omega)]
    · rw [if_neg h1]
  unfold enc
  rw [hr]
  split <;> rfl
theorem raw_of {x : Ins} {k : Nat} {s : Shp} (h : x.op = (k : Int) + 1) (hs : shapesL[k]? = some s) : raw x = rawS s x := by
  unfold raw
  have e : (x.op - 1).toNat = k := by omega
  rw [if_pos (by omega), e, hs]
/-- A cell of the package variable. -/
theorem shape_cell {w : World} (h : Shapes w) (k : Nat) (s : Shp) (hs : shapesL[k]? = some s) : w.cell? ⟨0, k * 6, none⟩ = some (.string (str s.first)) ∧ w.cell? ⟨0, k * 6 + 1, none⟩ = some (.int .i64 (s.base : Int)) ∧ w.cell? ⟨0, k * 6 + 2, none⟩ = some (.bool s.r) ∧
    w.cell? ⟨0, k * 6 + 3, none⟩ = some (.bool s.m) ∧ w.cell? ⟨0, k * 6 + 4, none⟩ = some (.bool s.mem) ∧ w.cell? ⟨0, k * 6 + 5, none⟩ = some (.int .i64 (s.width : Int)) := by
  obtain ⟨T, h⟩ := h
  have key : ∀ j v, j < 6 → (cells6 s)[j]? = some v → w.cell? ⟨0, k * 6 + j, none⟩ = some v := fun j v hj hv => by
    rw [cell_of_row w 0 (k * 6 + j) _ _ (0, 0) h]
    unfold shpCells
    rw [List.getElem?_toArray, flat_get shapesL k j s hs hj, hv]
  exact ⟨key 0 _ (by omega) rfl, key 1 _ (by omega) rfl, key 2 _ (by omega) rfl, key 3 _ (by omega) rfl, key 4 _ (by omega) rfl, key 5 _ (by omega) rfl⟩

/-- A struct's numbers fit. -/
def Ins.wf (x : Ins) : Prop := ∀ y ∈ [x.op, x.r, x.m, x.len, x.field, x.width, x.imm], -9223372036854775808 ≤ y ∧ y ≤ 9223372036854775807

set_option maxRecDepth 100000 in
set_option maxHeartbeats 4000000 in
theorem iencode_bad (x : Ins) (w : World) (h : x.op < 1 ∨ 20 < x.op) : Calls Tryd.prog 9 #[x.v] w (GivesH 0 [] w) := by
  have hb : Below w.heap.size w (w.alloc (.cells #[.int .i64 x.op, .int .i64 x.r, .int .i64 x.m, .int .i64 x.len, .int .i64 x.field, .int .i64 x.width, .int .i64 x.imm] 24)) := (Below.refl _ w).alloc (Nat.le_refl _) _
  rcases h with h | h
  · go_enter Tryd.func9, Tryd.ntmps9
    go_wp2_with fail
    go_ret
    exact ⟨none, 0, rfl, rfl, Nat.le_refl _, Nat.zero_le _, Has.none_ _ _, hb⟩
  · have h1 : ¬ x.op < 1 := by omega
    go_enter Tryd.func9, Tryd.ntmps9
    go_wp2_with fail
    go_ret
    exact ⟨none, 0, rfl, rfl, Nat.le_refl _, Nat.zero_le _, Has.none_ _ _, hb⟩

theorem OwnsM.lower {w : World} {b c : Nat} {e : TypeId} {v : Value} {n : Nat} {xs : List Value} (h : OwnsM w b e v n xs) (hc : c ≤ b) : OwnsM w c e v n xs := by
  obtain ⟨h1, g, cap, cur, fz, h2, h3, rest⟩ := h
  exact ⟨h1, g, cap, cur, fz, h2, by omega, rest⟩
theorem OwnsM.block {w : World} {b : Nat} {e : TypeId} {v : Value} {n : Nat} {xs : List Value} (h : OwnsM w b e v n xs) {g : Nat} {cs : Array Value} {T : TypeId} (hg : w.heap[g]? = some (.cells cs T (0, 0))) (hT : e ≠ T) : some g ≠ v.ownBlock := by
  obtain ⟨_, g', cap, cur, fz, rfl, _, h4, _⟩ := h
  simp only [Value.ownBlock, ne_eq, Option.some.injEq]
  rintro rfl
  rw [h4] at hg
  simp only [Option.some.injEq, Obj.cells.injEq] at hg
  exact hT hg.2.1
theorem OwnsM.gt {w : World} {b : Nat} {e : TypeId} {v : Value} {n : Nat} {xs : List Value} (h : OwnsM w b e v n xs) : ∀ k, v.ownBlock = some k → b ≤ k := by
  obtain ⟨_, g', cap, cur, fz, rfl, h3, _⟩ := h
  intro k hk
  simp only [Value.ownBlock, Option.some.injEq] at hk
  omega

theorem iput_any (x : Int) (wd : Nat) (w : World) (hw : wd = 0 ∨ (wd = 4 ∨ wd = 8)) : Calls Tryd.prog 15 #[.int .u64 (immN x : Int), .int .i64 (wd : Int)] w (GivesH wd (leB wd (immN x)) w) := by
  rcases hw with rfl | hw
  · exact (put_no (immN x) 0 w rfl).mono fun e w' h => by
      obtain ⟨rfl, rfl⟩ := h
      exact ⟨none, 0, rfl, rfl, Nat.le_refl _, Nat.zero_le _, Has.none_ _ _, Below.refl _ _⟩
  · have hv : immN x < 18446744073709551616 := by unfold immN; omega
    have hwid : wid (wd : Int) = true := (wid_iff _).2 (by omega)
    exact (put_yes (immN x) wd w hv hwid).mono fun e w' h => by
      have := h.toH
      rw [leB_length] at this
      exact this
theorem imm_wrap (x : Int) : IntKind.u64.wrap x = (immN x : Int) := by
  unfold immN
  simp [IntKind.wrap, IntKind.signed, IntKind.bits]
  omega
theorem byte_wraps (b r m : Int) : IntKind.u8.wrap (IntKind.i64.wrap (IntKind.i64.wrap (b + IntKind.i64.wrap (8 * r)) + m)) = ((byteI (b + 8 * r + m)).toNat : Int) := by
  unfold byteI
  rw [UInt8.toNat_ofNat']
  simp [IntKind.wrap, IntKind.signed, IntKind.bits]
  omega

set_option maxRecDepth 100000 in
set_option maxHeartbeats 4000000 in
theorem iencode_ok (x : Ins) (k : Nat) (s : Shp) (w : World) (hsh : Shapes w) (hk : k < 20) (hop : x.op = (k : Int) + 1) (hs : shapesL[k]? = some s) :
    Calls Tryd.prog 9 #[x.v] w (GivesH (enc x).length (enc x) w) := by
  have hb : Below w.heap.size w (w.alloc (.cells #[.int .i64 x.op, .int .i64 x.r, .int .i64 x.m, .int .i64 x.len, .int .i64 x.field, .int .i64 x.width, .int .i64 x.imm] 24)) := (Below.refl _ w).alloc (Nat.le_refl _) _
  obtain ⟨s0, s1, s2, s3, s4, s5⟩ := shape_cell (hsh.below hb (Nat.le_refl _)) k s hs
  have h1 : ¬ x.op < 1 := by omega
  have h2 : ¬ 20 < x.op := by omega
  have h3 : x.op - 1 = (k : Int) := by omega
  have h4 : IntKind.i64.wrap (k : Int) = (k : Int) := IntWalk.i64_in _ (by omega)
  have h5 : (k : Int) < 20 := by omega
  have h6 : (0 : Int) ≤ (k : Int) := by omega
  obtain ⟨g1, g2, g3, g4⟩ := shapes_ok k s hs
  have HRAW := Lib.hid (raw_of hop hs)
  have HNM := Lib.hid fun W => inames_any (str s.first) s.base s.width s.r s.m s.mem W
  have HPUT := Lib.hid fun W => iput_any x.imm s.width W g4
  have HSH := Lib.hid hsh
  have hi1 := imm_wrap x.imm
  have hby := byte_wraps s.base x.r x.m
  obtain ⟨a1, ha1⟩ : ∃ a, IntKind.i64.wrap (8 * x.r) = a := ⟨_, rfl⟩
  rw [ha1] at hby
  obtain ⟨a2, ha2⟩ : ∃ a, IntKind.i64.wrap ((s.base : Int) + a1) = a := ⟨_, rfl⟩
  rw [ha2] at hby
  obtain ⟨a3, ha3⟩ : ∃ a, IntKind.i64.wrap (a2 + x.m) = a := ⟨_, rfl⟩
  rw [ha3] at hby
  have hw8 : s.width ≤ 8 := by omega
  have hsb : Below w.heap.size w ((w.alloc (.cells #[.int .i64 x.op, .int .i64 x.r, .int .i64 x.m, .int .i64 x.len, .int .i64 x.field, .int .i64 x.width, .int .i64 x.imm] 24)).alloc (.cells #[.string (str s.first), .int .i64 (s.base : Int), .bool s.r, .bool s.m, .bool s.mem, .int .i64 (s.width : Int)] 37)) := hb.alloc (by simp) _
  have hrx : ((w.alloc (.cells #[.int .i64 x.op, .int .i64 x.r, .int .i64 x.m, .int .i64 x.len, .int .i64 x.field, .int .i64 x.width, .int .i64 x.imm] 24)).alloc (.cells #[.string (str s.first), .int .i64 (s.base : Int), .bool s.r, .bool s.m, .bool s.mem, .int .i64 (s.width : Int)] 37)).heap[w.heap.size]? = some (.cells #[.int .i64 x.op, .int .i64 x.r, .int .i64 x.m, .int .i64 x.len, .int .i64 x.field, .int .i64 x.width, .int .i64 x.imm] 24 (0, 0)) := by
    rw [Below.heap_alloc _ _ _ (by simp)]; exact heap_alloc_new w _
  have hrs : ((w.alloc (.cells #[.int .i64 x.op, .int .i64 x.r, .int .i64 x.m, .int .i64 x.len, .int .i64 x.field, .int .i64 x.width, .int .i64 x.imm] 24)).alloc (.cells #[.string (str s.first), .int .i64 (s.base : Int), .bool s.r, .bool s.m, .bool s.mem, .int .i64 (s.width : Int)] 37)).heap[w.heap.size + 1]? = some (.cells #[.string (str s.first), .int .i64 (s.base : Int), .bool s.r, .bool s.m, .bool s.mem, .int .i64 (s.width : Int)] 37 (0, 0)) := by
    have := heap_alloc_new (w.alloc (.cells #[.int .i64 x.op, .int .i64 x.r, .int .i64 x.m, .int .i64 x.len, .int .i64 x.field, .int .i64 x.width, .int .i64 x.imm] 24)) (.cells #[.string (str s.first), .int .i64 (s.base : Int), .bool s.r, .bool s.m, .bool s.mem, .int .i64 (s.width : Int)] 37)
    simpa using this
  have HSB := Lib.hid hsb
  have HRX := Lib.hid hrx
  have HRS := Lib.hid hrs
  obtain ⟨w1, hw1⟩ : ∃ w1 : World, w1 = ((w.alloc (.cells #[.int .i64 x.op, .int .i64 x.r, .int .i64 x.m, .int .i64 x.len, .int .i64 x.field, .int .i64 x.width, .int .i64 x.imm] 24)).alloc (.cells #[.string (str s.first), .int .i64 (s.base : Int), .bool s.r, .bool s.m, .bool s.mem, .int .i64 (s.width : Int)] 37)) := ⟨_, rfl⟩
  rw [← hw1] at HSB HRX HRS
  have HOP := Lib.hid hop
  clear hop hb hsb hrx hrs hsh g4
  obtain ⟨i0, hi, hz0, hz1, hz2⟩ := info_parts Tryd.infoU8
  have HI := Lib.hid hi
  have H0 := Lib.hid hz0
  have H1 := Lib.hid hz1
  have H2 := Lib.hid hz2
  clear hi hz0 hz1 hz2
  go_enter Tryd.func9, Tryd.ntmps9
  go_wp2_with fail
  rw [← hw1, run_bytes_of_string _ 9 22 5 _ Tryd.underlying9 Tryd.underlying22 Tryd.underlying5]
  have hown := owns_bytes w1 5 s.first (by omega)
  have hb1 : Below w.heap.size w (w1.drew.alloc (.cells (bytesRow (str s.first) (grownCap w1 (str s.first).size 0 5)) 5 ((bytesRow (str s.first) (grownCap w1 (str s.first).size 0 5)).size, (bytesRow (str s.first) (grownCap w1 (str s.first).size 0 5)).size + 1))) := HSB.out.drew.alloc (by exact HSB.out.size) _
  have hb2 : Below w1.heap.size w1 (w1.drew.alloc (.cells (bytesRow (str s.first) (grownCap w1 (str s.first).size 0 5)) 5 ((bytesRow (str s.first) (grownCap w1 (str s.first).size 0 5)).size, (bytesRow (str s.first) (grownCap w1 (str s.first).size 0 5)).size + 1))) := (Below.refl _ w1).drew.alloc (Nat.le_refl _) _
  have rx := row_later hb2 HRX.out
  have rs := row_later hb2 HRS.out
  have hgs : w.heap.size + 1 < w1.heap.size := (Array.getElem?_eq_some_iff.1 HRS.out).1
  generalize w1.drew.alloc (.cells (bytesRow (str s.first) (grownCap w1 (str s.first).size 0 5)) 5 ((bytesRow (str s.first) (grownCap w1 (str s.first).size 0 5)).size, (bytesRow (str s.first) (grownCap w1 (str s.first).size 0 5)).size + 1)) = w2 at *
  generalize grownCap w1 (str s.first).size 0 5 = c0 at *
  have HOWN := Lib.hid hown
  have HB1 := Lib.hid hb1
  have RX := Lib.hid rx
  have RS := Lib.hid rs
  obtain ⟨gn, hgn⟩ : ∃ gn, gn = w1.heap.size := ⟨_, rfl⟩
  rw [← hgn] at HOWN hgs ⊢
  clear hown hb1 hb2 HSB HRX HRS hw1 s0 s1 s2 s3 s4 s5 hgn
  clear w1
  obtain ⟨c0', c1, c2, c3, c4, c5⟩ := cells6r rs
  go_wp2_with fail
  refine (HNM.out _).mono ?_
  rintro e w3 ⟨rfl, hb3⟩
  have RX3 := Lib.hid (row_later hb3 rx)
  have RS3 := Lib.hid (row_later hb3 rs)
  have HB3 := Lib.hid (HB1.out.trans (hb3.mono HB1.out.size))
  have HO3 := Lib.hid ((HOWN.out.below hb3).lower (show w.heap.size ≤ gn by omega))
  clear hb3 c0' c1 c2 c3 c4 c5 rx rs RX RS HOWN HB1
  clear w2
  cases hnm : (s.r || s.m) with
  | false =>
    have hn2 : s.names = false := hnm
    have HNF := Lib.hid hn2
    clear hn2 hnm
    obtain ⟨c0', c1, c2, c3, c4, c5⟩ := cells6r RS3.out
    obtain ⟨⟨x0, x1, x2, x3, x4, x5, x6⟩, _⟩ := seven_cells RX3.out
    go_wp2_with fail
    refine (HPUT.out _).mono ?_
    rintro e w5 ⟨p5, q5, rfl, hl5, hn5, hm5, hH5, hb5⟩
    have RX5 := Lib.hid (row_later hb5 RX3.out)
    have RS5 := Lib.hid (row_later hb5 RS3.out)
    have HB5 := Lib.hid (HB3.out.trans (hb5.mono HB3.out.size))
    have HO5 := Lib.hid (HO3.out.below hb5)
    have HH5 := Lib.hid hH5
    have HL5 := Lib.hid hl5
    clear hb5 hH5 hl5 hn5 hm5 c0' c1 c2 c3 c4 c5 x0 x1 x2 x3 x4 x5 x6
    go_wp2_with (at_builtin; refine wpList_append_marked _ rfl (.tmp 38) (.tmp 44) 22 rfl w.heap.size 5 i0 Tryd.underlying22 HI.out H0.out H1.out H2.out _ s.first.length s.first rfl HO5.out p5 s.width q5 (leB s.width (immN x.imm)) rfl HH5.out HL5.out (by omega) HB5.out.size ?_)
    intro v6 w6 hown6 hgrow6
    have HR6 : Hid (raw x = s.first ++ leB s.width (immN x.imm)) := Lib.hid (by rw [HRAW.out]; unfold rawS; rw [if_neg (by rw [HNF.out]; exact Bool.false_ne_true), List.append_nil])
    have hown6' : OwnsM w6 w.heap.size 5 v6 (s.first.length + s.width) ((raw x).map u8v) := by rw [HR6.out]; simpa using hown6
    have RX6 : Hid (w6.heap[w.heap.size]? = some (.cells #[.int .i64 x.op, .int .i64 x.r, .int .i64 x.m, .int .i64 x.len, .int .i64 x.field, .int .i64 x.width, .int .i64 x.imm] 24 (0, 0))) := Lib.hid ((hgrow6.block _ (Array.getElem?_eq_some_iff.1 RX5.out).1 (HO5.out.block RX5.out (by decide))).trans RX5.out)
    have HB6 : Hid (Below w.heap.size w w6) := Lib.hid (HB5.out.grown hgrow6 HB5.out.size (fun g hg => HO5.out.gt g hg))
    obtain ⟨g6, q6, rfl, hg6, hg6l, hl6, hn6, hm6, hH6⟩ := hown6'.has
    have HDEC := Lib.hid (idecode_any (some ⟨g6, 0, none⟩) _ q6 (raw x) w6 (HSH.out.below HB6.out (Nat.le_refl _)) hH6 hl6 hn6 hm6)
    have HH6 := Lib.hid hH6
    have HL6 := Lib.hid hl6
    have HN6 := Lib.hid hn6
    have HM6 := Lib.hid hm6
    clear hown6 hown6' hgrow6 hl6 hn6 hm6 hH6 hg6 hg6l
    cases hdx : dec (raw x) with
    | none =>
      have HE : Hid (enc x = []) := Lib.hid (by unfold enc; rw [hdx]; rfl)
      rw [hdx] at HDEC
      simp only [optI, ins0] at HDEC
      clear hdx
      go_wp2_with fail
      refine HDEC.out.mono ?_
      rintro e w7 ⟨rfl, hb7⟩
      have HB7 := Lib.hid (HB6.out.trans (hb7.mono HB6.out.size))
      have RX7 := Lib.hid (row_later hb7 RX6.out)
      clear hb7
      go_wp2_with fail
      go_ret
      rw [HE.out]
      exact ⟨none, 0, rfl, rfl, Nat.le_refl _, Nat.zero_le _, Has.none_ _ _, HB7.out.alloc HB7.out.size _⟩
    | some y =>
      rw [hdx] at HDEC
      simp only [optI] at HDEC
      have HDX := Lib.hid hdx
      clear hdx
      go_wp2_with fail
      refine HDEC.out.mono ?_
      rintro e w7 ⟨rfl, hb7⟩
      have HB7 := Lib.hid (HB6.out.trans (hb7.mono HB6.out.size))
      have RX7 := Lib.hid (row_later hb7 RX6.out)
      have HH7 := Lib.hid (HH6.out.below hb7)
      clear hb7
      have hyr : (w7.alloc (.cells #[.int .i64 y.op, .int .i64 y.r, .int .i64 y.m, .int .i64 y.len, .int .i64 y.field, .int .i64 y.width, .int .i64 y.imm] 24)).heap[w7.heap.size]? = some (.cells #[.int .i64 y.op, .int .i64 y.r, .int .i64 y.m, .int .i64 y.len, .int .i64 y.field, .int .i64 y.width, .int .i64 y.imm] 24 (0, 0)) := heap_alloc_new w7 _
      have hb8 := (Below.refl w7.heap.size w7).alloc (Nat.le_refl _) (.cells #[.int .i64 y.op, .int .i64 y.r, .int .i64 y.m, .int .i64 y.len, .int .i64 y.field, .int .i64 y.width, .int .i64 y.imm] 24)
      have hxr := row_later hb8 RX7.out
      have HH8 := Lib.hid (HH7.out.below hb8)
      have HB8 := Lib.hid (HB7.out.alloc HB7.out.size (.cells #[.int .i64 y.op, .int .i64 y.r, .int .i64 y.m, .int .i64 y.len, .int .i64 y.field, .int .i64 y.width, .int .i64 y.imm] 24))
      go_upto_region 9 with fail
      obtain ⟨⟨y0, y1, y2, y3, y4, y5, y6⟩, _⟩ := seven_cells hyr
      obtain ⟨⟨x0, x1, x2, x3, x4, x5, x6⟩, _⟩ := seven_cells hxr
      generalize (w7.alloc (.cells #[.int .i64 y.op, .int .i64 y.r, .int .i64 y.m, .int .i64 y.len, .int .i64 y.field, .int .i64 y.width, .int .i64 y.imm] 24)) = w8 at *
      generalize w7.heap.size = gy at *
      clear hyr hxr hb8
      by_cases hyx : y = x
      · subst hyx
        have HE : Hid (enc y = raw y) := Lib.hid (by unfold enc; rw [if_pos HDX.out])
        go_wp2_with fail
        go_ret
        rw [HE.out]
        exact ⟨_, _, by rw [HL6.out]; rfl, rfl, by rw [HL6.out]; exact HN6.out, HM6.out, HH8.out, HB8.out⟩
      · have HE : Hid (enc x = []) := Lib.hid (by unfold enc; rw [if_neg (by rw [HDX.out]; exact fun e => hyx (Option.some.inj e))])
        go_wp2_with fail
        all_goals
          first
            | (go_ret
               rw [HE.out]
               exact ⟨none, 0, rfl, rfl, Nat.le_refl _, Nat.zero_le _, Has.none_ _ _, HB8.out⟩)
            | (exfalso
               apply hyx
               cases x
               cases y
               simp_all)
  | true =>
    have hn2 : s.names = true := hnm
    have HNF := Lib.hid hn2
    clear hn2 hnm
    obtain ⟨c0', c1, c2, c3, c4, c5⟩ := cells6r RS3.out
    obtain ⟨⟨x0, x1, x2, x3, x4, x5, x6⟩, _⟩ := seven_cells RX3.out
    have HA4 := fun o => (HO3.out.below ((Below.refl w3.heap.size w3).alloc (Nat.le_refl _) o))
    have HBA := fun o => HB3.out.alloc HB3.out.size o
    have HRA := fun o => row_later ((Below.refl w3.heap.size w3).alloc (Nat.le_refl _) o) RX3.out
    have HRSA := fun o => row_later ((Below.refl w3.heap.size w3).alloc (Nat.le_refl _) o) RS3.out
    obtain ⟨b0, hb0⟩ : ∃ b0, b0 = byteI ((s.base : Int) + 8 * x.r + x.m) := ⟨_, rfl⟩
    rw [← hb0] at hby
    have HQ : Hid (Has (w3.alloc (.cells #[.int .u8 (b0.toNat : Int)] 5)) (some ⟨w3.heap.size, 0, none⟩) [b0]) := Lib.hid (Has.of_plain fun i y hy => by
      match i, hy with
      | 0, hy =>
        simp at hy; subst hy
        simp
      | i + 1, hy => simp at hy)
    have HB0 := Lib.hid hb0
    clear hb0
    go_wp2_with (at_builtin; refine wpList_append_marked _ rfl (.tmp 25) (.tmp 36) 22 rfl w.heap.size 5 i0 Tryd.underlying22 HI.out H0.out H1.out H2.out _ s.first.length s.first rfl (HA4 _) (some ⟨w3.heap.size, 0, none⟩) 1 1 [b0] rfl HQ.out rfl (by omega) (HBA _).size ?_)
    intro v4 w4 hown4 hgrow4
    have RX4 : Hid (w4.heap[w.heap.size]? = some (.cells #[.int .i64 x.op, .int .i64 x.r, .int .i64 x.m, .int .i64 x.len, .int .i64 x.field, .int .i64 x.width, .int .i64 x.imm] 24 (0, 0))) := Lib.hid ((hgrow4.block _ (Array.getElem?_eq_some_iff.1 (HRA (.cells #[.int .u8 (b0.toNat : Int)] 5))).1 ((HA4 (.cells #[.int .u8 (b0.toNat : Int)] 5)).block (HRA (.cells #[.int .u8 (b0.toNat : Int)] 5)) (by decide))).trans (HRA (.cells #[.int .u8 (b0.toNat : Int)] 5)))
    have RS4 : Hid (w4.heap[w.heap.size + 1]? = some (.cells #[.string (str s.first), .int .i64 (s.base : Int), .bool s.r, .bool s.m, .bool s.mem, .int .i64 (s.width : Int)] 37 (0, 0))) := Lib.hid ((hgrow4.block _ (Array.getElem?_eq_some_iff.1 (HRSA (.cells #[.int .u8 (b0.toNat : Int)] 5))).1 ((HA4 (.cells #[.int .u8 (b0.toNat : Int)] 5)).block (HRSA (.cells #[.int .u8 (b0.toNat : Int)] 5)) (by decide))).trans (HRSA (.cells #[.int .u8 (b0.toNat : Int)] 5)))
    have HB4 : Hid (Below w.heap.size w w4) := Lib.hid ((HBA (.cells #[.int .u8 (b0.toNat : Int)] 5)).grown hgrow4 (HBA (.cells #[.int .u8 (b0.toNat : Int)] 5)).size (fun g hg => (HA4 (.cells #[.int .u8 (b0.toNat : Int)] 5)).gt g hg))
    have HO4 : Hid (OwnsM w4 w.heap.size 5 v4 (s.first.length + 1) ((s.first ++ [b0]).map u8v)) := Lib.hid (by simpa using hown4)
    clear hown4 hgrow4 HA4 HBA HRA HRSA HQ c0' c1 c2 c3 c4 c5 x0 x1 x2 x3 x4 x5 x6 RX3 RS3 HB3 HO3
    obtain ⟨c0', c1, c2, c3, c4, c5⟩ := cells6r RS4.out
    obtain ⟨⟨x0, x1, x2, x3, x4, x5, x6⟩, _⟩ := seven_cells RX4.out
    go_wp2_with fail
    refine (HPUT.out _).mono ?_
    rintro e w5 ⟨p5, q5, rfl, hl5, hn5, hm5, hH5, hb5⟩
    have RX5 := Lib.hid (row_later hb5 RX4.out)
    have RS5 := Lib.hid (row_later hb5 RS4.out)
    have HB5 := Lib.hid (HB4.out.trans (hb5.mono HB4.out.size))
    have HO5 := Lib.hid (HO4.out.below hb5)
    have HH5 := Lib.hid hH5
    have HL5 := Lib.hid hl5
    clear hb5 hH5 hl5 hn5 hm5 c0' c1 c2 c3 c4 c5 x0 x1 x2 x3 x4 x5 x6
    go_wp2_with (at_builtin; refine wpList_append_marked _ rfl (.tmp 38) (.tmp 44) 22 rfl w.heap.size 5 i0 Tryd.underlying22 HI.out H0.out H1.out H2.out _ (s.first.length + 1) (s.first ++ [b0]) rfl HO5.out p5 s.width q5 (leB s.width (immN x.imm)) rfl HH5.out HL5.out (by omega) HB5.out.size ?_)
    intro v6 w6 hown6 hgrow6
    have HR6 : Hid (raw x = (s.first ++ [b0]) ++ leB s.width (immN x.imm)) := Lib.hid (by rw [HRAW.out]; unfold rawS; rw [if_pos HNF.out, HB0.out])
    have hown6' : OwnsM w6 w.heap.size 5 v6 ((s.first.length + 1) + s.width) ((raw x).map u8v) := by rw [HR6.out]; simpa using hown6
    have RX6 : Hid (w6.heap[w.heap.size]? = some (.cells #[.int .i64 x.op, .int .i64 x.r, .int .i64 x.m, .int .i64 x.len, .int .i64 x.field, .int .i64 x.width, .int .i64 x.imm] 24 (0, 0))) := Lib.hid ((hgrow6.block _ (Array.getElem?_eq_some_iff.1 RX5.out).1 (HO5.out.block RX5.out (by decide))).trans RX5.out)
    have HB6 : Hid (Below w.heap.size w w6) := Lib.hid (HB5.out.grown hgrow6 HB5.out.size (fun g hg => HO5.out.gt g hg))
    obtain ⟨g6, q6, rfl, hg6, hg6l, hl6, hn6, hm6, hH6⟩ := hown6'.has
    have HDEC := Lib.hid (idecode_any (some ⟨g6, 0, none⟩) _ q6 (raw x) w6 (HSH.out.below HB6.out (Nat.le_refl _)) hH6 hl6 hn6 hm6)
    have HH6 := Lib.hid hH6
    have HL6 := Lib.hid hl6
    have HN6 := Lib.hid hn6
    have HM6 := Lib.hid hm6
    clear hown6 hown6' hgrow6 hl6 hn6 hm6 hH6 hg6 hg6l
    cases hdx : dec (raw x) with
    | none =>
      have HE : Hid (enc x = []) := Lib.hid (by unfold enc; rw [hdx]; rfl)
      rw [hdx] at HDEC
      simp only [optI, ins0] at HDEC
      clear hdx
      go_wp2_with fail
      refine HDEC.out.mono ?_
      rintro e w7 ⟨rfl, hb7⟩
      have HB7 := Lib.hid (HB6.out.trans (hb7.mono HB6.out.size))
      have RX7 := Lib.hid (row_later hb7 RX6.out)
      clear hb7
      go_wp2_with fail
      go_ret
      rw [HE.out]
      exact ⟨none, 0, rfl, rfl, Nat.le_refl _, Nat.zero_le _, Has.none_ _ _, HB7.out.alloc HB7.out.size _⟩
    | some y =>
      rw [hdx] at HDEC
      simp only [optI] at HDEC
      have HDX := Lib.hid hdx
      clear hdx
      go_wp2_with fail
      refine HDEC.out.mono ?_
      rintro e w7 ⟨rfl, hb7⟩
      have HB7 := Lib.hid (HB6.out.trans (hb7.mono HB6.out.size))
      have RX7 := Lib.hid (row_later hb7 RX6.out)
      have HH7 := Lib.hid (HH6.out.below hb7)
      clear hb7
      have hyr : (w7.alloc (.cells #[.int .i64 y.op, .int .i64 y.r, .int .i64 y.m, .int .i64 y.len, .int .i64 y.field, .int .i64 y.width, .int .i64 y.imm] 24)).heap[w7.heap.size]? = some (.cells #[.int .i64 y.op, .int .i64 y.r, .int .i64 y.m, .int .i64 y.len, .int .i64 y.field, .int .i64 y.width, .int .i64 y.imm] 24 (0, 0)) := heap_alloc_new w7 _
      have hb8 := (Below.refl w7.heap.size w7).alloc (Nat.le_refl _) (.cells #[.int .i64 y.op, .int .i64 y.r, .int .i64 y.m, .int .i64 y.len, .int .i64 y.field, .int .i64 y.width, .int .i64 y.imm] 24)
      have hxr := row_later hb8 RX7.out
      have HH8 := Lib.hid (HH7.out.below hb8)
      have HB8 := Lib.hid (HB7.out.alloc HB7.out.size (.cells #[.int .i64 y.op, .int .i64 y.r, .int .i64 y.m, .int .i64 y.len, .int .i64 y.field, .int .i64 y.width, .int .i64 y.imm] 24))
      go_upto_region 9 with fail
      obtain ⟨⟨y0, y1, y2, y3, y4, y5, y6⟩, _⟩ := seven_cells hyr
      obtain ⟨⟨x0, x1, x2, x3, x4, x5, x6⟩, _⟩ := seven_cells hxr
      generalize (w7.alloc (.cells #[.int .i64 y.op, .int .i64 y.r, .int .i64 y.m, .int .i64 y.len, .int .i64 y.field, .int .i64 y.width, .int .i64 y.imm] 24)) = w8 at *
      generalize w7.heap.size = gy at *
      clear hyr hxr hb8
      by_cases hyx : y = x
      · subst hyx
        have HE : Hid (enc y = raw y) := Lib.hid (by unfold enc; rw [if_pos HDX.out])
        go_wp2_with fail
        go_ret
        rw [HE.out]
        exact ⟨_, _, by rw [HL6.out]; rfl, rfl, by rw [HL6.out]; exact HN6.out, HM6.out, HH8.out, HB8.out⟩
      · have HE : Hid (enc x = []) := Lib.hid (by unfold enc; rw [if_neg (by rw [HDX.out]; exact fun e => hyx (Option.some.inj e))])
        go_wp2_with fail
        all_goals
          first
            | (go_ret
               rw [HE.out]
               exact ⟨none, 0, rfl, rfl, Nat.le_refl _, Nat.zero_le _, Has.none_ _ _, HB8.out⟩)
            | (exfalso
               apply hyx
               cases x
               cases y
               simp_all)

/-- What Encode gives of any instruction. -/
theorem iencode_any (x : Ins) (w : World) (hsh : Shapes w) : Calls Tryd.prog 9 #[x.v] w (GivesH (enc x).length (enc x) w) := by
  by_cases h : x.op < 1 ∨ 20 < x.op
  · rw [enc_bad h]
    exact iencode_bad x w h
  · have hk : (x.op - 1).toNat < 20 := by omega
    exact iencode_ok x (x.op - 1).toNat (shapesL[(x.op - 1).toNat]'hk) w hsh hk (by omega) (List.getElem?_eq_getElem hk)
end Go.Proofs.YtbedbkifdhjdfaaDoor
