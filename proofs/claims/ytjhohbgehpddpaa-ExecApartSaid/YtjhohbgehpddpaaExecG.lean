/-
  Images of nothing, as the reference writes them; the law's example.
-/
import Derived.Test.YtjhohbgehpddpaaExecF
import Derived.Lib.IfaceEq
namespace Go.Proofs.Ytjhohbgehpddpaa
open Go.RowKit

abbrev graphC : Array Value := #[.slice none 0 0, z64, z64, .slice none 0 0]
theorem xb_7_len : (xbB 7 0).length = 64 := by kernel_rfl
def XWrote (w : World) (e : Ending) (w' : World) : Prop := ∃ p c, e = .returned (.tuple #[.slice p 64 c, .int .i64 0]) ∧ Has w' p (xbB 7 0) ∧ 64 ≤ c ∧ c ≤ maxLen ∧ Below w.heap.size w w'
set_option maxRecDepth 100000 in
set_option maxHeartbeats 4000000 in
theorem write_none (w : World) : Calls Try.prog 32 #[.agg graphC, .agg planC, .slice none 0 0] w (XWrote w) := by
  have HS := Lib.hid fun W => segs_none W
  have hB := fun W => xbegin_any 7 0 W (by omega) (by omega)
  have HB := Lib.hid hB
  have hg0 := heap_alloc_new w (.cells graphC 70)
  have hg1 := heap_alloc_new (w.alloc (.cells graphC 70)) (.cells planC 75)
  have hg2 := (Below.heap_alloc (w.alloc (.cells graphC 70)) (.cells planC 75) w.heap.size (by simp)).trans hg0
  have hb : Below w.heap.size w ((w.alloc (.cells graphC 70)).alloc (.cells planC 75)) := ((Below.refl _ w).alloc (Nat.le_refl _) _).alloc (by simp) _
  rw [show (w.alloc (.cells graphC 70)).heap.size = w.heap.size + 1 by simp] at hg1
  clear hg0 hB
  go_enter Try.func32, Try.ntmps32
  go_upto_region 1 with fail
  generalize (w.alloc (.cells graphC 70)).alloc (.cells planC 75) = w1 at *
  generalize hgb : w.heap.size = gb at *
  have HGB := Lib.hid hgb
  clear hgb
  go_wp2_with (first | (refine wpList_load_row rfl 75 _ rfl (gb + 1) rfl 75 planC (0, 0) _ hg1 Try.underlying75 rfl (by kernel_rfl) ?_) | fail)
  refine (HS.out _).mono ?_
  rintro e w2 ⟨rfl, hb2⟩
  have hs1 : gb + 1 < w1.heap.size := (Array.getElem?_eq_some_iff.1 hg1).1
  have hp2 := (hb2.block (gb + 1) hs1).trans hg1
  have hq2 := (hb2.block gb (by omega)).trans hg2
  have hbw2 := hb.trans (hb2.mono (by omega))
  have c33 : w2.cell? ⟨gb + 1, 33, none⟩ = some (.int .i64 7) := (cell_of_row _ _ _ _ _ (0, 0) hp2).trans rfl
  have hs2 : gb < w2.heap.size := (Array.getElem?_eq_some_iff.1 hq2).1
  clear hg1 hg2 hb hb2 hs1 hp2
  clear w1
  go_wp2_with fail
  refine (HB.out _).mono ?_
  rintro e w3 ⟨v3, rfl, ho3, hb3⟩
  rw [xb_7_len] at ho3
  obtain ⟨p3, cp3, rfl, h31, h32, _, hH3⟩ := Has.of_owns ho3
  have hq3 := (hb3.block gb hs2).trans hq2
  have hbw3 := hbw2.trans (hb3.mono (by omega))
  have c0 : w3.cell? ⟨gb, 0, none⟩ = some (.slice none 0 0) := (cell_of_row _ _ _ _ _ (0, 0) hq3).trans rfl
  have HH3 := Lib.hid hH3
  clear ho3 hq3 hq2 hb3 c33 hs2 hbw2
  clear w2
  go_wp2_with fail
  go_loop [9, 10] (fun r9 r10 => r9 = .slice p3 64 cp3 ∧ r10 = .int .i64 0) (fun _ _ => 0)
  case atStart => exact ⟨rfl, rfl⟩
  case round =>
    obtain ⟨rfl, rfl⟩ := hrel
    go_wp2_with fail
    go_loop [9, 11] (fun r9 r11 => r9 = .slice p3 64 cp3 ∧ r11 = .int .i64 0) (fun _ _ => 0)
    case atStart => exact ⟨rfl, rfl⟩
    case round =>
      obtain ⟨rfl, rfl⟩ := hrel
      go_wp2_with fail
      go_loop [9, 13] (fun r9 r13 => r9 = .slice p3 64 cp3 ∧ r13 = .int .i64 0) (fun _ _ => 0)
      case atStart => exact ⟨rfl, rfl⟩
      case round =>
        obtain ⟨rfl, rfl⟩ := hrel
        go_wp2_with fail
        exact bodyPost_ret (v := .tuple #[.slice p3 64 cp3, .int .i64 0]) (by simp [results, Try.results32, go_sem]) rfl ⟨p3, cp3, rfl, HH3.out, h31, h32, by rw [HGB.out]; exact hbw3⟩

theorem xb_7_loads : loadO (xbB 7 0) = some (7, []) := by kernel_rfl
theorem load_nil : loadO [] = none := by kernel_rfl
theorem xload_yes {l : List UInt8} {en : Nat} {segs : List SegD} (hl : loadO l = some (en, segs)) (p : Option Addr) (len cap : Nat) (w : World) (h : Has w p l) (hlen : l.length = len) (hcap : len ≤ cap) (hm : cap ≤ maxLen) (hbig : len ≤ 100000) :
    Calls Try.prog 20 #[.slice p len cap] w fun e w' => ∃ q c, e = .returned (.tuple #[.agg #[.int .i64 (en : Int), .slice q segs.length c], .nilIface]) ∧ SegsRow w.heap.size (.slice q segs.length c) segs w' ∧ segs.length ≤ c ∧ c ≤ maxLen ∧ (q = none → c = 0) ∧ Below w.heap.size w w' :=
  (xload_any p len cap l w h hlen hcap hm hbig).mono fun e w' ⟨v0, v1, er, he, hb, hc⟩ => by
    rcases hc with ⟨hn, _⟩ | ⟨en', segs', h1, h2, h3, h4⟩
    · rw [hn] at hl; cases hl
    · rw [h1] at hl
      cases hl
      obtain ⟨svs, e1, ho, hs⟩ := id h4
      obtain ⟨q, c, e2, h5, h6, h7⟩ := slice_form ho
      have hsl : svs.length = segs.length := by rw [← e1, List.length_map]
      rw [hsl] at e2 h5
      subst e2 h2 h3
      exact ⟨q, c, he, h4, h5, h6, h7, hb⟩
theorem xload_no {l : List UInt8} (hl : loadO l = none) (p : Option Addr) (len cap : Nat) (w : World) (h : Has w p l) (hlen : l.length = len) (hcap : len ≤ cap) (hm : cap ≤ maxLen) (hbig : len ≤ 100000) :
    Calls Try.prog 20 #[.slice p len cap] w fun e w' => e = .returned (.tuple #[.agg #[z64, .slice none 0 0], .iface 49 (.int .i64 2)]) ∧ Below w.heap.size w w' :=
  (xload_any p len cap l w h hlen hcap hm hbig).mono fun e w' ⟨v0, v1, er, he, hb, hc⟩ => by
    rcases hc with ⟨_, h2, h3, h4⟩ | ⟨en', segs', h1, _⟩
    · subst h2 h3 h4
      exact ⟨he, hb⟩
    · rw [hl] at h1; cases h1
theorem xcode_eq (a b : Int) (w : World) : (binOp .eql 44 (.iface 49 (.int .i64 a)) (.iface 49 (.int .i64 b))).run Try.prog w = .ok (.bool (a == b)) w :=
  Lib.run_eql_iface_int w a b Try.underlying44 (by kernel_rfl) Try.underlying49

set_option maxRecDepth 100000 in
set_option maxHeartbeats 4000000 in
theorem xup_any (w : World) : Calls Try.prog 19 #[] w fun e w' => e = .returned (.bool true) ∧ Below w.heap.size w w' := by
  have HW := Lib.hid fun W => write_none W
  have HL := Lib.hid fun (p : Option Addr) (c : Nat) (W : World) (h : Has W p (xbB 7 0)) (h1 : 64 ≤ c) (h2 : c ≤ maxLen) => xload_yes xb_7_loads p 64 c W h xb_7_len h1 h2 (by omega)
  have HN := Lib.hid fun (W : World) => xload_no load_nil none 0 0 W (Has.none_ _ _) rfl (Nat.le_refl _) (Nat.zero_le _) (by omega)
  go_enter Try.func19, Try.ntmps19
  go_wp2_with fail
  refine (HW.out _).mono ?_
  rintro e w1 ⟨p, c, rfl, hh, h1, h2, hb1⟩
  have hl := HL.out p c w1 hh h1 h2
  go_wp2_with fail
  refine hl.mono ?_
  rintro e w2 ⟨q, cq, rfl, _, hc1, hc2, hc3, hb2⟩
  have hbw2 := hb1.trans (hb2.mono hb1.size)
  have hs2 := hbw2.size
  have hg := heap_alloc_new w2 (.cells #[.int .i64 7, .slice q 0 cq] 42)
  have hbw3 : Below w.heap.size w (w2.alloc (.cells #[.int .i64 7, .slice q 0 cq] 42)) := hbw2.alloc hs2 _
  go_upto_region 3 with fail
  generalize w2.alloc (.cells #[.int .i64 7, .slice q 0 cq] 42) = w3 at *
  generalize hg2 : w2.heap.size = g2 at *
  obtain ⟨⟨c0, c1⟩, _⟩ := cells2 _ _ _ _ _ hg
  have hn := HN.out w3
  clear hl hb2 hb1 hg hbw2 hg2
  go_wp2_with fail
  refine hn.mono ?_
  rintro e w4 ⟨rfl, hb4⟩
  have hbw4 := hbw3.trans (hb4.mono hbw3.size)
  have hbw5 : Below w.heap.size w (w4.alloc (.cells #[z64, .slice none 0 0] 42)) := hbw4.alloc hbw4.size _
  have hb45 : Below w3.heap.size w3 (w4.alloc (.cells #[z64, .slice none 0 0] 42)) := hb4.alloc hb4.size _
  have d0 := cell_later hb45 c0
  have d1 := cell_later hb45 c1
  go_upto_region 4 with fail
  generalize w4.alloc (.cells #[z64, .slice none 0 0] 42) = w5 at *
  have hq := xcode_eq 2 2 w5
  clear hbw4 hb4 hb45 c0 c1 hn hbw3
  go_wp2_with fail
  go_ret
  exact ⟨rfl, hbw5⟩
end Go.Proofs.Ytjhohbgehpddpaa
