/-
  The document's example of names.
  An argument of type []api.Obj: what it holds, and how it is opened.
-/
import Derived.Test.YthnkehdcolnegaaGreatNR45
import Derived.Test.YthnkehdcolnegaaGreatObjMem
namespace Go.Proofs.YthnkehdcolnegaaGreat
open Go.RowKit

theorem fold_heap : ∀ (os : List Obj) (w : World), Below w.heap.size w (os.foldl World.alloc w) ∧ ∀ i o, os[i]? = some o → (os.foldl World.alloc w).heap[w.heap.size + i]? = some o
  | [], w => ⟨Below.refl _ _, fun i o h => by simp at h⟩
  | x :: os, w => by
    obtain ⟨hb, hh⟩ := fold_heap os (w.alloc x)
    have h1 : (w.alloc x).heap.size = w.heap.size + 1 := by simp
    have hb1 : Below w.heap.size w (w.alloc x) := (Below.refl _ w).alloc (Nat.le_refl _) _
    refine ⟨hb1.trans (hb.mono (by omega)), fun i o h => ?_⟩
    cases i with
    | zero =>
      simp at h
      subst h
      exact (hb.block w.heap.size (by omega)).trans (heap_alloc_new w x)
    | succ j =>
      have := hh j o (by simpa using h)
      rw [h1] at this
      rwa [show w.heap.size + (j + 1) = w.heap.size + 1 + j by omega]
def upS : SecD := ⟨⟨#[]⟩, 1, 6, 1, 0, 0, 1, [195], []⟩
def upX : ObjD := ⟨[upS], [⟨⟨#[]⟩, 0, 0, 0, 0, 0⟩, ⟨⟨#[120]⟩, 2, 0, 1, 0, 0⟩], [], false, []⟩
def upY : ObjD := ⟨[upS], [⟨⟨#[]⟩, 0, 0, 0, 0, 0⟩, ⟨⟨#[120]⟩, 1, 0, 1, 1, 0⟩], [], false, []⟩
def upD : DefD := ⟨⟨#[120]⟩, 1, 1⟩
theorem up_may : (decide ([upX, upY].length ≤ 8) && [upX, upY].all mayO) = true := by kernel_rfl
theorem up_small : ∀ o ∈ [upX, upY], SmallD o := fun o ho => by
  rcases List.mem_cons.1 ho with rfl | ho
  · exact ⟨by decide, by decide, by decide, by decide, (fun s hs => by cases hs with | head => decide | tail _ h => cases h), (fun _ h => by cases h)⟩
  · rcases List.mem_cons.1 ho with rfl | ho
    · exact ⟨by decide, by decide, by decide, by decide, (fun s hs => by cases hs with | head => decide | tail _ h => cases h), (fun _ h => by cases h)⟩
    · cases ho
theorem up_ok : ∀ o ∈ [upX, upY], OkD o := fun o ho => by
  have hm := up_may
  simp only [Bool.and_eq_true, List.all_eq_true] at hm
  have := hm.2 o ho
  unfold mayO at this
  simp only [Bool.and_eq_true] at this
  exact okD_of this.1 (up_small o ho)
theorem up_go : ownGo (dropsOf [upX, upY]) (bindIn [upX, upY]) (allTo ObjD.syms [upX, upY] 2) [] = some [upD] := by kernel_rfl
theorem up_all : ((allTo ObjD.syms [upX, upY] 2).all fun x => x.2.2.bind != 1 || ([upD].find? fun e => sEq e.name x.2.2.name).isSome) = true := by kernel_rfl
theorem up_find : ([upD].find? fun e => sEq e.name ⟨#[120]⟩) = some upD := by kernel_rfl
theorem up_where : whereB [upX, upY] (dropsOf [upX, upY]) 0 1 = (⟨1, 1, 1⟩, 0) := by kernel_rfl
theorem up_tab {w : World} {n : Int} {v0 v1 : Value} (h : TabIs [upX, upY] true w n v0 v1) : n = 0 ∧ ∃ defs, DSorted defs ∧ defs.length ≤ 100000 ∧ (∀ name, findL defs name = [upD].find? fun e => sEq e.name name) ∧ (∀ name, findL defs name = findIn (allTo ObjD.syms [upX, upY] 2) (dropsOf [upX, upY]) name) ∧ IsTab w v0 v1 (dropsOf [upX, upY]) defs := by
  rcases h with ⟨h, _⟩ | ⟨_, ⟨h, _⟩ | ⟨ms, defs, h1, hs, hm, hr⟩⟩
  · cases h
  · have h : ownGo (dropsOf [upX, upY]) (bindIn [upX, upY]) (allTo ObjD.syms [upX, upY] 2) [] = none := h
    rw [up_go] at h
    cases h
  · have h1 : ownGo (dropsOf [upX, upY]) (bindIn [upX, upY]) (allTo ObjD.syms [upX, upY] 2) [] = some ms := h1
    rw [up_go] at h1
    cases h1
    have hap : Apart [upD] := List.pairwise_singleton _ _
    have hf := findL_of hap hs hm
    have hfi : ∀ name, findL defs name = findIn (allTo ObjD.syms [upX, upY] 2) (dropsOf [upX, upY]) name := fun name => by
      rcases tables_eq (xs := allTo ObjD.syms [upX, upY] 2) (D := dropsOf [upX, upY]) (bindOf := bindIn [upX, upY]) (bindIn_all (l := [upX, upY])) (defines_bind up_ok) with ⟨t1, _⟩ | ⟨m, rd, u, t1, _, _, _, _, tf, _⟩
      · rw [up_go] at t1
        cases t1
      · rw [up_go] at t1
        cases t1
        exact (hf name).trans (tf name)
    have hall : (allTo ObjD.syms [upX, upY] 2).all (defdB defs) = true := by
      rw [← up_all]
      congr 1
      funext x
      unfold defdB
      rw [hf]
    have hr : (allTo ObjD.syms [upX, upY] 2).all (defdB defs) = false ∧ _ ∨ (allTo ObjD.syms [upX, upY] 2).all (defdB defs) = true ∧ _ := hr
    rcases hr with ⟨r1, _⟩ | ⟨_, rfl, r2⟩
    · rw [hall] at r1
      cases r1
    · refine ⟨rfl, defs, hs, ?_, hf, hfi, r2⟩
      have hl : ∀ d ∈ defs, d = upD := fun d hd => by simpa using (hm d).1 hd
      match defs, hs, hl with
      | [], _, _ => simp
      | [_], _, _ => simp
      | a :: b :: r, hs, hl =>
        have e1 := hl a (by simp)
        have e2 := hl b (by simp)
        subst e1
        subst e2
        have := (List.pairwise_cons.1 hs).1 upD (by simp)
        rw [sLt_irrefl] at this
        cases this
theorem hasL_one {α : Type} {k : Nat} {E : World → Nat → Nat → α → Prop} {w : World} {b : Nat} {x : α} (h0 : E w b 0 x) : HasL k E w (some ⟨b, 0, none⟩) [x] := fun i z hz => by
  match i, hz with
  | 0, hz =>
    simp at hz
    subst hz
    exact ⟨b, 0, rfl, by rw [Nat.zero_mul]; exact h0⟩
  | i + 1, hz => simp at hz
theorem hasL_two {α : Type} {k : Nat} {E : World → Nat → Nat → α → Prop} {w : World} {b : Nat} {x y : α} (h0 : E w b 0 x) (h1 : E w b k y) : HasL k E w (some ⟨b, 0, none⟩) [x, y] := fun i z hz => by
  match i, hz with
  | 0, hz =>
    simp at hz
    subst hz
    exact ⟨b, 0, rfl, by rw [Nat.zero_mul]; exact h0⟩
  | 1, hz =>
    simp at hz
    subst hz
    exact ⟨b, 0, rfl, by rw [Nat.one_mul, Nat.zero_add]; exact h1⟩
  | i + 2, hz => simp at hz
theorem isL_nil0 {α : Type} {k : Nat} {E : World → Nat → Nat → α → Prop} {w : World} : IsL k E w (.slice none 0 0) ([] : List α) := ⟨none, 0, rfl, Nat.le_refl _, Nat.zero_le _, fun _ => rfl, fun i x hx => by simp at hx⟩
def upSecC (g : Nat) : Array Value := #[.string ⟨#[]⟩, .int .i64 1, .int .i64 6, .int .i64 1, .int .i64 0, .int .i64 0, .int .i64 1, .slice (some ⟨g, 0, none⟩) 1 1, .slice none 0 0]
def upSymC (b v : Int) : Array Value := #[.string ⟨#[]⟩, .int .i64 0, .int .i64 0, .int .i64 0, .int .i64 0, .int .i64 0, .string ⟨#[120]⟩, .int .i64 b, .int .i64 0, .int .i64 1, .int .i64 v, .int .i64 0]
def upObjC (a b : Nat) : Array Value := #[.slice (some ⟨a, 0, none⟩) 1 1, .slice (some ⟨b, 0, none⟩) 2 2, .slice none 0 0, .bool false, .slice none 0 0]
def upObj2C (a b c d : Nat) : Array Value := #[.slice (some ⟨a, 0, none⟩) 1 1, .slice (some ⟨b, 0, none⟩) 2 2, .slice none 0 0, .bool false, .slice none 0 0, .slice (some ⟨c, 0, none⟩) 1 1, .slice (some ⟨d, 0, none⟩) 2 2, .slice none 0 0, .bool false, .slice none 0 0]
def upOs (g : Nat) : List Obj := [.cells #[.int .u8 195] 5, .cells (upSecC g) 89, .cells (upSecC g) 89, .cells (upSymC 2 0) 98, .cells (upObjC (g + 2) (g + 3)) 27, .cells (upSecC g) 89, .cells (upSymC 1 1) 98, .cells (upObjC (g + 5) (g + 6)) 27, .cells (upObj2C (g + 2) (g + 3) (g + 5) (g + 6)) 27]
theorem up_secs {W : World} {g k : Nat} (k0 : W.heap[g]? = some (.cells #[.int .u8 195] 5 (0, 0))) (h : W.heap[k]? = some (.cells (upSecC g) 89 (0, 0))) : IsL 9 ESec W (.slice (some ⟨k, 0, none⟩) 1 1) [upS] := by
  refine ⟨_, 1, rfl, Nat.le_refl _, by unfold maxLen; omega, (fun h => by cases h), hasL_one ?_⟩
  refine ⟨⟨?_, ?_⟩, ⟨?_, ?_⟩, ⟨?_, ?_⟩, ⟨?_, ?_⟩, ⟨?_, ?_⟩, ⟨?_, ?_⟩, ⟨?_, ?_⟩, ⟨.slice (some ⟨g, 0, none⟩) 1 1, ?_, ⟨_, 1, rfl, Nat.le_refl _, by unfold maxLen; omega, (fun h => by cases h), hasL_one ?_⟩⟩, ⟨.slice none 0 0, ?_, isL_nil0⟩⟩
  all_goals first | exact (cell_of_row _ _ _ _ _ (0, 0) h).trans rfl | exact (cell_of_row _ _ _ _ _ (0, 0) k0).trans rfl | (refine ⟨?_, ?_⟩ <;> decide) | (show (0 : Nat) ≤ maxLen; exact Nat.zero_le _) | fail
theorem up_syms {W : World} {k : Nat} {b v : Int} (hb : i64bd b) (hv : i64bd v) (h : W.heap[k]? = some (.cells (upSymC b v) 98 (0, 0))) : IsL 6 ESym W (.slice (some ⟨k, 0, none⟩) 2 2) [⟨⟨#[]⟩, 0, 0, 0, 0, 0⟩, ⟨⟨#[120]⟩, b, 0, 1, v, 0⟩] := by
  refine ⟨_, 2, rfl, Nat.le_refl _, by unfold maxLen; omega, (fun h => by cases h), hasL_two ?_ ?_⟩
  · refine ⟨⟨?_, ?_⟩, ⟨?_, ?_⟩, ⟨?_, ?_⟩, ⟨?_, ?_⟩, ⟨?_, ?_⟩, ⟨?_, ?_⟩⟩
    all_goals first | exact (cell_of_row _ _ _ _ _ (0, 0) h).trans rfl | (refine ⟨?_, ?_⟩ <;> decide) | (show (0 : Nat) ≤ maxLen; exact Nat.zero_le _) | fail
  · refine ⟨⟨?_, ?_⟩, ⟨?_, hb⟩, ⟨?_, ?_⟩, ⟨?_, ?_⟩, ⟨?_, hv⟩, ⟨?_, ?_⟩⟩
    all_goals first | exact (cell_of_row _ _ _ _ _ (0, 0) h).trans rfl | (refine ⟨?_, ?_⟩ <;> decide) | (show (1 : Nat) ≤ maxLen; unfold maxLen; omega) | (dsimp only; exact ⟨by decide, by decide⟩) | fail
theorem up_has {W : World} {g : Nat} (H : ∀ i o, (upOs g)[i]? = some o → W.heap[g + i]? = some o) : HasL 5 EObj W (some ⟨g + 8, 0, none⟩) [upX, upY] := by
  have k0 := H 0 _ rfl
  have k2 := H 2 _ rfl
  have k3 := H 3 _ rfl
  have k5 := H 5 _ rfl
  have k6 := H 6 _ rfl
  have k8 := H 8 _ rfl
  refine hasL_two ?_ ?_
  · refine ⟨.slice (some ⟨g + 2, 0, none⟩) 1 1, .slice (some ⟨g + 3, 0, none⟩) 2 2, .slice none 0 0, .slice none 0 0, ?_, ?_, ?_, ?_, ?_, up_secs k0 k2, up_syms (by unfold i64bd; omega) (by unfold i64bd; omega) k3, isL_nil0, isL_nil0⟩
    all_goals exact (cell_of_row _ _ _ _ _ (0, 0) k8).trans rfl
  · refine ⟨.slice (some ⟨g + 5, 0, none⟩) 1 1, .slice (some ⟨g + 6, 0, none⟩) 2 2, .slice none 0 0, .slice none 0 0, ?_, ?_, ?_, ?_, ?_, up_secs k0 k5, up_syms (by unfold i64bd; omega) (by unfold i64bd; omega) k6, isL_nil0, isL_nil0⟩
    all_goals exact (cell_of_row _ _ _ _ _ (0, 0) k8).trans rfl
theorem up_res {W : World} {g : Nat} (h : HasL 5 EObj W (some ⟨g + 8, 0, none⟩) [upX, upY]) : Calls Tryz.prog 19 #[.slice (some ⟨g + 8, 0, none⟩) 2 2] W fun e w' => ∃ n v0 v1, e = .returned (.tuple #[.agg #[v0, v1], errV n]) ∧ TabIs [upX, upY] true w' n v0 v1 ∧ Below W.heap.size W w' := by
  have hok : ∀ o ∈ [upX, upY], OkD o := fun o ho => by
    have hm := up_may
    simp only [Bool.and_eq_true, List.all_eq_true] at hm
    have := hm.2 o ho
    unfold mayO at this
    simp only [Bool.and_eq_true] at this
    exact okD_of this.1 (up_small o ho)
  exact nResolve_any sortVals_ok _ 2 [upX, upY] W h true (fun _ => ⟨hok, by decide⟩)
    fun W2 hW2 => (nmay_any _ 2 [upX, upY] W2 (h.below EObj.keeps hW2) mayO fun o ho W3 v0 v1 v2 v4 hp => ownMay_any o v0 v1 v2 v4 W3 hp (up_small o ho)).mono fun e w' he => by rw [up_may] at he; exact he
set_option maxRecDepth 100000 in
set_option maxHeartbeats 4000000 in
theorem nup_any (w : World) : Calls Tryz.prog 17 #[] w fun e w' => e = .returned (.bool true) ∧ Below w.heap.size w w' := by
  obtain ⟨hb0, hH0⟩ := fold_heap (upOs w.heap.size) w
  have HB0 := Lib.hid hb0
  have HH0 := Lib.hid hH0
  clear hb0 hH0
  go_enter Tryz.func17, Tryz.ntmps17
  go_upto_region 5 with fail
  change Code.wp _ _ _ _ ((upOs w.heap.size).foldl World.alloc w)
  generalize (upOs w.heap.size).foldl World.alloc w = W at *
  generalize hgb : w.heap.size = g at *
  have HGB := Lib.hid hgb
  clear hgb
  have hh := up_has HH0.out
  have HHAS := Lib.hid hh
  have HR := Lib.hid (up_res hh)
  clear hh
  go_upto_region 6 with (first | (go_at_call 19; refine HR.out.mono ?_; rintro e w3 ⟨n1, v0, v1, rfl, ht1, hb3⟩; obtain ⟨y0, y1, y2, y3, y4, y5, hv0, hv1⟩ := tab_form ht1; rw [hv0, hv1] at ht1 ⊢; obtain ⟨hn1, hrest⟩ := up_tab ht1; rw [hn1, show errV 0 = .nilIface from rfl]) | fail)
  obtain ⟨defs, hsrt, hdl, hf, hfi, hi1⟩ := hrest
  have hA3 := heap_alloc_new w3 (.cells #[.slice y0 y1 y2, .slice y3 y4 y5] 49)
  have hb4 : Below w3.heap.size w3 (w3.alloc (.cells #[.slice y0 y1 y2, .slice y3 y4 y5] 49)) := (Below.refl _ w3).alloc (Nat.le_refl _) _
  have hW4 : Below W.heap.size W (w3.alloc (.cells #[.slice y0 y1 y2, .slice y3 y4 y5] 49)) := hb3.trans (hb4.mono hb3.size)
  generalize w3.alloc (.cells #[.slice y0 y1 y2, .slice y3 y4 y5] 49) = w4 at *
  obtain ⟨⟨_, _, e1, _, _, _, hd1⟩, ⟨_, _, e2, _, _, _, hf1⟩⟩ := hi1.below hb4
  clear hv0 hv1 hn1 ht1 hi1 hb4 hb3 n1 v0 v1
  generalize w3.heap.size = g3 at *
  cases e1
  cases e2
  have hFN : ∀ Q, Below w4.heap.size w4 Q → Calls Tryz.prog 23 #[.agg #[.slice y0 (dropsOf [upX, upY]).length y2, .slice y3 defs.length y5], .string ⟨#[120]⟩] Q fun e w' => e = .returned (.tuple #[.agg #[.string ⟨#[120]⟩, .int .i64 1, .int .i64 1], .bool true]) ∧ Below Q.heap.size Q w' := fun Q hQ => by
    have := nfind_any y3 defs.length y5 (.slice y0 (dropsOf [upX, upY]).length y2) defs ⟨#[120]⟩ Q (hf1.below EDef.keeps hQ) rfl hdl hsrt
    rw [hf, up_find] at this
    exact this
  have hWN : ∀ Q, Below w4.heap.size w4 Q → Calls Tryz.prog 25 #[.slice (some ⟨g + 8, 0, none⟩) 2 2, .agg #[.slice y0 (dropsOf [upX, upY]).length y2, .slice y3 defs.length y5], .int .i64 0, .int .i64 1] Q fun e w' => e = .returned (.tuple #[.agg #[.int .i64 1, .int .i64 1, .int .i64 1], .nilIface]) ∧ Below Q.heap.size Q w' := fun Q hQ => by
    have := nWhere_any (some ⟨g + 8, 0, none⟩) y0 y3 2 y2 defs.length y5 0 1 [upX, upY] (dropsOf [upX, upY]) defs Q ((HHAS.out.below EObj.keeps hW4).below EObj.keeps hQ) up_ok (drop_ok (hd1.below EBools.keeps hQ)) (hf1.below EDef.keeps hQ) rfl hdl hsrt hfi (by unfold i64bd; omega) (by unfold i64bd; omega)
    rw [up_where] at this
    exact this
  have HFN := Lib.hid hFN
  have HWN := Lib.hid hWN
  have HW4 := Lib.hid hW4
  have hs4 : g ≤ w4.heap.size := by have := HB0.out.size; have := hW4.size; first | omega | (rw [← HGB.out]; omega) | (have := HGB.out; omega)
  clear hFN hWN hW4 hf hfi hd1 hf1 hsrt hdl HHAS HR HH0
  generalize (dropsOf [upX, upY]).length = dn at *
  generalize defs.length = fn at *
  obtain ⟨⟨a0, a1⟩, _⟩ := pair_cells _ _ _ _ _ hA3
  clear hA3
  go_upto_region 7 with (first | (go_at_call 23; refine (HFN.out _ (Below.refl _ _)).mono ?_; rintro e w5 ⟨rfl, hb5⟩) | fail)
  have hA5 := heap_alloc_new w5 (.cells #[.string ⟨#[120]⟩, .int .i64 1, .int .i64 1] 60)
  have hb6 : Below w4.heap.size w4 (w5.alloc (.cells #[.string ⟨#[120]⟩, .int .i64 1, .int .i64 1] 60)) := hb5.alloc hb5.size _
  replace a0 := cell_later hb6 a0
  replace a1 := cell_later hb6 a1
  generalize w5.alloc (.cells #[.string ⟨#[120]⟩, .int .i64 1, .int .i64 1] 60) = w6 at *
  generalize w5.heap.size = g5 at *
  obtain ⟨⟨d0, d1, d2⟩, _⟩ := three_cells _ _ _ _ _ _ hA5
  clear hA5 hb5 HFN
  go_upto_region 8 with (first | (go_at_call 25; refine (HWN.out _ hb6).mono ?_; rintro e w7 ⟨rfl, hb7⟩) | fail)
  have hA7 := heap_alloc_new w7 (.cells #[.int .i64 1, .int .i64 1, .int .i64 1] 67)
  have hb8 : Below w6.heap.size w6 (w7.alloc (.cells #[.int .i64 1, .int .i64 1, .int .i64 1] 67)) := hb7.alloc hb7.size _
  replace d0 := cell_later hb8 d0
  replace d1 := cell_later hb8 d1
  replace d2 := cell_later hb8 d2
  generalize w7.alloc (.cells #[.int .i64 1, .int .i64 1, .int .i64 1] 67) = w8 at *
  generalize w7.heap.size = g7 at *
  obtain ⟨⟨s0, s1, s2⟩, _⟩ := three_cells _ _ _ _ _ _ hA7
  have hb48 := hb6.trans (hb8.mono hb6.size)
  clear hA7 hb7 hb8 hb6 HWN a0 a1
  go_wp2_with fail
  go_ret
  exact ⟨rfl, by first | exact (HB0.out.trans (HW4.out.mono (by first | exact HB0.out.size | (rw [← HGB.out]; exact HB0.out.size)))).trans (hb48.mono hs4) | (rw [HGB.out]; exact (HB0.out.trans (HW4.out.mono (by first | exact HB0.out.size | (rw [← HGB.out]; exact HB0.out.size)))).trans (hb48.mono hs4))⟩
end Go.Proofs.YthnkehdcolnegaaGreat

namespace Go.Proofs.YthnkehdcolnegaaGreat
open Go.ChangeShapes Go.WideShapes Go.RowKit Go.Deep

/-- v is the objects l. -/
def IsObjs (w : World) (v : Value) (l : List ObjD) : Prop := IsL 5 EObj w v l

section
variable {H : Type} {enc : TypeId × Value → H} {w : World} {base : Nat} {spare : Nat → Bool} {held : Bool}
theorem opens_obj : OpensE enc Tryz.prog w base spare held 5 27 EObj := fun n b o cs x hl hc h => by
  obtain ⟨v0, v1, v2, v4, ob, rfl, hp⟩ := open_parts h
  exact ⟨ob, v0, v1, v2, v4, hc 0 (by omega), hc 1 (by omega), hc 2 (by omega), hc 3 (by omega), hc 4 (by omega), hp⟩
/-- An argument of type []api.Obj. -/
theorem open_objs {fuel : Nat} {v : Value} {x : DataW H × List MemPlace} (h : DataW.trod enc Tryz.prog w base spare held fuel 44 [v] = some x) : ∃ l : List ObjD, IsObjs w v l :=
  open_L Tryz.underlying44 (by kernel_rfl) (by omega) opens_obj h
end
end Go.Proofs.YthnkehdcolnegaaGreat
