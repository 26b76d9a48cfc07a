/-
  Parts of a proof.
-/
import Derived.Test.YteopgmieindojaaGreatGW43
import Derived.Test.YteopgmieindojaaGreatGW44
import Derived.Test.YteopgmieindojaaGreatGW33
import Derived.Test.YteopgmieindojaaGreatGW45
import Derived.Test.YteopgmieindojaaGreatGW12
import Derived.Lib.IfaceEq
import Derived.Test.YteopgmieindojaaGreatGW16
import Derived.Test.YteopgmieindojaaGreatObjMem
namespace Go.Proofs.YteopgmieindojaaGreat
open Go.RowKit
theorem hasL_one {α : Type} {k : Nat} {E : World → Nat → Nat → α → Prop} {w : World} {b : Nat} {x : α} (h0 : E w b 0 x) : HasL k E w (some ⟨b, 0, none⟩) [x] := fun i z hz => by
 match i, hz with
 | 0, hz =>
  simp at hz
  subst hz
  exact ⟨b, 0, rfl, by rw [Nat.zero_mul]; exact h0⟩
 | i + 1, hz => simp at hz
theorem hasL_two {α : Type} {k : Nat} {E : World → Nat → Nat → α → Prop} {w : World} {b : Nat} {x y : α} (h0 : E w b 0 x) (h1 : E w b k y) : HasL k E w (some ⟨b, 0, none⟩) [x, y] := fun i z hz => by
 match i, hz with
 | 0, hz =>
  simp at hz
  subst hz
  exact ⟨b, 0, rfl, by rw [Nat.zero_mul]; exact h0⟩
 | 1, hz =>
  simp at hz
  subst hz
  exact ⟨b, 0, rfl, by rw [Nat.one_mul, Nat.zero_add]; exact h1⟩
 | i + 2, hz => simp at hz
theorem isL_nil0 {α : Type} {k : Nat} {E : World → Nat → Nat → α → Prop} {w : World} : IsL k E w (.slice none 0 0) ([] : List α) := ⟨none, 0, rfl, Nat.le_refl _, Nat.zero_le _, fun _ => rfl, fun i x hx => by simp at hx⟩
end Go.Proofs.YteopgmieindojaaGreat

namespace Go.Proofs.YteopgmieindojaaGreat
open Go.RowKit
def mbOf (l : List ObjD) : Bool := decide (l.length ≤ 8) && l.all mayO
theorem mbOf_may {l : List ObjD} (h : mbOf l = true) : ∀ o ∈ l, mayO o = true := by
 unfold mbOf at h
 simp only [Bool.and_eq_true, List.all_eq_true] at h
 exact h.2
theorem mbOf_ok {l : List ObjD} (hs : ∀ o ∈ l, SmallD o) (h : mbOf l = true) : ∀ o ∈ l, OkD o := fun o ho => by
 have := mbOf_may h o ho
 unfold mayO at this
 simp only [Bool.and_eq_true] at this
 exact okD_of this.1 (hs o ho)
theorem gBuild_few (p : Option Addr) (c : Nat) (l : List ObjD) (entry : ByteArray) (w : World) (h : HasL 5 EObj w p l) (hl : l.length ≤ 10) (hs : ∀ o ∈ l, SmallD o) :
  Calls Tryz.prog 28 #[.slice p l.length c, .string entry] w (GivesG (buildB l (mbOf l) entry) w) := by
 refine gBuild_any pfind_ok p c l (mbOf l) entry w h hl (mbOf_ok hs) (fun hm => secsG_of h (mbOf_may hm)) fun W hW => ?_
 exact nResolve_any sortVals_ok p c l W (h.below EObj.keeps hW) _ (fun hm => ⟨mbOf_ok hs hm, by unfold mbOf at hm; simp only [Bool.and_eq_true, decide_eq_true_eq] at hm; exact hm.1⟩)
  fun W2 hW2 => nmay_any p c l W2 ((h.below EObj.keeps hW).below EObj.keeps hW2) mayO fun o ho W3 v0 v1 v2 v4 hp => ownMay_any o v0 v1 v2 v4 W3 hp (hs o ho)
def nmText : ByteArray := ⟨#[46, 116, 101, 120, 116]⟩
def nmF : ByteArray := ⟨#[102]⟩
def nmG : ByteArray := ⟨#[103]⟩
def gR : RelD := ⟨0, 1, 1, 3⟩
def gS : SecD := ⟨nmText, 1, 6, 1, 0, 0, 8, [195, 0, 0, 0, 0, 0, 0, 0], [gR]⟩
def gO : ObjD := ⟨[gS], [⟨⟨#[]⟩, 0, 0, 0, 0, 0⟩, ⟨nmF, 1, 0, 1, 0, 0⟩], [], false, []⟩
def gN : NodeD := ⟨0, 1, 0, nmText, 1, 6, 1, 0, 8, [195, 0, 0, 0, 0, 0, 0, 0], [⟨0, 1, 3, 0, 0⟩], true, 0, 0⟩
def gG : GraphD := ⟨[gN], 0, 0, [⟨nmF, 0, 0⟩]⟩
theorem gO_small : ∀ o ∈ [gO], SmallD o := fun o ho => by
 rcases List.mem_cons.1 ho with rfl | ho
 ·exact ⟨by decide, by decide, by decide, by decide, (fun s hs => by cases hs with | head => decide | tail _ h => cases h), (fun _ h => by cases h)⟩
 ·cases ho
theorem gO_f : buildB [gO] (mbOf [gO]) nmF = (some gG, 0) := by kernel_rfl
theorem gO_g : buildB [gO] (mbOf [gO]) nmG = (none, 5) := by kernel_rfl
end Go.Proofs.YteopgmieindojaaGreat

namespace Go.Proofs.YteopgmieindojaaGreat
open Go.RowKit
theorem fine_of {l : List ObjD} {D : List (List Bool)} (hsg : SecsG l) (hv : ValsG l) (he : errB l D = 0) {i : Nat} {y : NodeD} (h : (nodesOf l D (secsTo l))[i]? = some y) : ∃ a k o s, l[a]? = some o ∧ o.secs[k]? = some s ∧ Fine (nodesOf l D (secsTo l)) i y a k s := by
 obtain ⟨a, k, j, o, s, p, H⟩ := node_at h
 have hG := hsg o (List.mem_of_getElem? H.ho) s (List.mem_of_getElem? H.hs)
 obtain ⟨q1, q2, q3, q4⟩ := piece_at hG.facts H.hp
 have hal : hasF s.flags 2 = true := by
  have := H.has
  unfold hasN at this
  simp only [Bool.and_eq_true] at this
  exact this.1
 have hfl : 0 ≤ s.flags := by
  unfold hasF at hal
  simp only [Bool.and_eq_true, decide_eq_true_eq] at hal
  exact hal.1
 have hjl := (List.getElem?_eq_some_iff.1 H.hp).1
 have hyN := (List.getElem?_eq_some_iff.1 h).1
 have ey := H.hy
 refine ⟨a, k, o, s, H.ho, H.hs, ?_, ?_, ?_, ?_, ?_, ?_, ?_, ?_, ?_, ?_, ?_, ?_⟩
 ·rw [ey]; rfl
 ·rw [ey]; rfl
 ·rw [ey]; rfl
 ·rw [ey]; rfl
 ·exact (hasO_eq 1 (by decide) hfl hG.bd.1.2).trans hal
 ·rw [ey]; exact ⟨q3.1, q3.2.1, q3.2.2, hG.facts.1.2⟩
 ·intro hm
  rw [ey]
  refine ⟨?_, ?_⟩
  ·show uniqB l D (a, k, s) = false
   unfold uniqB
   rw [show hasF ((a, k, s) : Sx).2.2.flags 16 = true from hm]
   rfl
  ·show edgesN l D (a, k, s) = []
   unfold edgesN relsN
   rw [show hasF ((a, k, s) : Sx).2.2.flags 16 = true from hm]
   rfl
 ·intro hm
  rw [ey]
  show (edgesN l D (a, k, s)).length = _
  unfold edgesN
  rw [List.length_map, show relsN ((a, k, s) : Sx).2.2 = s.rels from relsN_eq hG]
 ·rcases hG.kind with ⟨h1, h2⟩ | ⟨h1, h2⟩
  ·left
   refine ⟨h1, ?_, h2⟩
   rw [ey]
   show dataN s p = _
   unfold dataN
   rw [show (s.type == 1) = true by simp [h1]]
   rfl
  ·right
   refine ⟨h1, ?_⟩
   rw [ey]
   show dataN s p = _
   unfold dataN
   rw [show (s.type == 1) = false by simp [h1]]
   rfl
 ·intro j' e hj'
  rw [ey] at hj'
  have hj' : (edgesN l D (a, k, s))[j']? = some e := hj'
  unfold edgesN at hj'
  rw [show relsN ((a, k, s) : Sx).2.2 = s.rels from relsN_eq hG, List.getElem?_map] at hj'
  cases hr : s.rels[j']? with
  | none => rw [hr] at hj'; cases hj'
  | some r =>
   rw [hr] at hj'
   cases hj'
   have hz := edges_good he H r (by rw [relsN_eq hG]; exact List.mem_of_getElem? hr)
   exact ⟨r, rfl, edge_good hv hz⟩
 ·intro z hz
  have hyp : y.pos = p.at_ := by rw [ey]; rfl
  have hyo : y.obj = (a : Int) := by rw [ey]; rfl
  have hys : y.sec = (k : Int) + 1 := by rw [ey]; rfl
  by_cases hj : j = 0
  ·refine ⟨⟨fun _ => ?_, fun _ => by rw [hyp]; exact q1.2 hj⟩, fun hn => absurd (by rw [hyp]; exact q1.2 hj) hn⟩
   rcases H.first hj with h0 | ⟨z', hz', hne⟩
   ·exact .inl h0
   ·rw [hz] at hz'
    cases hz'
    rw [hyo, hys]
    exact .inr hne
  ·obtain ⟨q, hq⟩ : ∃ q, (piecesOf s)[j - 1]? = some q := ⟨_, List.getElem?_eq_getElem (by omega)⟩
   have hz2 := H.prev q (by omega) hq
   rw [hz] at hz2
   cases hz2
   have hi := H.hi
   refine ⟨⟨fun h0 => absurd (q1.1 (by rw [← hyp]; exact h0)) hj, fun hh => ?_⟩, fun _ => ?_⟩
   ·rcases hh with hh | hh | hh
    ·omega
    ·rw [hyo] at hh; exact absurd rfl hh
    ·rw [hys] at hh; exact absurd rfl hh
   ·rw [hyp]; exact q4 q (by omega) hq
 ·intro z hz
  have hyp : y.pos = p.at_ := by rw [ey]; rfl
  have hyz : y.size = p.size := by rw [ey]; rfl
  have hyo : y.obj = (a : Int) := by rw [ey]; rfl
  have hys : y.sec = (k : Int) + 1 := by rw [ey]; rfl
  rw [hyp, hyz]
  by_cases hj : j + 1 = (piecesOf s).length
  ·refine ⟨fun _ => ?_, fun _ => q2.2 hj⟩
   rcases H.last hj with h0 | ⟨z', hz', hne⟩
   ·exact .inl h0
   ·have hl := (List.getElem?_eq_some_iff.1 hz').1
    rw [show min (i + 1) ((nodesOf l D (secsTo l)).length - 1) = i + 1 by omega, hz'] at hz
    cases hz
    rw [hyo, hys]
    exact .inr hne
  ·obtain ⟨q, hq⟩ : ∃ q, (piecesOf s)[j + 1]? = some q := ⟨_, List.getElem?_eq_getElem (by omega)⟩
   have hz2 := H.next q hq
   have hl := (List.getElem?_eq_some_iff.1 hz2).1
   rw [show min (i + 1) ((nodesOf l D (secsTo l)).length - 1) = i + 1 by omega, hz2] at hz
   cases hz
   refine ⟨fun h0 => absurd (q2.1 h0) hj, fun hh => ?_⟩
   rcases hh with hh | hh | hh
   ·omega
   ·rw [hyo] at hh; exact absurd rfl hh
   ·rw [hys] at hh; exact absurd rfl hh
theorem vals_g {l : List ObjD} (hm : ∀ o ∈ l, mayO o = true) : ValsG l := fun o ho y hy => by
 obtain ⟨k, hk⟩ := List.getElem?_of_mem hy
 have h1 := hm o ho
 unfold mayO shapeB at h1
 simp only [Bool.and_eq_true] at h1
 have h2 := eachB_yes h1.1.1.2 hk
 unfold symOK at h2
 cases k with
 | zero =>
  simp only at h2
  unfold sym0B at h2
  simp only [Bool.and_eq_true, beq_iff_eq] at h2
  omega
 | succ j =>
  have hjl := (List.getElem?_eq_some_iff.1 hk).1
  simp only at h2
  rw [List.getElem?_eq_getElem (by omega)] at h2
  simp only at h2
  unfold symNB at h2
  obtain ⟨_, h2⟩ := cond_false_of h2
  obtain ⟨h3, _⟩ := cond_false_of h2
  simp only [Bool.or_eq_false_iff, decide_eq_false_iff_not] at h3
  omega
theorem resB_sorted {l : List ObjD} {mb : Bool} (hlen : l.length ≤ 10) (hok : mb = true → ∀ o ∈ l, OkD o) (h : (resB l mb).1 = 0) : mb = true ∧ DSorted (resB l mb).2 ∧ (resB l mb).2.length ≤ 100000 := by
 unfold resB at h ⊢
 cases mb with
 | false => simp at h
 | true =>
  refine ⟨rfl, ?_⟩
  rcases tables_eq (xs := allTo ObjD.syms l l.length) (D := dropsOf l) (bindOf := bindIn l) bindIn_all (defines_bind (hok rfl)) with ⟨t1, t2⟩ | ⟨m, rd, u, t1, t2, ta, ts, te, tf, tg, tu⟩
  ·rw [t2] at h; simp at h
  ·have hlt := refGo_len t2
   have hl2 := all_len (hok rfl) l.length
   simp only [List.length_nil] at hlt
   rw [t2] at h ⊢
   cases u with
   | true => simp at h
   | false => exact ⟨ts, by show rd.length ≤ _; omega⟩
theorem g_fine {w : World} {p : Option Addr} {l : List ObjD} (hl : HasL 5 EObj w p l) (hlen : l.length ≤ 10) (hs : ∀ o ∈ l, SmallD o) (entry : ByteArray) :
  (∃ e, buildB l (mbOf l) entry = (none, e) ∧ e ≠ 0) ∨ (∃ g, buildB l (mbOf l) entry = (some g, 0) ∧ GFine l g) := by
 by_cases hr : (resB l (mbOf l)).1 = 0
 ·obtain ⟨hm, hd, hdl⟩ := resB_sorted hlen (mbOf_ok hs) hr
  have hsg := secsG_of hl (mbOf_may hm)
  have hv := vals_g (mbOf_may hm)
  rw [buildB_good hr]
  unfold graphB
  by_cases he : errB l (dropsOf l) = 0
  ·rw [if_neg (by omega)]
   cases hf : (namesB l (dropsOf l) (resB l (mbOf l)).2).find? fun n => sEq n.name entry with
   | none => exact .inl ⟨5, rfl, by omega⟩
   | some n =>
    refine .inr ⟨_, rfl, fun i y hy => fine_of hsg hv he hy, names_good, ?_, names_sorted hd, ?_⟩
    ·exact names_good n (List.mem_of_find?_eq_some hf)
    ·show (namesB l (dropsOf l) (resB l (mbOf l)).2).length ≤ _
     unfold namesB
     have := List.length_filterMap_le (gnameB l (dropsOf l)) (resB l (mbOf l)).2
     omega
  ·rw [if_pos he]
   exact .inl ⟨_, rfl, he⟩
 ·rw [buildB_bad hr]
  exact .inl ⟨_, rfl, hr⟩
end Go.Proofs.YteopgmieindojaaGreat

namespace Go.Proofs.YteopgmieindojaaGreat
open Go.RowKit
abbrev gBytesC : Array Value := #[.int .u8 195, .int .u8 0, .int .u8 0, .int .u8 0, .int .u8 0, .int .u8 0, .int .u8 0, .int .u8 0]
abbrev gRelC : Array Value := #[.int .i64 0, .int .i64 1, .int .i64 1, .int .i64 3]
abbrev gSecC (gd gr : Nat) : Array Value := #[.string nmText, .int .i64 1, .int .i64 6, .int .i64 1, .int .i64 0, .int .i64 0, .int .i64 8, .slice (some ⟨gd, 0, none⟩) 8 8, .slice (some ⟨gr, 0, none⟩) 1 1]
theorem results_sec {fn : Func} {p : Tmp} (h : fn.results = #[.cell p 89]) (tmps : Array Value) (w : World) (g : Nat) (v0 v1 v2 v3 v4 v5 v6 v7 v8 : Value) (hp : tmps.getD p undef = .pointer (some ⟨g, 0, none⟩))
  (hg : w.heap[g]? = some (.cells #[v0, v1, v2, v3, v4, v5, v6, v7, v8] 89 (0, 0))) : (results fn tmps).run Tryz.prog w = .ok (.agg #[v0, v1, v2, v3, v4, v5, v6, v7, v8]) w := by
 have hc : ∀ j v, (#[v0, v1, v2, v3, v4, v5, v6, v7, v8] : Array Value)[j]? = some v → w.cell? ⟨g, j, none⟩ = some v := fun j v hv => (cell_of_row w g j _ _ (0, 0) hg).trans hv
 have r0 := hc 0 _ rfl
 have r1 := hc 1 _ rfl
 have r2 := hc 2 _ rfl
 have r3 := hc 3 _ rfl
 have r4 := hc 4 _ rfl
 have r5 := hc 5 _ rfl
 have r6 := hc 6 _ rfl
 have r7 := hc 7 _ rfl
 have r8 := hc 8 _ rfl
 clear hc
 have hp2 : tmps[p]?.getD undef = .pointer (some ⟨g, 0, none⟩) := by simpa using hp
 simp [results, h, hp2, go_sem, r0, r1, r2, r3, r4, r5, r6, r7, r8]
theorem Tryz.sizeSec : (Tryz.prog.info? 89).map (·.size) = some 9 := by kernel_rfl
theorem nine_all (a : ByteArray) (b c d e f g : Int) (p q : Option Addr) (n m k l : Nat) : (#[Value.string a, .int .i64 b, .int .i64 c, .int .i64 d, .int .i64 e, .int .i64 f, .int .i64 g, .slice p n m, .slice q k l] : Array Value).all (·.oneCell') = true := by simp [Value.oneCell']
set_option maxRecDepth 100000 in
set_option maxHeartbeats 4000000 in
theorem gCode_any (gr : Nat) (w : World) : Calls Tryz.prog 67 #[.slice (some ⟨gr, 0, none⟩) 1 1] w fun e w' => ∃ gd, e = .returned (.agg (gSecC gd gr)) ∧ w'.heap[gd]? = some (.cells gBytesC 5 (0, 0)) ∧ Below w.heap.size w w' := by
 have hZ := heap_alloc_new w (.cells #[.string ⟨#[]⟩, .int .i64 0, .int .i64 0, .int .i64 0, .int .i64 0, .int .i64 0, .int .i64 0, .slice none 0 0, .slice none 0 0] 89)
 have hb1 : Below w.heap.size w (w.alloc (.cells #[.string ⟨#[]⟩, .int .i64 0, .int .i64 0, .int .i64 0, .int .i64 0, .int .i64 0, .int .i64 0, .slice none 0 0, .slice none 0 0] 89)) := (Below.refl _ w).alloc (Nat.le_refl _) _
 obtain ⟨gb, hgb⟩ : ∃ gb, gb = w.heap.size := ⟨_, rfl⟩
 have HGB := Lib.hid hgb
 rw [← hgb] at hZ hb1
 have HB1 := Lib.hid hb1
 have HZ := Lib.hid hZ
 clear hgb hb1 hZ
 go_enter Tryz.func67, Tryz.ntmps67
 go_upto_region 1 with fail
 generalize w.alloc (.cells #[.string ⟨#[]⟩, .int .i64 0, .int .i64 0, .int .i64 0, .int .i64 0, .int .i64 0, .int .i64 0, .slice none 0 0, .slice none 0 0] 89) = w1 at *
 rw [← HGB.out]
 have hD := heap_alloc_new w1 (.cells gBytesC 5)
 have hb2 : Below w1.heap.size w1 (w1.alloc (.cells gBytesC 5)) := (Below.refl _ w1).alloc (Nat.le_refl _) _
 have hgs : gb < w1.heap.size := (Array.getElem?_eq_some_iff.1 HZ.out).1
 have hZ2 := (hb2.block gb hgs).trans HZ.out
 have hset := set_whole (gSecC w1.heap.size gr) (Nat.le_refl gb) hZ2
 have HST := Lib.hid hset
 have HD := Lib.hid (hset.2.heap hD (by decide))
 have HB := Lib.hid ((HB1.out.trans (hb2.mono (Nat.le_of_lt hgs))).trans (hset.2.below (by simp; omega)))
 have HZ2 := Lib.hid hZ2
 have HSZ := Lib.hid Tryz.sizeSec
 clear hset hZ2 hD hb2
 go_wp2_with (first | (refine wpList_store_row rfl 89 _ _ rfl gb (gSecC w1.heap.size gr) rfl rfl 89 #[.string ⟨#[]⟩, .int .i64 0, .int .i64 0, .int .i64 0, .int .i64 0, .int .i64 0, .int .i64 0, .slice none 0 0, .slice none 0 0] HZ2.out HSZ.out rfl (nine_all _ _ _ _ _ _ _ _ _ _ _ _ _) ?_) | fail)
 exact bodyPost_ret (results_sec rfl _ _ _ _ _ _ _ _ _ _ _ _ (by rfl) HST.out.1) rfl ⟨_, rfl, HD.out, by rw [← HGB.out]; exact HB.out⟩
def gSymC : Array Value := #[.string ⟨#[]⟩, .int .i64 0, .int .i64 0, .int .i64 0, .int .i64 0, .int .i64 0, .string nmF, .int .i64 1, .int .i64 0, .int .i64 1, .int .i64 0, .int .i64 0]
abbrev gObjC (gs gy : Nat) : Array Value := #[.slice (some ⟨gs, 0, none⟩) 1 1, .slice (some ⟨gy, 0, none⟩) 2 2, .slice none 0 0, .bool false, .slice none 0 0]
theorem g_bytes {W : World} {g : Nat} (h : W.heap[g]? = some (.cells gBytesC 5 (0, 0))) : IsL 1 EByte W (.slice (some ⟨g, 0, none⟩) 8 8) gS.data := by
 refine ⟨some ⟨g, 0, none⟩, 8, rfl, Nat.le_refl _, by unfold maxLen; omega, (fun h => by cases h), fun i x hx => ⟨g, 0, rfl, ?_⟩⟩
 unfold EByte
 rw [cell_of_row W g _ _ _ (0, 0) h, Nat.zero_add, Nat.mul_one]
 match i, hx with
 | 0, hx => cases hx; rfl
 | 1, hx => cases hx; rfl
 | 2, hx => cases hx; rfl
 | 3, hx => cases hx; rfl
 | 4, hx => cases hx; rfl
 | 5, hx => cases hx; rfl
 | 6, hx => cases hx; rfl
 | 7, hx => cases hx; rfl
theorem g_rels {W : World} {g : Nat} (h : W.heap[g]? = some (.cells gRelC 94 (0, 0))) : IsL 4 ERel W (.slice (some ⟨g, 0, none⟩) 1 1) [gR] := by
 refine ⟨_, 1, rfl, Nat.le_refl _, by unfold maxLen; omega, (fun h => by cases h), hasL_one ?_⟩
 refine ⟨⟨?_, ?_⟩, ⟨?_, ?_⟩, ⟨?_, ?_⟩, ⟨?_, ?_⟩⟩
 all_goals first | exact (cell_of_row _ _ _ _ _ (0, 0) h).trans rfl | (refine ⟨?_, ?_⟩ <;> decide) | fail
theorem g_has {W : World} {gd gr gs gy gl : Nat} (k0 : W.heap[gd]? = some (.cells gBytesC 5 (0, 0))) (k1 : W.heap[gr]? = some (.cells gRelC 94 (0, 0))) (k2 : W.heap[gs]? = some (.cells (gSecC gd gr) 89 (0, 0))) (k3 : W.heap[gy]? = some (.cells gSymC 98 (0, 0))) (k4 : W.heap[gl]? = some (.cells (gObjC gs gy) 27 (0, 0))) : HasL 5 EObj W (some ⟨gl, 0, none⟩) [gO] := by
 refine hasL_one ?_
 refine ⟨.slice (some ⟨gs, 0, none⟩) 1 1, .slice (some ⟨gy, 0, none⟩) 2 2, .slice none 0 0, .slice none 0 0, ?_, ?_, ?_, ?_, ?_, ?_, ?_, isL_nil0, isL_nil0⟩
 ·exact (cell_of_row _ _ _ _ _ (0, 0) k4).trans rfl
 ·exact (cell_of_row _ _ _ _ _ (0, 0) k4).trans rfl
 ·exact (cell_of_row _ _ _ _ _ (0, 0) k4).trans rfl
 ·exact (cell_of_row _ _ _ _ _ (0, 0) k4).trans rfl
 ·exact (cell_of_row _ _ _ _ _ (0, 0) k4).trans rfl
 ·refine ⟨_, 1, rfl, Nat.le_refl _, by unfold maxLen; omega, (fun h => by cases h), hasL_one ?_⟩
  refine ⟨⟨?_, ?_⟩, ⟨?_, ?_⟩, ⟨?_, ?_⟩, ⟨?_, ?_⟩, ⟨?_, ?_⟩, ⟨?_, ?_⟩, ⟨?_, ?_⟩, ⟨.slice (some ⟨gd, 0, none⟩) 8 8, ?_, g_bytes k0⟩, ⟨.slice (some ⟨gr, 0, none⟩) 1 1, ?_, g_rels k1⟩⟩
  all_goals first | exact (cell_of_row _ _ _ _ _ (0, 0) k2).trans rfl | (refine ⟨?_, ?_⟩ <;> decide) | (show (5 : Nat) ≤ maxLen; unfold maxLen; omega) | fail
 ·refine ⟨_, 2, rfl, Nat.le_refl _, by unfold maxLen; omega, (fun h => by cases h), hasL_two ?_ ?_⟩
  ·refine ⟨⟨?_, ?_⟩, ⟨?_, ?_⟩, ⟨?_, ?_⟩, ⟨?_, ?_⟩, ⟨?_, ?_⟩, ⟨?_, ?_⟩⟩
   all_goals first | exact (cell_of_row _ _ _ _ _ (0, 0) k3).trans rfl | (refine ⟨?_, ?_⟩ <;> decide) | (show (0 : Nat) ≤ maxLen; exact Nat.zero_le _) | fail
  ·refine ⟨⟨?_, ?_⟩, ⟨?_, ?_⟩, ⟨?_, ?_⟩, ⟨?_, ?_⟩, ⟨?_, ?_⟩, ⟨?_, ?_⟩⟩
   all_goals first | exact (cell_of_row _ _ _ _ _ (0, 0) k3).trans rfl | (refine ⟨?_, ?_⟩ <;> decide) | (show (1 : Nat) ≤ maxLen; unfold maxLen; omega) | fail
set_option maxRecDepth 100000 in
set_option maxHeartbeats 8000000 in
theorem gup_any (w : World) : Calls Tryz.prog 27 #[] w fun e w' => e = .returned (.bool true) ∧ Below w.heap.size w w' := by
  have hR := heap_alloc_new w (.cells gRelC 94)
  have hb1 : Below w.heap.size w (w.alloc (.cells gRelC 94)) := (Below.refl _ w).alloc (Nat.le_refl _) _
  obtain ⟨gb, hgb⟩ : ∃ gb, gb = w.heap.size := ⟨_, rfl⟩
  have HGB := Lib.hid hgb
  rw [← hgb] at hR hb1
  have HR := Lib.hid hR
  have HB1 := Lib.hid hb1
  obtain ⟨w1, hw1⟩ : ∃ w1, w1 = w.alloc (.cells gRelC 94) := ⟨_, rfl⟩
  rw [← hw1] at HR HB1
  have HC := gCode_any gb w1
  rw [hw1, hgb] at HC
  have HCD := Lib.hid HC
  have HW1 := Lib.hid hw1
  clear hgb hR hb1 HC hw1
  go_enter Tryz.func27, Tryz.ntmps27
  go_upto_region 2 with (first | (go_at_call 67
                                  refine HCD.out.mono ?_
                                  rintro e w2 ⟨gd, rfl, hD2, hb2⟩) | fail)
  rw [← HW1.out] at hb2
  rw [← HGB.out]
  obtain ⟨k2, k3, k4, hb3⟩ := three_allocs w2 (.cells (gSecC gd gb) 89) (.cells gSymC 98) (.cells (gObjC w2.heap.size (w2.heap.size + 1)) 27)
  have hW0 : Below w1.heap.size w1 (((w2.alloc (.cells (gSecC gd gb) 89)).alloc (.cells gSymC 98)).alloc (.cells (gObjC w2.heap.size (w2.heap.size + 1)) 27)) := hb2.trans (hb3.mono hb2.size)
  have k0 := (hb3.block gd (Array.getElem?_eq_some_iff.1 hD2).1).trans hD2
  have k1 := (hW0.block gb (Array.getElem?_eq_some_iff.1 HR.out).1).trans HR.out
  change Code.wp _ _ _ _ (((w2.alloc (.cells (gSecC gd gb) 89)).alloc (.cells gSymC 98)).alloc (.cells (gObjC w2.heap.size (w2.heap.size + 1)) 27))
  generalize (((w2.alloc (.cells (gSecC gd gb) 89)).alloc (.cells gSymC 98)).alloc (.cells (gObjC w2.heap.size (w2.heap.size + 1)) 27)) = W at *
  generalize w2.heap.size = g2 at *
  have hb4 : Below W.heap.size W (W.alloc (.cells (gObjC g2 (g2 + 1)) 27)) := (Below.refl _ W).alloc (Nat.le_refl _) _
  have k5 := heap_alloc_new W (.cells (gObjC g2 (g2 + 1)) 27)
  have hhas := g_has ((hb4.block gd (Array.getElem?_eq_some_iff.1 k0).1).trans k0) ((hb4.block gb (Array.getElem?_eq_some_iff.1 k1).1).trans k1) ((hb4.block g2 (Array.getElem?_eq_some_iff.1 k2).1).trans k2) ((hb4.block (g2 + 1) (Array.getElem?_eq_some_iff.1 k3).1).trans k3) k5
  have hobj : ∀ j v, (gObjC g2 (g2 + 1) : Array Value)[j]? = some v → W.cell? ⟨g2 + 1 + 1, j, none⟩ = some v := fun j v hv => (cell_of_row W (g2 + 1 + 1) j _ _ (0, 0) k4).trans hv
  have o0 := hobj 0 _ rfl
  have o1 := hobj 1 _ rfl
  have o2 := hobj 2 _ rfl
  have o3 := hobj 3 _ rfl
  have o4 := hobj 4 _ rfl
  have HF : Hid (Calls Tryz.prog 28 #[.slice (some ⟨W.heap.size, 0, none⟩) 1 1, .string ⟨#[102]⟩] (W.alloc (.cells (gObjC g2 (g2 + 1)) 27)) fun e w' => ∃ (pn : Option Addr) (cn : Nat) (pm : Option Addr) (cm : Nat), e = .returned (.tuple #[.agg #[.slice pn 1 cn, .int .i64 0, .int .i64 0, .slice pm 1 cm], .nilIface]) ∧ HasL 14 ENode w' pn [gN] ∧ Below W.heap.size W w') := Lib.hid (by
    have h := gBuild_few (some ⟨W.heap.size, 0, none⟩) 1 [gO] nmF _ hhas (by decide) gO_small
    rw [gO_f] at h
    refine h.mono fun e w' hE => ?_
    obtain ⟨cs, h1, ⟨v0, v3, h2, h3, h4⟩, h5⟩ := hE
    obtain ⟨pn, cn, rfl, _, _, _, h6⟩ := h3
    obtain ⟨pm, cm, rfl, _⟩ := h4
    subst h2
    exact ⟨pn, cn, pm, cm, h1, h6, hb4.trans (h5.mono hb4.size)⟩)
  have HALL := Lib.hid (And.intro k0 (And.intro k1 (And.intro k2 (And.intro k3 k4))))
  have HWB := Lib.hid hW0
  clear k0 k1 k2 k3 k4 k5 hhas hobj hb4 hb3 hb2 hD2 hW0
  go_upto_region 3 with (first | (go_at_call 28
                                  refine HF.out.mono ?_
                                  rintro e w5 ⟨pn, cn, pm, cm, rfl, hn5, hb5⟩) | fail)
  have hG6 := heap_alloc_new w5 (.cells #[.slice pn 1 cn, .int .i64 0, .int .i64 0, .slice pm 1 cm] 77)
  have hb56 : Below w5.heap.size w5 (w5.alloc (.cells #[.slice pn 1 cn, .int .i64 0, .int .i64 0, .slice pm 1 cm] 77)) := (Below.refl _ w5).alloc (Nat.le_refl _) _
  generalize w5.alloc (.cells #[.slice pn 1 cn, .int .i64 0, .int .i64 0, .slice pm 1 cm] 77) = w6 at *
  have hn6 := hn5.below ENode.keeps hb56
  have hb6 := hb5.trans (hb56.mono hb5.size)
  have hg6 : w5.heap.size < w6.heap.size := (Array.getElem?_eq_some_iff.1 hG6).1
  generalize w5.heap.size = g5 at *
  obtain ⟨k0, k1, k2, k3, k4⟩ := HALL.out
  have k0' := (hb6.block gd (Array.getElem?_eq_some_iff.1 k0).1).trans k0
  have k1' := (hb6.block gb (Array.getElem?_eq_some_iff.1 k1).1).trans k1
  have k2' := (hb6.block g2 (Array.getElem?_eq_some_iff.1 k2).1).trans k2
  have k3' := (hb6.block (g2 + 1) (Array.getElem?_eq_some_iff.1 k3).1).trans k3
  have k4' := (hb6.block (g2 + 1 + 1) (Array.getElem?_eq_some_iff.1 k4).1).trans k4
  have hb7 : Below w6.heap.size w6 (w6.alloc (.cells (gObjC g2 (g2 + 1)) 27)) := (Below.refl _ w6).alloc (Nat.le_refl _) _
  have k5 := heap_alloc_new w6 (.cells (gObjC g2 (g2 + 1)) 27)
  have hhas := g_has ((hb7.block gd (Array.getElem?_eq_some_iff.1 k0').1).trans k0') ((hb7.block gb (Array.getElem?_eq_some_iff.1 k1').1).trans k1') ((hb7.block g2 (Array.getElem?_eq_some_iff.1 k2').1).trans k2') ((hb7.block (g2 + 1) (Array.getElem?_eq_some_iff.1 k3').1).trans k3') k5
  have HG : Hid (Calls Tryz.prog 28 #[.slice (some ⟨w6.heap.size, 0, none⟩) 1 1, .string ⟨#[103]⟩] (w6.alloc (.cells (gObjC g2 (g2 + 1)) 27)) fun e w' => e = .returned (.tuple #[.agg #[.slice none 0 0, .int .i64 0, .int .i64 0, .slice none 0 0], .iface 36 (.int .i64 5)]) ∧ Below w6.heap.size w6 w') := Lib.hid (by
    have h := gBuild_few (some ⟨w6.heap.size, 0, none⟩) 1 [gO] nmG _ hhas (by decide) gO_small
    rw [gO_g] at h
    refine h.mono fun e w' hE => ?_
    obtain ⟨cs, h1, h2, h5⟩ := hE
    replace h2 : cs = #[.slice none 0 0, .int .i64 0, .int .i64 0, .slice none 0 0] := h2
    subst h2
    exact ⟨h1, hb7.trans (h5.mono hb7.size)⟩)
  have hobj : ∀ j v, (gObjC g2 (g2 + 1) : Array Value)[j]? = some v → w6.cell? ⟨g2 + 1 + 1, j, none⟩ = some v := fun j v hv => (cell_of_row w6 (g2 + 1 + 1) j _ _ (0, 0) k4').trans hv
  clear o0 o1 o2 o3 o4
  have o0 := hobj 0 _ rfl
  have o1 := hobj 1 _ rfl
  have o2 := hobj 2 _ rfl
  have o3 := hobj 3 _ rfl
  have o4 := hobj 4 _ rfl
  have HN6 := Lib.hid hn6
  have HG6 := Lib.hid hG6
  have HB6 := Lib.hid (HB1.out.trans (HWB.out.mono (by have := HB1.out.size; rw [← HGB.out] at this; exact this)))
  have hbw6 : Below w1.heap.size w1 w6 := HWB.out.trans (hb6.mono HWB.out.size)
  have HBW6 := Lib.hid hbw6
  clear k0 k1 k2 k3 k4 k0' k1' k2' k3' k4' k5 hhas hobj hb7 hb6 hb56 hb5 hn5 hn6 hG6 hbw6
  go_upto_region 4 with (first | (go_at_call 28
                                  refine HG.out.mono ?_
                                  rintro e w7 ⟨rfl, hb8⟩) | fail)
  have hb89 : Below w6.heap.size w6 (w7.alloc (.cells #[.slice none 0 0, .int .i64 0, .int .i64 0, .slice none 0 0] 77)) := hb8.alloc hb8.size _
  generalize w7.alloc (.cells #[.slice none 0 0, .int .i64 0, .int .i64 0, .slice none 0 0] 77) = w8 at *
  generalize w7.heap.size = g7 at *
  have hG8 := (hb89.block g5 hg6).trans HG6.out
  have hn8 := HN6.out.below ENode.keeps hb89
  have HBW8 := Lib.hid (HBW6.out.trans (hb89.mono HBW6.out.size))
  obtain ⟨y0, y1, y2, y3⟩ := cells4q _ _ _ _ _ _ _ hG8
  obtain ⟨bn, on, x, hpn, hx, e0, e1, e2, e3, e4, e5, e6, e7, e8, ⟨v9, c9, h9⟩, ⟨v10, c10, h10⟩, e11, e12, e13⟩ := hn8.at_ (i := 0) (by decide)
  obtain rfl : gN = x := by simpa using hx
  subst hpn
  obtain ⟨q9, d9, rfl, _⟩ := h9
  obtain ⟨q10, d10, rfl, _, _, _, h10⟩ := h10
  obtain ⟨be, oe, ed, hpe, hed, m0, m1, m2, m3, m4⟩ := h10.at_ (i := 0) (by decide)
  obtain rfl : (⟨0, 1, 3, 0, 0⟩ : EdgeD) = ed := by simpa [gN] using hed
  subst hpe
  have x0 := e0.1
  have x1 := e1.1
  have x2 := e2.1
  have x3 := e3.1
  have x4 := e4.1
  have x5 := e5.1
  have x6 := e6.1
  have x7 := e7.1
  have x8 := e8.1
  have x12 := e12.1
  have x13 := e13.1
  have z0 := m0.1
  have z1 := m1.1
  have z2 := m2.1
  have z3 := m3.1
  have z4 := m4.1
  clear hb8 hb89 hG8 hn8 hx hed h10 e0 e1 e2 e3 e4 e5 e6 e7 e8 e12 e13 m0 m1 m2 m3 m4 HALL o0 o1 o2 o3 o4
  replace x0 : w8.cell? ⟨bn, on, none⟩ = some (.int .i64 0) := x0
  replace x1 : w8.cell? ⟨bn, on + 1, none⟩ = some (.int .i64 1) := x1
  replace x2 : w8.cell? ⟨bn, on + 2, none⟩ = some (.int .i64 0) := x2
  replace x3 : w8.cell? ⟨bn, on + 3, none⟩ = some (.string nmText) := x3
  replace x4 : w8.cell? ⟨bn, on + 4, none⟩ = some (.int .i64 1) := x4
  replace x5 : w8.cell? ⟨bn, on + 5, none⟩ = some (.int .i64 6) := x5
  replace x6 : w8.cell? ⟨bn, on + 6, none⟩ = some (.int .i64 1) := x6
  replace x7 : w8.cell? ⟨bn, on + 7, none⟩ = some (.int .i64 0) := x7
  replace x8 : w8.cell? ⟨bn, on + 8, none⟩ = some (.int .i64 8) := x8
  replace x12 : w8.cell? ⟨bn, on + 12, none⟩ = some (.int .i64 0) := x12
  replace x13 : w8.cell? ⟨bn, on + 13, none⟩ = some (.int .i64 0) := x13
  replace c9 : w8.cell? ⟨bn, on + 9, none⟩ = some (.slice q9 8 d9) := c9
  replace c10 : w8.cell? ⟨bn, on + 10, none⟩ = some (.slice (some ⟨be, oe, none⟩) 1 d10) := c10
  replace e11 : w8.cell? ⟨bn, on + 11, none⟩ = some (.bool true) := e11
  replace z0 : w8.cell? ⟨be, oe, none⟩ = some (.int .i64 0) := z0
  replace z1 : w8.cell? ⟨be, oe + 1, none⟩ = some (.int .i64 1) := z1
  replace z2 : w8.cell? ⟨be, oe + 2, none⟩ = some (.int .i64 3) := z2
  replace z3 : w8.cell? ⟨be, oe + 3, none⟩ = some (.int .i64 0) := z3
  replace z4 : w8.cell? ⟨be, oe + 4, none⟩ = some (.int .i64 0) := z4
  have hb9 : Below w8.heap.size w8 (w8.alloc (.cells #[.int .i64 0, .int .i64 1, .int .i64 0, .string nmText, .int .i64 1, .int .i64 6, .int .i64 1, .int .i64 0, .int .i64 8, .slice q9 8 d9, .slice (some ⟨be, oe, none⟩) 1 d10, .bool true, .int .i64 0, .int .i64 0] 86)) := (Below.refl _ w8).alloc (Nat.le_refl _) _
  have hX9 := heap_alloc_new w8 (.cells #[.int .i64 0, .int .i64 1, .int .i64 0, .string nmText, .int .i64 1, .int .i64 6, .int .i64 1, .int .i64 0, .int .i64 8, .slice q9 8 d9, .slice (some ⟨be, oe, none⟩) 1 d10, .bool true, .int .i64 0, .int .i64 0] 86)
  have ceq : ∀ W : World, (binOp .neq 33 (.iface 36 (.int .i64 5)) (.iface 36 (.int .i64 5))).run Tryz.prog W = .ok (.bool false) W := fun W => by kernel_rfl
  have cel : ∀ W : World, (binOp .neq 33 .nilIface .nilIface).run Tryz.prog W = .ok (.bool false) W := fun W => by kernel_rfl
  have ced : ∀ W : World, (binOp .eql 92 (.agg #[.int .i64 0, .int .i64 1, .int .i64 3, .int .i64 0, .int .i64 0]) (.agg #[.int .i64 0, .int .i64 1, .int .i64 3, .int .i64 0, .int .i64 0])).run Tryz.prog W = .ok (.bool true) W := fun W => by kernel_rfl
  go_upto_region 7 with fail
  generalize w8.alloc (.cells #[.int .i64 0, .int .i64 1, .int .i64 0, .string nmText, .int .i64 1, .int .i64 6, .int .i64 1, .int .i64 0, .int .i64 8, .slice q9 8 d9, .slice (some ⟨be, oe, none⟩) 1 d10, .bool true, .int .i64 0, .int .i64 0] 86) = w9 at *
  have n10 : w9.cell? ⟨w8.heap.size, 10, none⟩ = some (.slice (some ⟨be, oe, none⟩) 1 d10) := (cell_of_row w9 w8.heap.size 10 _ _ (0, 0) hX9).trans rfl
  have n11 : w9.cell? ⟨w8.heap.size, 11, none⟩ = some (.bool true) := (cell_of_row w9 w8.heap.size 11 _ _ (0, 0) hX9).trans rfl
  have y1' := cell_later hb9 y1
  have z0' := cell_later hb9 z0
  have z1' := cell_later hb9 z1
  have z2' := cell_later hb9 z2
  have z3' := cell_later hb9 z3
  have z4' := cell_later hb9 z4
  have HBW9 := Lib.hid (HBW8.out.trans (hb9.mono HBW8.out.size))
  clear x0 x1 x2 x3 x4 x5 x6 x7 x8 x12 x13 c9 c10 e11 z0 z1 z2 z3 z4 y0 y1 y2 y3 hX9 hb9
  generalize w8.heap.size = g8 at *
  go_wp2_with fail
  go_ret
  exact ⟨rfl, by rw [← HGB.out]; exact HB1.out.trans (HBW9.out.mono (by have := HB1.out.size; rw [← HGB.out] at this; exact this))⟩
end Go.Proofs.YteopgmieindojaaGreat

namespace Go.Proofs.YteopgmieindojaaGreat
open Go.RowKit
theorem err_ne (n : Int) (W : World) : (binOp .neq 33 (.iface 36 (.int .i64 n)) .nilIface).run Tryz.prog W = .ok (.bool true) W := by kernel_rfl
theorem nil_ne (W : World) : (binOp .neq 33 .nilIface .nilIface).run Tryz.prog W = .ok (.bool false) W := by kernel_rfl
theorem ret_true {a : Act} {w : World} {R : Ending → World → Prop} (h : a.defers = []) (h4 : a.tmps.getD 4 undef = .bool true) (hR : R (.returned (.bool true)) w) : bodyPost Tryz.prog Tryz.f7 R .ret a w :=
 bodyPost_ret (v := .bool true) (by
  simp only [Array.getD_eq_getD_getElem?] at h4
  simp [results, go_sem, h4]) h hR
set_option maxRecDepth 1000000 in
set_option maxHeartbeats 8000000 in
theorem whole_walk (p : Option Addr) (c : Nat) (l : List ObjD) (entry : ByteArray) (w : World) (h : HasL 5 EObj w p l) (hlm : l.length ≤ maxLen) :
  Calls Tryz.prog 7 #[.slice p l.length c, .string entry] w fun e w' => e = .returned (.bool true) ∧ Below w.heap.size w w' := by
 have HH := Lib.hid fun W (hW : Below w.heap.size w W) => h.below EObj.keeps hW
 have HUPH := Lib.hid (gup_any w)
 have HFEW := Lib.hid fun W (hW : Below w.heap.size w W) => few_any p c l W (h.below EObj.keeps hW) hlm
 have HBLD := Lib.hid fun W (hW : Below w.heap.size w W) hl hs => gBuild_few p c l entry W (h.below EObj.keeps hW) hl hs
 have HFIN := Lib.hid fun hl hs => g_fine h hl hs entry
 have HLM := Lib.hid hlm
 obtain ⟨ln, hln⟩ : ∃ ln, ln = l.length := ⟨_, rfl⟩
 have HLN := Lib.hid hln
 rw [← hln] at HFEW HBLD ⊢
 clear h hlm hln
 go_enter Tryz.func7, Tryz.ntmps7
 show Code.wp _ (Code.seq _ (Code.seq _ (Code.seq _ (Code.seq _ (Code.seq _ (wTail 7)))))) _ _ _
 generalize hT : wTail 7 = T
 have HT := Lib.hid hT
 clear hT
 go_upto_region 2 with (first | (go_at_call 27; refine HUPH.out.mono ?_; rintro e w1 ⟨rfl, hb1⟩) | fail)
 go_wp2_with fail
 refine (HFEW.out _ hb1).mono ?_
 rintro e w2 ⟨⟨r, rfl, hr⟩, hb2⟩
 have hb12 := hb1.trans (hb2.mono hb1.size)
 rcases hr with rfl | ⟨rfl, hl, hs⟩
 ·go_wp2_with fail
  go_ret
  exact ⟨rfl, hb12⟩
 have HB3 := Lib.hid (HBLD.out w2 hb12 hl hs)
 have HB12 := Lib.hid hb12
 have hfin := HFIN.out (by rw [← HLN.out]; exact hl) hs
 have HL := Lib.hid hl
 have hs12 := hb12.size
 clear hb1 hb2 HFEW HBLD HFIN hs hb12 hl
 generalize hgb : w.heap.size = gb at *
 have HGB := Lib.hid hgb
 clear hgb
 rcases hfin with ⟨n, hbn, hn0⟩ | ⟨g, hbg, hF⟩
 ·as_aux_lemma =>
  have HB4 : Hid (Calls Tryz.prog 28 #[.slice p ln c, .string entry] w2 fun e w' => e = .returned (.tuple #[.agg zG, .iface 36 (.int .i64 n)]) ∧ Below w2.heap.size w2 w') := Lib.hid (HB3.out.mono fun e w' hE => by
   obtain ⟨cs, h1, h2, h3⟩ := hE
   rw [hbn] at h1 h2
   refine ⟨?_, h3⟩
   rw [h1, show cs = zG from h2]
   unfold errV
   rw [if_neg hn0])
  have hne := err_ne n
  clear HB3 hbn hn0
  go_upto_region 5 with (first | (go_at_call 28; refine HB4.out.mono ?_; rintro e w3 ⟨rfl, hb3⟩) | fail)
  have hA := heap_alloc_new w3 (.cells #[.slice none 0 0, .int .i64 0, .int .i64 0, .slice none 0 0] 77)
  have hb4 : Below w2.heap.size w2 (w3.alloc (.cells #[.slice none 0 0, .int .i64 0, .int .i64 0, .slice none 0 0] 77)) := hb3.alloc hb3.size _
  have HB04 := Lib.hid (HB12.out.trans (hb4.mono hs12))
  generalize w3.alloc (.cells #[.slice none 0 0, .int .i64 0, .int .i64 0, .slice none 0 0] 77) = w4 at *
  generalize w3.heap.size = g3 at *
  obtain ⟨y0, y1, y2, y3⟩ := cells4q _ _ _ _ _ _ _ hA
  clear hb3 hb4 hA
  go_wp2_with fail
  go_ret
  exact ⟨rfl, by first | exact HB04.out | (rw [HGB.out]; exact HB04.out)⟩
 ·as_aux_lemma =>
  have HB4 : Hid (Calls Tryz.prog 28 #[.slice p ln c, .string entry] w2 fun e w' => ∃ p0 c0 p3 c3, e = .returned (.tuple #[.agg #[.slice p0 g.nodes.length c0, .int .i64 g.to_, .int .i64 g.at_, .slice p3 g.names.length c3], .nilIface]) ∧ (c0 ≤ maxLen ∧ g.nodes.length ≤ c0 ∧ HasL 14 ENode w' p0 g.nodes ∧ IsL 3 ENm w' (.slice p3 g.names.length c3) g.names) ∧ Below w2.heap.size w2 w') := Lib.hid (HB3.out.mono fun e w' hE => by
   obtain ⟨cs, h1, h2, h3⟩ := hE
   rw [hbg] at h1 h2
   obtain ⟨v0, v3, h4, ⟨p0, c0, h5, hc1, hc2, hc3, hc4⟩, hN3⟩ := h2
   obtain ⟨p3, c3, h6, _⟩ := id hN3
   refine ⟨p0, c0, p3, c3, ?_, ⟨hc2, hc1, hc4, by rw [← h6]; exact hN3⟩, h3⟩
   rw [h1, h4, h5, h6]
   rfl)
  have hne := nil_ne
  have HF := Lib.hid hF
  clear HB3 hbg hF
  go_upto_region 5 with (first | (go_at_call 28; refine HB4.out.mono ?_; rintro e w3 ⟨p0, c0, p3, c3, rfl, ⟨hcm, hcn, hN, hM⟩, hb3⟩) | fail)
  have hA := heap_alloc_new w3 (.cells #[.slice p0 g.nodes.length c0, .int .i64 g.to_, .int .i64 g.at_, .slice p3 g.names.length c3] 77)
  have hb4 : Below w2.heap.size w2 (w3.alloc (.cells #[.slice p0 g.nodes.length c0, .int .i64 g.to_, .int .i64 g.at_, .slice p3 g.names.length c3] 77)) := hb3.alloc hb3.size _
  have hb34 : Below w3.heap.size w3 (w3.alloc (.cells #[.slice p0 g.nodes.length c0, .int .i64 g.to_, .int .i64 g.at_, .slice p3 g.names.length c3] 77)) := (Below.refl _ w3).alloc (Nat.le_refl _) _
  have HB04 := Lib.hid (HB12.out.trans (hb4.mono hs12))
  generalize w3.alloc (.cells #[.slice p0 g.nodes.length c0, .int .i64 g.to_, .int .i64 g.at_, .slice p3 g.names.length c3] 77) = w4 at *
  have HN4 := hN.below ENode.keeps hb34
  have HM4 := hM.below ENm.keeps hb34
  have HO4 := HH.out w4 HB04.out
  have C : Hid (GCtx w4 l g p p0 p3 w3.heap.size c0 c3) := Lib.hid (by
   obtain ⟨y0, y1, y2, y3⟩ := cells4q _ _ _ _ _ _ _ hA
   exact ⟨y0, y1, y2, y3, HN4, HO4, HM4, HF.out, by omega, by have := HLM.out; omega⟩)
  generalize w3.heap.size = g3 at *
  clear hb3 hb4 hA hb34 hN hM HB4 HUPH HH HB12 hs12 hcm hcn HN4 HM4 HO4
  go_wp2_with fail
  rw [← HT.out, HLN.out]
  refine t7 C.out (Below.refl _ _) _ _ _ _ _ _ _ _ _ _ _ _ _ _ _ _ _ (by kernel_rfl) ?_
  intro a w' h1 h2 hb'
  exact ret_true h1 h2 ⟨rfl, by rw [HGB.out]; exact HB04.out.trans (hb'.mono (by have := HB04.out.size; rw [HGB.out] at this; exact this))⟩
end Go.Proofs.YteopgmieindojaaGreat

namespace Go.Proofs.YteopgmieindojaaGreat
open Go.ChangeShapes Go.WideShapes Go.RowKit Go.Deep
def IsObjs (w : World) (v : Value) (l : List ObjD) : Prop := IsL 5 EObj w v l
section
variable {H : Type} {enc : TypeId × Value → H} {w : World} {base : Nat} {spare : Nat → Bool} {held : Bool}
theorem opens_obj : OpensE enc Tryz.prog w base spare held 5 27 EObj := fun n b o cs x hl hc h => by
 obtain ⟨v0, v1, v2, v4, ob, rfl, hp⟩ := open_parts h
 exact ⟨ob, v0, v1, v2, v4, hc 0 (by omega), hc 1 (by omega), hc 2 (by omega), hc 3 (by omega), hc 4 (by omega), hp⟩
theorem open_objs {fuel : Nat} {v : Value} {x : DataW H × List MemPlace} (h : DataW.trod enc Tryz.prog w base spare held fuel 44 [v] = some x) : ∃ l : List ObjD, IsObjs w v l :=
 open_L Tryz.underlying44 (by kernel_rfl) (by omega) opens_obj h
end
end Go.Proofs.YteopgmieindojaaGreat
