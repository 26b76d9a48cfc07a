/-
  Contract: the reference's Lay tells the same bytes as le.Lay.
-/
import Derived.Test.YtjagddakcffclaaLay
import Derived.Test.YtjagddakcffclaaGet
import Derived.Laws.AppendOwnNone
namespace Go.Proofs.Ytjagddakcffclaa
open Go.RowKit

theorem refPut_has (v n : Nat) (w : World) (hv : v < 18446744073709551616) (hn : wid n = true) : Calls Try.prog 11 #[.int .u64 v, .int .i64 n] w (GivesH n (leB n v) w) :=
  (refPut_yes v n w hv hn).mono fun e w' h => by have := h.toH; rwa [leB_length] at this

theorem later_take {w : World} {p : Addr} {l : List UInt8} (h : Has w (some p) l) (j : Nat) : ∀ W, Below w.heap.size w W → ∀ i u, ((l.take j).map u8v)[i]? = some u → W.cell? (p.add i) = some u := fun W hb => by
  refine Has.cells (l := l.take j) fun i x hx => ?_
  rw [List.getElem?_take] at hx
  split at hx
  · exact (h.below hb) i x hx
  · cases hx
theorem later_drop {w : World} {b off : Nat} {l : List UInt8} (h : Has w (some ⟨b, off, none⟩) l) (j : Nat) : ∀ W, Below w.heap.size w W → ∀ i u, ((l.drop j).map u8v)[i]? = some u → W.cell? ((⟨b, off + j, none⟩ : Addr).add i) = some u := fun W hb => by
  refine Has.cells (l := l.drop j) (Has.of_plain fun i x hx => ?_)
  rw [List.getElem?_drop] at hx
  obtain ⟨b', off', e, hc⟩ := (h.below hb).plain (by have := (List.getElem?_eq_some_iff.1 hx).1; omega)
  simp only [Option.some.injEq, Addr.mk.injEq, and_true] at e
  obtain ⟨rfl, rfl⟩ := e
  rw [Nat.add_assoc]
  exact hc _ _ hx
theorem later_end {w : World} {p : Addr} {l : List UInt8} (_h : Has w (some p) l) (j : Nat) (hj : l.length ≤ j) : ∀ W, Below w.heap.size w W → ∀ i u, ((l.drop j).map u8v)[i]? = some u → W.cell? (p.add i) = some u := fun W _ i u hu => by
  rw [List.drop_eq_nil_of_le hj] at hu
  simp at hu
theorem owns_below {w w' : World} {base : Nat} {e : TypeId} {v : Value} {n : Nat} {xs : List Value} (h : w.ownsRow base e 1 v n xs) (hb : Below w.heap.size w w') : w'.ownsRow base e 1 v n xs :=
  h.kept (row := none) ⟨hb.os, hb.tape, hb.output, hb.size, fun k hk _ => hb.block k hk⟩ (by cases hv : v.ownBlock <;> simp)

theorem three_rows {w : World} {base : Nat} {e : TypeId} {v : Value} {a b c : List UInt8} {j k len : Nat} (h : w.ownsRow base e 1 v (j + k + (len - (j + k))) (a.map u8v ++ b.map u8v ++ c.map u8v)) (hj : j + k ≤ len) :
    w.ownsRow base e 1 v len ((a ++ (b ++ c)).map u8v) := by
  rw [show j + k + (len - (j + k)) = len by omega, ← List.map_append, ← List.map_append, List.append_assoc] at h
  exact h

theorem refLay_any (p : Option Addr) (len cap : Nat) (l : List UInt8) (at_ n : Int) (v : Nat) (w : World) (h : Has w p l) (hlen : l.length = len) (hcap : len ≤ cap) (hp : p = none → cap = 0) (hml : cap ≤ maxLen) (hbig : len ≤ 140737488355328) (hv : v < 18446744073709551616)
    (ha0 : -9223372036854775808 ≤ at_) (ha1 : at_ ≤ 9223372036854775807) :
    Calls Try.prog 9 #[.slice p len cap, .int .i64 at_, .int .i64 n, .int .u64 v] w (Gives (layB l at_ n v) w) := by
  have HGet := Lib.hid (refGet_any p len cap l at_ n w h hlen hcap hml ha0 ha1)
  have hown0 : (w.alloc (.cells #[] 5)).ownsRow w.heap.size 5 1 (.slice (some ⟨w.heap.size, 0, none⟩) 0 0) 0 [] := World.ownsRow_lit w #[] 0 (Nat.le_refl _) (Nat.zero_le _) rfl
  have HO := Lib.hid hown0
  obtain ⟨i0, hi, hz0, hz1, hz2⟩ := info_parts Try.infoU8
  have HI := Lib.hid hi
  have H0 := Lib.hid hz0
  have H1 := Lib.hid hz1
  have H2 := Lib.hid hz2
  clear hi hz0 hz1 hz2 hown0
  by_cases hf : fitB len at_ n = true
  · obtain ⟨hn, h0, h1⟩ := (fitB_iff _ _ _).1 hf
    obtain ⟨j, rfl⟩ := Int.eq_ofNat_of_zero_le h0
    obtain ⟨k, rfl⟩ := Int.eq_ofNat_of_zero_le (show 0 ≤ n by omega)
    have hw : wid k = true := (wid_iff _).2 hn
    have hk8 : k ≤ 8 := by omega
    have hk1 : 1 ≤ k := by omega
    have hjk : j + k ≤ len := by omega
    have HG : Hid (layB l j k v = l.take j ++ (leB k v ++ l.drop (j + k))) := Lib.hid (by simp [layB, hlen, hf])
    have HF := Lib.hid hf
    obtain ⟨b, off, rfl, hcell⟩ := h.plain (by omega)
    have HA := Lib.hid (later_take h j)
    have HL1 := Lib.hid (show ((l.take j).map u8v).length = j * 1 by simp; omega)
    have hb0 : Below w.heap.size w (w.alloc (.cells #[] 5)) := (Below.refl _ w).alloc (Nat.le_refl _) _
    have HB0 := Lib.hid (HA.out _ hb0)
    have HL3 := Lib.hid (show ((l.drop (j + k)).map u8v).length = (len - (j + k)) * 1 by simp; omega)
    have HN := Lib.hid hlen
    have hjl : j ≤ len := by omega
    have hj0 : (0 : Int) ≤ (j : Int) := by omega
    have hjc : (j : Int) ≤ (cap : Int) := by omega
    by_cases hck : cap = j + k
    · have HD := Lib.hid (later_end h (j + k) (by omega))
      obtain rfl : len = j + k := by omega
      subst hck
      clear hn hlen h hp hcell hf h0 h1
      go_enter Try.func9, Try.ntmps9
      go_wp2_with fail
      refine HGet.out.mono ?_
      rw [HF.out]
      rintro e w' ⟨rfl, rfl⟩
      go_wp2_with (first | (at_builtin; refine wpList_append_own _ rfl (.tmp 24) (.tmp 27) 22 rfl w.heap.size 5 i0 (.int .u8 0) 1 1 Try.underlying22 HI.out H0.out H1.out H2.out rfl (by decide) _ _ _ rfl HO.out ⟨b, off, none⟩ j (j + k) ((l.take j).map u8v) rfl HL1.out HB0.out (map_oneCell _) (by unfold maxLen; omega) (by omega) (by simp) ?_; intro v1 w1 ho1 hg1 _; rw [Nat.zero_add, List.nil_append] at ho1; have hb1 : Below w.heap.size w w1 := hb0.grown hg1 (by simp) (fun g hg => (HO.out.lt g hg).1); clear hg1) | (go_at_call 11; refine (refPut_has v k _ hv hw).mono ?_; rintro e w2 ⟨p2, c2, rfl, hl2, hnc2, hcm2, hH2, hb2⟩; obtain ⟨b2, off2, hp2, hc2'⟩ := hH2.plain (by omega); have ho2 := owns_below ho1 hb2; have hb12 : Below w.heap.size w w2 := hb1.trans (hb2.mono hb1.size); have HC2 := Lib.hid (hp2 ▸ hH2); have HL2 := Lib.hid (show ((leB k v).map u8v).length = k * 1 by simpa using hl2); rw [hp2]; clear hp2 hc2' hl2 hH2 hb2 ho1 hb1) | (at_builtin; refine wpList_append_own _ rfl (.tmp 29) (.tmp 32) 22 rfl w.heap.size 5 i0 (.int .u8 0) 1 1 Try.underlying22 HI.out H0.out H1.out H2.out rfl (by decide) _ _ _ rfl ho2 ⟨b2, off2, none⟩ k c2 ((leB k v).map u8v) rfl HL2.out HC2.out.cells (map_oneCell _) (by unfold maxLen; omega) (by omega) hb12.size ?_; intro v3 w3 ho3 hg3 _; have hb3 : Below w.heap.size w w3 := hb12.grown hg3 hb12.size (fun g hg => (ho2.lt g hg).1); clear hg3 ho2 hb12) | (at_builtin; refine wpList_append_own _ rfl (.tmp 34) (.tmp 39) 22 rfl w.heap.size 5 i0 (.int .u8 0) 1 1 Try.underlying22 HI.out H0.out H1.out H2.out rfl (by decide) _ _ _ rfl ho3 ⟨b, off, none⟩ (j + k - (j + k)) (j + k - (j + k)) ((l.drop (j + k)).map u8v) rfl HL3.out (HD.out _ hb3) (map_oneCell _) (by unfold maxLen; omega) (by omega) hb3.size ?_; intro v4 w4 ho4 hg4 _; have hb4 : Below w.heap.size w w4 := hb3.grown hg4 hb3.size (fun g hg => (ho3.lt g hg).1); clear hg4 ho3 hb3))
      go_ret
      refine ⟨_, rfl, ?_, hb4⟩
      rw [layB_length, HN.out, HG.out]
      exact three_rows ho4 hjk
    · have HD := Lib.hid (later_drop h (j + k))
      clear hn hlen h hp hcell hf h0 h1
      go_enter Try.func9, Try.ntmps9
      go_wp2_with fail
      refine HGet.out.mono ?_
      rw [HF.out]
      rintro e w' ⟨rfl, rfl⟩
      go_wp2_with (first | (at_builtin; refine wpList_append_own _ rfl (.tmp 24) (.tmp 27) 22 rfl w.heap.size 5 i0 (.int .u8 0) 1 1 Try.underlying22 HI.out H0.out H1.out H2.out rfl (by decide) _ _ _ rfl HO.out ⟨b, off, none⟩ j cap ((l.take j).map u8v) rfl HL1.out HB0.out (map_oneCell _) (by unfold maxLen; omega) (by omega) (by simp) ?_; intro v1 w1 ho1 hg1 _; rw [Nat.zero_add, List.nil_append] at ho1; have hb1 : Below w.heap.size w w1 := hb0.grown hg1 (by simp) (fun g hg => (HO.out.lt g hg).1); clear hg1) | (go_at_call 11; refine (refPut_has v k _ hv hw).mono ?_; rintro e w2 ⟨p2, c2, rfl, hl2, hnc2, hcm2, hH2, hb2⟩; obtain ⟨b2, off2, hp2, hc2'⟩ := hH2.plain (by omega); have ho2 := owns_below ho1 hb2; have hb12 : Below w.heap.size w w2 := hb1.trans (hb2.mono hb1.size); have HC2 := Lib.hid (hp2 ▸ hH2); have HL2 := Lib.hid (show ((leB k v).map u8v).length = k * 1 by simpa using hl2); rw [hp2]; clear hp2 hc2' hl2 hH2 hb2 ho1 hb1) | (at_builtin; refine wpList_append_own _ rfl (.tmp 29) (.tmp 32) 22 rfl w.heap.size 5 i0 (.int .u8 0) 1 1 Try.underlying22 HI.out H0.out H1.out H2.out rfl (by decide) _ _ _ rfl ho2 ⟨b2, off2, none⟩ k c2 ((leB k v).map u8v) rfl HL2.out HC2.out.cells (map_oneCell _) (by unfold maxLen; omega) (by omega) hb12.size ?_; intro v3 w3 ho3 hg3 _; have hb3 : Below w.heap.size w w3 := hb12.grown hg3 hb12.size (fun g hg => (ho2.lt g hg).1); clear hg3 ho2 hb12) | (at_builtin; refine wpList_append_own _ rfl (.tmp 34) (.tmp 39) 22 rfl w.heap.size 5 i0 (.int .u8 0) 1 1 Try.underlying22 HI.out H0.out H1.out H2.out rfl (by decide) _ _ _ rfl ho3 ⟨b, off + (j + k), none⟩ (len - (j + k)) (cap - (j + k)) ((l.drop (j + k)).map u8v) rfl HL3.out (HD.out _ hb3) (map_oneCell _) (by unfold maxLen; omega) (by omega) hb3.size ?_; intro v4 w4 ho4 hg4 _; have hb4 : Below w.heap.size w w4 := hb3.grown hg4 hb3.size (fun g hg => (ho3.lt g hg).1); clear hg4 ho3 hb3))
      go_ret
      refine ⟨_, rfl, ?_, hb4⟩
      rw [layB_length, HN.out, HG.out]
      exact three_rows ho4 hjk
  · have hf' : fitB len at_ n = false := by simpa using hf
    have HF := Lib.hid hf'
    have HG : Hid (layB l at_ n v = l) := Lib.hid (layB_no (by rw [hlen]; exact hf'))
    have HL := Lib.hid (show (l.map u8v).length = len * 1 by simpa using hlen)
    have HN := Lib.hid hlen
    have hb0 : Below w.heap.size w (w.alloc (.cells #[] 5)) := (Below.refl _ w).alloc (Nat.le_refl _) _
    clear hf hlen
    rcases p with _ | a
    · obtain rfl := hp rfl
      obtain rfl : len = 0 := by omega
      have HE : Hid (l = []) := Lib.hid (List.eq_nil_of_length_eq_zero HN.out)
      clear h hp
      go_enter Try.func9, Try.ntmps9
      go_wp2_with fail
      refine HGet.out.mono ?_
      rw [HF.out]
      rintro e w' ⟨rfl, rfl⟩
      go_wp2
      go_ret
      refine ⟨_, rfl, ?_, hb0⟩
      rw [HG.out, HE.out]
      exact HO.out
    · have HC := Lib.hid ((h.below hb0).cells)
      clear h hp
      go_enter Try.func9, Try.ntmps9
      go_wp2_with fail
      refine HGet.out.mono ?_
      rw [HF.out]
      rintro e w' ⟨rfl, rfl⟩
      go_wp2_with (at_builtin; refine wpList_append_own _ rfl _ _ 22 rfl w.heap.size 5 i0 (.int .u8 0) 1 1 Try.underlying22 HI.out H0.out H1.out H2.out rfl (by decide) _ _ _ rfl HO.out a len cap (l.map u8v) rfl HL.out HC.out (map_oneCell _) ?c3 ?c4 ?c5 ?_)
      case c3 => unfold maxLen; omega
      case c4 => omega
      case c5 => simp
      intro v' w1 hown' hgrow _
      have hb1 : Below w.heap.size w w1 := hb0.grown hgrow (by simp) (fun g hg => (HO.out.lt g hg).1)
      clear hgrow
      go_wp2
      go_ret
      refine ⟨_, rfl, ?_, hb1⟩
      rw [HG.out, HN.out]
      simpa using hown'

end Go.Proofs.Ytjagddakcffclaa
