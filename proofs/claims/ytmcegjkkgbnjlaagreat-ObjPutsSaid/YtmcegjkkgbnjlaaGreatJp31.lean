/-
  Contract of the project's own maySecs.
  Contract of the project's own maySig.
  An object that may be, and is small, can be laid.
  The project's tests of an object and the document's are one: the parts on symbols, on Sig, on relocations. Nothing here walks the program.
  The project's tests of an object and the document's are one: the part on a section alone. Nothing here walks the program.
-/
import Derived.Test.YtmcegjkkgbnjlaaGreatJp30
import Derived.Test.YtmcegjkkgbnjlaaGreatJp27
import Derived.Test.YtmcegjkkgbnjlaaGreatJp05
import Derived.Test.YtmcegjkkgbnjlaaGreatJp24
import Derived.Test.YtmcegjkkgbnjlaaGreatJp04
import Derived.Test.YtmcegjkkgbnjlaaGreatJp29
namespace Go.Proofs.YtmcegjkkgbnjlaaGreat
open Go.RowKit

def secAllO (ql yl : Nat) (i : Nat) (s : SecD) : Bool :=
  secO s.name s.type s.flags s.align s.ent s.size s.data.length s.rels.length (s.data.getLast? == some 0) && (linkO s.flags s.link ((i : Int) + 1) (ql : Int) && relsO yl s.data.length s.rels)
set_option maxRecDepth 100000 in
set_option maxHeartbeats 4000000 in
theorem ownMaySecs_any (v2 v4 : Value) (hs : Bool) (p0 p1 : Option Addr) (c0 c1 yl : Nat) (secs : List SecD) (w : World) (hq : HasL 9 ESec w p0 secs) (hql : secs.length ≤ 1000000) (hyl : yl ≤ 1000000) :
    Calls Tryz.prog 53 #[objV (.slice p0 secs.length c0) (.slice p1 yl c1) v2 hs v4] w fun e w' => e = .returned (.bool (eachB (secAllO secs.length yl) secs)) ∧ Below w.heap.size w w' := by
  have hb1 : Below w.heap.size w (w.alloc (.cells #[.slice p0 secs.length c0, .slice p1 yl c1, v2, .bool hs, v4] 27)) := (Below.refl _ w).alloc (Nat.le_refl _) _
  have a0 : (w.alloc (.cells #[.slice p0 secs.length c0, .slice p1 yl c1, v2, .bool hs, v4] 27)).cell? ⟨w.heap.size, 0, none⟩ = some (.slice p0 secs.length c0) := by simp
  have a1 : (w.alloc (.cells #[.slice p0 secs.length c0, .slice p1 yl c1, v2, .bool hs, v4] 27)).cell? ⟨w.heap.size, 1, none⟩ = some (.slice p1 yl c1) := by simp
  have HQ := Lib.hid (hq.below ESec.keeps hb1)
  have HB1 := Lib.hid hb1
  have hF : ∀ (i : Nat) (s : SecD), secs[i]? = some s → secAllO secs.length yl i s = false → eachB (secAllO secs.length yl) secs = false := fun i s h1 h2 => eachB_no h1 h2
  have hST : ∀ (i : Nat) (s : SecD), secs[i]? = some s → eachB (secAllO secs.length yl) (secs.take (i + 1)) = (eachB (secAllO secs.length yl) (secs.take i) && secAllO secs.length yl i s) := fun i s h => eachB_take h
  have hall : eachB (secAllO secs.length yl) (secs.take secs.length) = eachB (secAllO secs.length yl) secs := eachB_all
  generalize eachB (secAllO secs.length yl) secs = res at *
  generalize hqn : secs.length = ql at *
  have HQN := Lib.hid hqn
  have HF := Lib.hid hF
  have HST := Lib.hid hST
  have HALL := Lib.hid hall
  clear hb1 hq hqn hF hST hall
  go_enter Tryz.func53, Tryz.ntmps53
  go_upto_region 1 with fail
  generalize w.alloc (.cells #[.slice p0 ql c0, .slice p1 yl c1, v2, .bool hs, v4] 27) = W1 at *
  have hbs := HB1.out.size
  go_wp2_with fail
  go_loopw [3, 8] (fun r3 r8 wr => ∃ (k : Nat), k ≤ ql ∧ r8 = .int .i64 (k : Int) ∧ eachB (secAllO ql yl) (secs.take k) = true ∧ Below W1.heap.size W1 wr) (fun _ r8 _ => ql - (intOf r8).toNat)
  case atStart => exact ⟨0, Nat.zero_le _, rfl, by simp [eachB], Below.refl _ _⟩
  case round =>
    obtain ⟨k, hk, rfl, hall, hb⟩ := hrel
    have HA := Lib.hid hall
    clear hall
    by_cases hlt : k < ql
    · obtain ⟨b, off, s, rfl, hsk, ⟨d0, _⟩, ⟨d1, _⟩, ⟨d2, _⟩, ⟨d3, _⟩, ⟨d4, _⟩, ⟨d5, _⟩, ⟨d6, _⟩, ⟨vd, d7, hvd⟩, ⟨vr, d8, hvr⟩⟩ := HQ.out.at_ (i := k) (by rw [HQN.out]; exact hlt)
      obtain ⟨dp, dc, rfl, l1, l2, _, hdh⟩ := hvd
      obtain ⟨rp, rc, rfl, m1, m2, _, hrh⟩ := hvr
      have e0 := cell_later hb d0
      have e1 := cell_later hb d1
      have e2 := cell_later hb d2
      have e3 := cell_later hb d3
      have e4 := cell_later hb d4
      have e5 := cell_later hb d5
      have e6 := cell_later hb d6
      have e7 := cell_later hb d7
      have e8 := cell_later hb d8
      have hba : Below wr.heap.size wr (wr.alloc (.cells #[.string s.name, .int .i64 s.type, .int .i64 s.flags, .int .i64 s.align, .int .i64 s.ent, .int .i64 s.link, .int .i64 s.size, .slice dp s.data.length dc, .slice rp s.rels.length rc] 48)) := (Below.refl _ wr).alloc (Nat.le_refl _) _
      have hha := heap_new wr (.cells #[.string s.name, .int .i64 s.type, .int .i64 s.flags, .int .i64 s.align, .int .i64 s.ent, .int .i64 s.link, .int .i64 s.size, .slice dp s.data.length dc, .slice rp s.rels.length rc] 48)
      have HS := Lib.hid (SecAt.of hha)
      have hbk : Below W1.heap.size W1 (wr.alloc (.cells #[.string s.name, .int .i64 s.type, .int .i64 s.flags, .int .i64 s.align, .int .i64 s.ent, .int .i64 s.link, .int .i64 s.size, .slice dp s.data.length dc, .slice rp s.rels.length rc] 48)) := hb.trans (hba.mono hb.size)
      have HM := Lib.hid fun W (hW : Below W1.heap.size W1 W) => ownMaySec_any s.name s.type s.flags s.align s.ent s.link s.size dp rp s.data.length dc s.rels.length rc s.data W (hdh.below EByte.keeps hW).has rfl l1 l2
      have HL := Lib.hid fun W => ownMayLink_any s.name s.type s.flags s.align s.ent s.link s.size (.slice dp s.data.length dc) rp s.rels.length rc dp s.data.length dc ((k : Int) + 1) (ql : Int) W rfl
      have HR := Lib.hid fun W (hW : Below W1.heap.size W1 W) => ownMayRels_any s.name s.type s.flags s.align s.ent s.link s.size dp rp s.data.length dc rc yl s.rels W (hrh.below ERel.keeps hW) (Nat.le_trans l1 l2) hyl
      have hsa : secAllO ql yl k s = (secO s.name s.type s.flags s.align s.ent s.size s.data.length s.rels.length (s.data.getLast? == some 0) && (linkO s.flags s.link ((k : Int) + 1) (ql : Int) && relsO yl s.data.length s.rels)) := rfl
      have hf := fun h => HF.out k s hsk h
      have hst := HST.out k s hsk
      generalize secAllO ql yl k s = sa at *
      generalize secO s.name s.type s.flags s.align s.ent s.size s.data.length s.rels.length (s.data.getLast? == some 0) = q1 at *
      generalize linkO s.flags s.link ((k : Int) + 1) (ql : Int) = q2 at *
      generalize relsO yl s.data.length s.rels = q3 at *
      have HSA := Lib.hid hsa
      have HFF := Lib.hid hf
      have HSS := Lib.hid hst
      have hJ : (k : Int) < (ql : Int) := by omega
      have k2 : (0 : Int) ≤ (k : Int) := by omega
      have kw : IntKind.i64.wrap ((k : Int) + 1) = (k : Int) + 1 := IntWalk.i64_in _ (by omega)
      clear hsk d0 d1 d2 d3 d4 d5 d6 d7 d8 hdh hrh l1 l2 m1 m2 hha hsa hf hst
      generalize s.data.length = dn at *
      generalize s.rels.length = rn at *
      go_upto_region 4 with fail
      generalize wr.alloc (.cells #[.string s.name, .int .i64 s.type, .int .i64 s.flags, .int .i64 s.align, .int .i64 s.ent, .int .i64 s.link, .int .i64 s.size, .slice dp dn dc, .slice rp rn rc] 48) = ws at *
      obtain ⟨s0, s1, s2, s3, s4, s5, s6, s7, s8⟩ := HS.out
      have hbks := hbk.size
      clear e0 e1 e2 e3 e4 e5 e6 e7 e8 hba hb
      go_wp2_with fail
      refine (HM.out _ hbk).mono ?_
      rintro e w2 ⟨rfl, hb2⟩
      have HS2 := Lib.hid (HS.out.later hb2)
      have hbk2 : Below W1.heap.size W1 w2 := hbk.trans (hb2.mono hbks)
      have hbk2s := hbk2.size
      clear s0 s1 s2 s3 s4 s5 s6 s7 s8 hb2 HS hbk
      obtain ⟨s0, s1, s2, s3, s4, s5, s6, s7, s8⟩ := HS2.out
      have b0 := cell_later hbk2 a0
      have b1 := cell_later hbk2 a1
      cases q1 with
      | false =>
        have hE := Lib.hid (HFF.out (by rw [HSA.out]; rfl))
        go_wp2_with fail
        go_ret
        rw [hE.out]
        exact ⟨rfl, HB1.out.trans (hbk2.mono hbs)⟩
      | true =>
        go_wp2_with fail
        refine (HL.out _).mono ?_
        rintro e w3 ⟨rfl, hb3⟩
        have HS3 := Lib.hid (HS2.out.later hb3)
        have hbk3 : Below W1.heap.size W1 w3 := hbk2.trans (hb3.mono hbk2s)
        have hbk3s := hbk3.size
        clear s0 s1 s2 s3 s4 s5 s6 s7 s8 hb3 HS2 hbk2 b0 b1
        obtain ⟨s0, s1, s2, s3, s4, s5, s6, s7, s8⟩ := HS3.out
        have b0 := cell_later hbk3 a0
        have b1 := cell_later hbk3 a1
        cases q2 with
        | false =>
          have hE := Lib.hid (HFF.out (by rw [HSA.out]; rfl))
          go_wp2_with fail
          go_ret
          rw [hE.out]
          exact ⟨rfl, HB1.out.trans (hbk3.mono hbs)⟩
        | true =>
          go_wp2_with fail
          refine (HR.out _ hbk3).mono ?_
          rintro e w4 ⟨rfl, hb4⟩
          have hbk4 : Below W1.heap.size W1 w4 := hbk3.trans (hb4.mono hbk3s)
          clear s0 s1 s2 s3 s4 s5 s6 s7 s8 hb4 HS3 hbk3 b0 b1
          cases q3 with
          | false =>
            have hE := Lib.hid (HFF.out (by rw [HSA.out]; rfl))
            go_wp2_with fail
            go_ret
            rw [hE.out]
            exact ⟨rfl, HB1.out.trans (hbk4.mono hbs)⟩
          | true =>
            have hE : Hid (eachB (secAllO ql yl) (secs.take (k + 1)) = true) := Lib.hid (by rw [HSS.out, HA.out, HSA.out]; rfl)
            go_wp2_with fail
            go_roundw
            case rel => exact ⟨k + 1, hlt, by go_num, hE.out, hbk4⟩
            case measure => simp [intOf]; omega
    · obtain rfl : k = ql := by omega
      have hJ : ¬ (k : Int) < (k : Int) := by omega
      have hE : Hid (res = true) := Lib.hid (by rw [← HALL.out]; exact HA.out)
      go_wp2_with fail
      go_ret
      rw [hE.out]
      exact ⟨rfl, HB1.out.trans (hb.mono hbs)⟩
end Go.Proofs.YtmcegjkkgbnjlaaGreat

namespace Go.Proofs.YtmcegjkkgbnjlaaGreat
open Go.RowKit

def sigO (hs : Bool) (yl : Nat) (l : List Int) : Bool := bif hs then l.all (fun n => inR n 0 ((yl : Int) - 1)) else (l.length == 0)
set_option maxRecDepth 100000 in
set_option maxHeartbeats 2000000 in
theorem ownMaySig_any (v0 v2 v4 : Value) (p1 : Option Addr) (yl c1 : Nat) (hs : Bool) (sig : List Int) (w : World) (hx : IsL 1 EInt w v4 sig) (hyl : yl ≤ 1000000) :
    Calls Tryz.prog 54 #[objV v0 (.slice p1 yl c1) v2 hs v4] w fun e w' => e = .returned (.bool (sigO hs yl sig)) ∧ Below w.heap.size w w' := by
  have hb1 : Below w.heap.size w (w.alloc (.cells #[v0, .slice p1 yl c1, v2, .bool hs, v4] 27)) := (Below.refl _ w).alloc (Nat.le_refl _) _
  have hq4 := hx.below EInt.keeps hb1
  obtain ⟨p4, c4, rfl, x1, x2, _, hxh⟩ := hq4
  have a1 : (w.alloc (.cells #[v0, .slice p1 yl c1, v2, .bool hs, .slice p4 sig.length c4] 27)).cell? ⟨w.heap.size, 1, none⟩ = some (.slice p1 yl c1) := by simp
  have a3 : (w.alloc (.cells #[v0, .slice p1 yl c1, v2, .bool hs, .slice p4 sig.length c4] 27)).cell? ⟨w.heap.size, 3, none⟩ = some (.bool hs) := by simp
  have a4 : (w.alloc (.cells #[v0, .slice p1 yl c1, v2, .bool hs, .slice p4 sig.length c4] 27)).cell? ⟨w.heap.size, 4, none⟩ = some (.slice p4 sig.length c4) := by simp
  have hr : sigO hs yl sig = bif hs then sig.all (fun n => inR n 0 ((yl : Int) - 1)) else (sig.length == 0) := rfl
  have HXH := Lib.hid hxh
  have HB1 := Lib.hid hb1
  generalize sigO hs yl sig = res at *
  have HR := Lib.hid hr
  have hxm := Nat.le_trans x1 x2
  unfold maxLen at hxm
  generalize hxl : sig.length = xl at *
  have HXL := Lib.hid hxl
  have kw : IntKind.i64.wrap ((yl : Int) - 1) = (yl : Int) - 1 := IntWalk.i64_in _ (by omega)
  clear hx hb1 hxh hr hxl x1 x2
  go_enter Tryz.func54, Tryz.ntmps54
  go_upto_region 1 with fail
  generalize w.alloc (.cells #[v0, .slice p1 yl c1, v2, .bool hs, .slice p4 xl c4] 27) = W1 at *
  cases hs with
  | false =>
    rcases Nat.eq_zero_or_pos xl with h0 | h0
    · subst h0
      have hE : Hid (res = true) := Lib.hid (by rw [HR.out]; rfl)
      go_wp2_with fail
      go_ret
      rw [hE.out]
      exact ⟨rfl, HB1.out⟩
    · have hne : ((xl : Int) == 0) = false := by simp; omega
      have hE : Hid (res = false) := Lib.hid (by
        rw [HR.out]
        show (xl == 0) = false
        simp
        omega)
      go_wp2_with fail
      go_ret
      rw [hE.out]
      exact ⟨by trivial, HB1.out⟩
  | true =>
    have hE : Hid (res = sig.all (fun n => inR n 0 ((yl : Int) - 1))) := Lib.hid (by rw [HR.out]; rfl)
    clear HR
    go_wp2_with fail
    go_loop [4, 15] (fun r4 r15 => ∃ (k : Nat), k ≤ xl ∧ r15 = .int .i64 (k : Int) ∧ (sig.take k).all (fun n => inR n 0 ((yl : Int) - 1)) = true) (fun _ r15 => xl - (intOf r15).toNat)
    case atStart => exact ⟨0, Nat.zero_le _, rfl, by simp⟩
    case round =>
      obtain ⟨k, hk, rfl, hall⟩ := hrel
      have HA := Lib.hid hall
      clear hall
      by_cases hlt : k < xl
      · obtain ⟨b, off, m, rfl, hm, x0, _⟩ := HXH.out.at_ (i := k) (by rw [HXL.out]; exact hlt)
        rw [Nat.mul_one] at x0
        have HW := Lib.hid fun W => ownWithin_any m 0 ((yl : Int) - 1) W
        have HT : Hid ((sig.take (k + 1)).all (fun n => inR n 0 ((yl : Int) - 1)) = inR m 0 ((yl : Int) - 1)) := Lib.hid (by rw [List.take_add_one, hm, List.all_append, HA.out]; simp)
        have HF : Hid (inR m 0 ((yl : Int) - 1) = false → res = false) := Lib.hid fun h => by
          rw [hE.out, List.all_eq_false]
          exact ⟨m, List.mem_of_getElem? hm, by rw [h]; simp⟩
        have hJ : (k : Int) < (xl : Int) := by omega
        have k2 : (0 : Int) ≤ (k : Int) := by omega
        generalize inR m 0 ((yl : Int) - 1) = q at *
        clear hm
        go_wp2_with fail
        refine (HW.out _).mono ?_
        rintro e w' ⟨rfl, rfl⟩
        cases q with
        | false =>
          have hE2 := Lib.hid (HF.out (by trivial))
          go_wp2_with fail
          go_ret
          rw [hE2.out]
          exact ⟨rfl, HB1.out⟩
        | true =>
          go_wp2_with fail
          go_round
          case rel => exact ⟨k + 1, hlt, by go_num, HT.out⟩
          case measure => simp [intOf]; omega
      · obtain rfl : k = xl := by omega
        have hJ : ¬ (k : Int) < (k : Int) := by omega
        have hE2 : Hid (res = true) := Lib.hid (by rw [hE.out]; have := HA.out; rwa [List.take_of_length_le (by rw [HXL.out]; exact Nat.le_refl _)] at this)
        go_wp2_with fail
        go_ret
        rw [hE2.out]
        exact ⟨rfl, HB1.out⟩
end Go.Proofs.YtmcegjkkgbnjlaaGreat

namespace Go.Proofs.YtmcegjkkgbnjlaaGreat
open Go.RowKit

theorem eachB_yes {α : Type} {f : Nat → α → Bool} {l : List α} (h : eachB f l = true) {i : Nat} {x : α} (hx : l[i]? = some x) : f i x = true := by
  cases hf : f i x with
  | true => rfl
  | false =>
    rw [eachB_no hx hf] at h
    cases h
theorem flag_neg {n : Int} (h : n < 0) : ∀ L : List Int, L.foldl flagStep n = n
  | [] => rfl
  | l :: r => by
    have e : flagStep n l = n := by
      unfold flagStep hasF
      rw [decide_eq_false (by omega)]
      simp
    rw [List.foldl_cons, e]
    exact flag_neg h r
theorem flag_sub (n : Int) : ∀ L : List Int, (∀ l ∈ L, 0 ≤ l) → n ≤ L.foldl flagStep n + L.sum
  | [], _ => by simp
  | l :: r, h => by
    have ih := flag_sub (flagStep n l) r fun x hx => h x (List.mem_cons_of_mem _ hx)
    have hl := h l (List.mem_cons_self ..)
    have e : n - l ≤ flagStep n l := by
      unfold flagStep
      split <;> omega
    rw [List.foldl_cons, List.sum_cons]
    omega
theorem flags_fit {n : Int} (h : flagsB n = true) : fitsB n = true := by
  unfold flagsB at h
  rw [beq_iff_eq] at h
  have h1 : 0 ≤ n := by
    by_cases hn : n < 0
    · rw [flag_neg hn] at h
      omega
    · omega
  have h2 := flag_sub n flagL (by decide)
  rw [h] at h2
  have h3 : flagL.sum = 2097847 := by decide
  exact (fitsB_iff n).2 ⟨h1, by omega⟩
theorem align_fit {n : Int} (h : alignB n = true) : fitsB n = true := by
  obtain ⟨i, hi, rfl⟩ := (alignB_iff n).1 h
  have := pow_bd i hi
  exact (fitsB_iff _).2 ⟨by omega, by omega⟩
theorem kind_fit {ty fl al en sz : Int} {dl rl : Nat} {z : Bool} (h : kindB ty fl al en sz dl rl z = true) :
    fitsB ty = true ∧ fitsB fl = true ∧ fitsB al = true ∧ fitsB en = true ∧ fitsB sz = true ∧ (ty ≠ 8 → sz = dl) := by
  unfold kindB at h
  simp only [Bool.cond_eq_ite] at h
  split at h
  · cases h
  · rename_i h1
    simp only [Bool.or_eq_true, Bool.not_eq_true', not_or, Bool.not_eq_false, Bool.and_eq_true] at h1
    obtain ⟨⟨hfl, hal⟩, _⟩ := h1
    have hfl := flags_fit hfl
    have hal := align_fit hal
    split at h
    · cases h
    · rename_i h2
      split at h
      · cases h
      · rename_i h3
        split at h
        · cases h
        · rename_i h4
          have hty : ty = 1 ∨ ty = 8 := by
            simp only [Bool.and_eq_true, bne_iff_ne, ne_eq, not_and, Decidable.not_not] at h4
            by_cases h : ty = 1
            · exact .inl h
            · exact .inr (h4 h)
          have hsz : 0 ≤ sz ∧ sz ≤ 2147483647 ∧ (ty ≠ 8 → sz = dl) := by
            rcases hty with rfl | rfl
            · simp at h2
              omega
            · simp at h3
              omega
          have hty2 : fitsB ty = true := by rcases hty with rfl | rfl <;> rfl
          have hen : fitsB en = true := by
            split at h
            · simp at h
              rw [h.1]
              rfl
            · split at h
              · cases h
              · split at h
                · simp at h
                  rw [h.1.1]
                  rfl
                · simp at h
                  rcases h.1.1 with (rfl | rfl) | rfl <;> rfl
          exact ⟨hty2, hfl, hal, hen, (fitsB_iff sz).2 ⟨hsz.1, hsz.2.1⟩, hsz.2.2⟩
/-- Few of everything. -/
structure SmallD (o : ObjD) : Prop where
  secs : o.secs.length ≤ 40
  syms : o.syms.length ≤ 140
  grps : o.groups.length ≤ 40
  sig : o.sig.length ≤ 16384
  data : ∀ s ∈ o.secs, s.data.length ≤ 20000 ∧ s.rels.length ≤ 80
  mems : ∀ g ∈ o.groups, g.members.length ≤ 50
/-- Not so many that a number would not hold them. -/
structure FewD (o : ObjD) : Prop where
  secs : o.secs.length ≤ 1000000
  syms : o.syms.length ≤ 1000000
  grps : o.groups.length ≤ 1000000
  data : ∀ s ∈ o.secs, s.data.length ≤ 1000000
  mems : ∀ g ∈ o.groups, g.members.length ≤ 1000000
theorem SmallD.few {o : ObjD} (h : SmallD o) : FewD o := ⟨by have := h.secs; omega, by have := h.syms; omega, by have := h.grps; omega, fun s hs => by have := (h.data s hs).1; omega, fun g hg => by have := h.mems g hg; omega⟩
def AddBd (o : ObjD) : Prop := ∀ s ∈ o.secs, ∀ r ∈ s.rels, -9223372036854775808 ≤ r.add ∧ r.add ≤ 9223372036854775807
theorem shape_lays {o : ObjD} (h : shapeB o = true) (hs : SmallD o) (hb : AddBd o) : Lays o := by
  unfold shapeB at h
  simp only [Bool.and_eq_true] at h
  obtain ⟨⟨⟨⟨hh, hg⟩, hq⟩, hy⟩, hx⟩ := h
  have hql : o.secs.length ≤ 32 := by
    unfold headOK at hh
    simp only [Bool.and_eq_true, decide_eq_true_eq] at hh
    exact hh.1.1.1
  have hyl : o.syms.length ≤ 128 := by
    unfold headOK at hh
    simp only [Bool.and_eq_true, decide_eq_true_eq] at hh
    exact hh.1.2
  refine ⟨hs.secs, hs.syms, hs.grps, hs.sig, fun s hm => ?_, fun g hm => ?_, fun s hm => ?_, fun n hm => ?_⟩
  · obtain ⟨k, hk⟩ := List.getElem?_of_mem hm
    have h1 := eachB_yes hq hk
    unfold secOK at h1
    simp only [Bool.cond_eq_ite] at h1
    split at h1
    · cases h1
    · rename_i h2
      simp only [Bool.or_eq_true, Bool.not_eq_true', not_or, Bool.not_eq_false] at h2
      obtain ⟨⟨hn, hk1⟩, hr⟩ := h2
      split at h1
      · cases h1
      · rename_i h3
        obtain ⟨k1, k2, k3, k4, k5, k6⟩ := kind_fit hk1
        have hli : fitsB s.link = true := by
          cases ho : hasF s.flags 128 with
          | true =>
            rw [ho] at h3
            simp at h3
            exact (fitsB_iff _).2 ⟨by omega, by omega⟩
          | false =>
            rw [ho] at h3
            simp at h3
            rw [h3]
            rfl
        have hsd := hs.data s hm
        refine ⟨k1, k2, k5, hli, k3, k4, hn, hsd.1, hsd.2, k6, fun r hrm => ⟨?_, hb s hm r hrm⟩⟩
        obtain ⟨i, hi⟩ := List.getElem?_of_mem hrm
        unfold relsB at hr
        rw [Bool.and_eq_true] at hr
        have h5 := List.all_eq_true.1 hr.2 i (List.mem_range.2 (List.getElem?_eq_some_iff.1 hi).1)
        rw [relAtB_of hi, Bool.and_eq_true] at h5
        have h6 := h5.1
        unfold relOK at h6
        rw [Bool.and_eq_true] at h6
        exact of_decide_eq_true h6.1
  · obtain ⟨k, hk⟩ := List.getElem?_of_mem hm
    have h1 := eachB_yes (f := fun _ => grpOK o.secs.length o.syms.length) hg hk
    unfold grpOK at h1
    simp only [Bool.and_eq_true, decide_eq_true_eq] at h1
    obtain ⟨⟨⟨g1, g2⟩, _⟩, g4⟩ := h1
    refine ⟨(fitsB_iff _).2 ⟨by omega, by omega⟩, hs.mems g hm, fun m hmm => ?_⟩
    obtain ⟨j, hj⟩ := List.getElem?_of_mem hmm
    have h2 := eachB_yes g4 hj
    unfold memOK at h2
    simp only [Bool.and_eq_true, decide_eq_true_eq] at h2
    exact (fitsB_iff _).2 ⟨by omega, by omega⟩
  · obtain ⟨k, hk⟩ := List.getElem?_of_mem hm
    have h1 := eachB_yes hy hk
    unfold symOK at h1
    match k, h1 with
    | 0, h1 =>
      simp only [sym0B, Bool.and_eq_true, beq_iff_eq] at h1
      obtain ⟨⟨⟨⟨⟨n0, b0⟩, t0⟩, s0⟩, v0⟩, z0⟩ := h1
      have hn : s.name = ByteArray.empty := by
        rw [← decide_eq_emptyBytes] at n0
        exact of_decide_eq_true n0
      rw [hn, b0, t0, s0, v0, z0]
      exact ⟨rfl, rfl, rfl, by omega, by omega, by omega, by omega, by omega, by omega⟩
    | j + 1, h1 =>
      have hj : j < o.syms.length := by have := (List.getElem?_eq_some_iff.1 hk).1; omega
      simp only [List.getElem?_eq_getElem hj] at h1
      unfold symNB at h1
      simp only [Bool.cond_eq_ite] at h1
      split at h1
      · cases h1
      · rename_i h2
        simp at h2
        split at h1
        · cases h1
        · rename_i h3
          simp at h3
          obtain ⟨⟨⟨⟨⟨⟨m1, m2⟩, m3⟩, m4⟩, m5⟩, m6⟩, m7⟩ := h2
          obtain ⟨⟨⟨n1, n2⟩, n3⟩, n4⟩ := h3
          exact ⟨m1, (fitsB_iff _).2 ⟨n3, n4⟩, (fitsB_iff _).2 ⟨m6, m7⟩, m2, m3, m4, m5, n1, by omega⟩
  · obtain ⟨k, hk⟩ := List.getElem?_of_mem hm
    have h1 := eachB_yes (f := fun _ => sigOK o.syms.length) hx hk
    unfold sigOK at h1
    simp only [Bool.and_eq_true, decide_eq_true_eq] at h1
    exact (fitsB_iff _).2 ⟨by omega, by omega⟩
/-- May an object be? -/
def mayO (o : ObjD) : Bool := shapeB o && decide ((bytesOf o).length ≤ 16384)
theorem add_bd {w : World} {v0 v1 v2 v4 : Value} {o : ObjD} (hp : ObjParts w v0 v1 v2 v4 o) : AddBd o := fun s hs r hr => by
  obtain ⟨⟨p, c, _, _, _, _, hh⟩, _⟩ := hp
  obtain ⟨i, hi⟩ := List.getElem?_of_mem hs
  obtain ⟨b, off, _, _, _, _, _, _, _, _, _, ⟨v, _, q, c2, _, _, _, _, hr2⟩⟩ := hh i s hi
  obtain ⟨j, hj⟩ := List.getElem?_of_mem hr
  obtain ⟨_, _, _, _, _, _, ⟨_, hb⟩⟩ := hr2 j r hj
  exact hb
end Go.Proofs.YtmcegjkkgbnjlaaGreat

namespace Go.Proofs.YtmcegjkkgbnjlaaGreat
open Go.RowKit

theorem eachB_iff {α : Type} {f : Nat → α → Bool} {l : List α} : eachB f l = true ↔ ∀ (i : Nat) (x : α), l[i]? = some x → f i x = true := by
  constructor
  · intro h i x hx
    exact eachB_yes h hx
  · intro h
    unfold eachB
    rw [List.all_eq_true]
    rintro ⟨x, i⟩ hm
    exact h i x (List.mem_zipIdx_iff_getElem?.1 hm)
theorem eachB_cons {α : Type} {f : Nat → α → Bool} {x : α} {l : List α} : eachB f (x :: l) = (f 0 x && eachB (fun i => f (i + 1)) l) := by
  rw [Bool.eq_iff_iff, Bool.and_eq_true, eachB_iff, eachB_iff]
  constructor
  · intro h
    exact ⟨h 0 x rfl, fun i y hy => h (i + 1) y (by simpa using hy)⟩
  · rintro ⟨h0, h1⟩ i y hy
    match i, hy with
    | 0, hy => simp at hy; subst hy; exact h0
    | i + 1, hy => exact h1 i y (by simpa using hy)
theorem inR_iff {n a b : Int} : inR n a b = true ↔ a ≤ n ∧ n ≤ b := by
  unfold inR
  simp

/-! ## Sig -/
theorem sig_eq (hs : Bool) (yl : Nat) (l : List Int) : sigO hs yl l = ((hs || l.length == 0) && eachB (fun _ => sigOK yl) l) := by
  rw [Bool.eq_iff_iff, Bool.and_eq_true, eachB_iff]
  unfold sigO
  cases hs with
  | true =>
    simp only [Bool.true_or, true_and, cond_true, List.all_eq_true]
    constructor
    · intro h i x hx
      have := inR_iff.1 (h x (List.mem_of_getElem? hx))
      unfold sigOK
      simp
      omega
    · intro h x hx
      obtain ⟨i, hi⟩ := List.getElem?_of_mem hx
      have := h i x hi
      unfold sigOK at this
      simp at this
      exact inR_iff.2 (by omega)
  | false =>
    simp only [Bool.false_or, cond_false, beq_iff_eq]
    constructor
    · intro h
      refine ⟨h, fun i x hx => ?_⟩
      have := (List.getElem?_eq_some_iff.1 hx).1
      omega
    · exact fun h => h.1

/-! ## Symbols -/
theorem sym_step (secs : List SecD) (before : Int) (s : SymD) : (bif (s.bind == 0) && !(before == 0) then false else symO s && valO secs s) = symNB secs before s := by
  unfold symO valO symNB
  show _ = bif !mayB (lst s.name) || _ || _ || _ || _ || _ || _ then _ else _
  generalize mayB (lst s.name) = m
  generalize s.name.toList.isEmpty = e
  generalize secSize secs s.sec = z
  rw [Bool.eq_iff_iff]
  unfold inR
  cases m <;> cases e <;> simp <;> (try split) <;> omega
theorem symsGo_iff (secs : List SecD) : ∀ (t : List SymD) (p : SymD), symsGoO secs (p.bind == 0) t = true ↔ ∀ (k : Nat) (s q : SymD), t[k]? = some s → (p :: t)[k]? = some q → symNB secs q.bind s = true
  | [], p => by simp [symsGoO]
  | x :: t, p => by
    have ih := symsGo_iff secs t x
    have hs := sym_step secs p.bind x
    have e : symsGoO secs (p.bind == 0) (x :: t) = (symNB secs p.bind x && symsGoO secs (x.bind == 0) t) := by
      rw [← hs]
      show (bif (x.bind == 0) && !(p.bind == 0) then false else symO x && (valO secs x && symsGoO secs (x.bind == 0) t)) = _
      generalize symsGoO secs (x.bind == 0) t = r
      generalize ((x.bind == 0) && !(p.bind == 0)) = c
      cases c <;> simp [Bool.and_assoc]
    rw [e, Bool.and_eq_true, ih]
    constructor
    · rintro ⟨h0, h1⟩ k s q hk hq
      match k, hk, hq with
      | 0, hk, hq => simp at hk hq; subst hk hq; exact h0
      | k + 1, hk, hq => exact h1 k s q (by simpa using hk) (by simpa using hq)
    · intro h
      exact ⟨h 0 x p rfl rfl, fun k s q hk hq => h (k + 1) s q (by simpa using hk) (by simpa using hq)⟩
theorem syms_eq (o : ObjD) : symsO o.secs o.syms = (decide (1 ≤ o.syms.length) && decide (o.syms.length ≤ 128) && eachB (symOK o) o.syms) := by
  have hso : ∀ t, symsO o.secs t = bif decide (128 < t.length) then false else sym0O t && symsGoO o.secs true (t.drop 1) := fun t => rfl
  cases hl : o.syms with
  | nil => rfl
  | cons p t =>
    rw [hso]
    by_cases h128 : 128 < (p :: t).length
    · rw [decide_eq_true h128, decide_eq_false (show ¬ (p :: t).length ≤ 128 by omega)]
      simp
    · rw [decide_eq_false h128, decide_eq_true (show (p :: t).length ≤ 128 by omega), decide_eq_true (show 1 ≤ (p :: t).length by simp)]
      show (sym0B p && symsGoO o.secs true t) = (true && true && eachB (symOK o) (p :: t))
      rw [Bool.and_self, Bool.true_and, eachB_cons]
      show _ = (sym0B p && _)
      cases h0 : sym0B p with
      | false => rfl
      | true =>
        have hb : (p.bind == 0) = true := by
          unfold sym0B at h0
          simp only [Bool.and_eq_true] at h0
          exact h0.1.1.1.1.2
        rw [Bool.true_and, Bool.true_and, show symsGoO o.secs true t = symsGoO o.secs (p.bind == 0) t by rw [hb], Bool.eq_iff_iff, symsGo_iff, eachB_iff]
        constructor
        · intro h i x hx
          show (match o.syms[i]? with | none => true | some p => symNB o.secs p.bind x) = true
          rw [hl]
          cases hq : (p :: t)[i]? with
          | none => rfl
          | some q => exact h i x q hx hq
        · intro h k s q hk hq
          have := h k s hk
          change (match o.syms[k]? with | none => true | some p => symNB o.secs p.bind s) = true at this
          rw [hl, hq] at this
          exact this

/-! ## Relocations -/
theorem rel_step {yl dl : Nat} (hy : yl ≤ 2147483648) (hd : dl ≤ 2147483647) {e : Int} (he : 0 ≤ e) (r : RelD) :
    ((widthI r.type != 0) && (inR r.sym 0 ((yl : Int) - 1) && inR r.off e ((dl : Int) - widthI r.type))) = (decide (e ≤ r.off) && relOK yl dl r) := by
  have hw := widthI_bd r.type
  unfold relOK Fou.may
  show _ = (_ && (decide (fitsB r.off = true ∧ fitsB r.sym = true ∧ 0 < widthI r.type) && _))
  generalize widthI r.type = w at *
  rw [Bool.eq_iff_iff]
  simp only [Bool.and_eq_true, bne_iff_ne, inR_iff, decide_eq_true_eq, fitsB_iff]
  omega
def behindE (e : Int) (rs : List RelD) (i : Nat) (r : RelD) : Prop := match i with
  | 0 => e ≤ r.off
  | j + 1 => ∀ p, rs[j]? = some p → p.off + widthI p.type ≤ r.off
theorem relsGo_iff {yl dl : Nat} (hy : yl ≤ 2147483648) (hd : dl ≤ 2147483647) : ∀ (rs : List RelD) (e : Int), 0 ≤ e → (relsGoO yl dl e rs = true ↔ ∀ (i : Nat) (r : RelD), rs[i]? = some r → relOK yl dl r = true ∧ behindE e rs i r)
  | [], e, _ => by simp [relsGoO]
  | x :: t, e, he => by
    have hs := rel_step hy hd he x
    have e1 : relsGoO yl dl e (x :: t) = ((decide (e ≤ x.off) && relOK yl dl x) && relsGoO yl dl (x.off + widthI x.type) t) := by
      rw [← hs]
      show ((widthI x.type != 0) && (inR x.sym 0 ((yl : Int) - 1) && (inR x.off e ((dl : Int) - widthI x.type) && relsGoO yl dl (x.off + widthI x.type) t))) = _
      simp only [Bool.and_assoc]
    rw [e1, Bool.and_eq_true, Bool.and_eq_true, decide_eq_true_eq]
    have hw := widthI_bd x.type
    constructor
    · rintro ⟨⟨h0, h1⟩, h2⟩ i r hr
      have ih := (relsGo_iff hy hd t (x.off + widthI x.type) (by omega)).1 h2
      match i, hr with
      | 0, hr => simp at hr; subst hr; exact ⟨h1, h0⟩
      | i + 1, hr =>
        obtain ⟨g1, g2⟩ := ih i r (by simpa using hr)
        refine ⟨g1, fun p hp => ?_⟩
        match i, hp, g2 with
        | 0, hp, g2 => simp at hp; subst hp; exact g2
        | i + 1, hp, g2 => exact g2 p (by simpa using hp)
    · intro h
      obtain ⟨g1, g2⟩ := h 0 x rfl
      have h0 : e ≤ x.off := g2
      refine ⟨⟨h0, g1⟩, (relsGo_iff hy hd t (x.off + widthI x.type) (by omega)).2 fun i r hr => ?_⟩
      obtain ⟨k1, k2⟩ := h (i + 1) r (by simpa using hr)
      refine ⟨k1, ?_⟩
      match i, k2 with
      | 0, k2 => exact k2 x rfl
      | i + 1, k2 => exact fun p hp => k2 p (by simpa using hp)
theorem rels_eq {yl dl : Nat} (hy : yl ≤ 2147483648) (hd : dl ≤ 2147483647) (rs : List RelD) : relsO yl dl rs = relsB yl dl rs := by
  unfold relsO relsB
  by_cases h : 64 < rs.length
  · rw [decide_eq_true h, decide_eq_false (show ¬ rs.length ≤ 64 by omega)]
    rfl
  · rw [decide_eq_false h, decide_eq_true (show rs.length ≤ 64 by omega), cond_false, Bool.true_and, Bool.eq_iff_iff, relsGo_iff hy hd rs 0 (Int.le_refl _), List.all_eq_true]
    constructor
    · intro h i hi
      cases hr : rs[i]? with
      | none => unfold relAtB; rw [hr]
      | some r =>
        obtain ⟨g1, g2⟩ := h i r hr
        rw [relAtB_of hr, g1, Bool.true_and]
        match i, g2 with
        | 0, _ => rfl
        | i + 1, g2 =>
          show (match rs[i]? with | none => true | some p => relBehind p r) = true
          cases hp : rs[i]? with
          | none => rfl
          | some p => exact decide_eq_true (g2 p hp)
    · intro h i r hr
      have := h i (List.mem_range.2 (List.getElem?_eq_some_iff.1 hr).1)
      rw [relAtB_of hr, Bool.and_eq_true] at this
      obtain ⟨g1, g2⟩ := this
      refine ⟨g1, ?_⟩
      match i, g2 with
      | 0, _ =>
        unfold relOK at g1
        rw [Bool.and_eq_true] at g1
        have hm : r.fou.may := of_decide_eq_true g1.1
        exact ((fitsB_iff _).1 hm.1).1
      | i + 1, g2 =>
        intro p hp
        change (match rs[i]? with | none => true | some p => relBehind p r) = true at g2
        rw [hp] at g2
        exact of_decide_eq_true g2
end Go.Proofs.YtmcegjkkgbnjlaaGreat

namespace Go.Proofs.YtmcegjkkgbnjlaaGreat
open Go.RowKit

/-! ## Flags -/
theorem bit_div (n j : Nat) : n.testBit j = (n / 2 ^ j % 2 == 1) := by
  rw [Nat.testBit_eq_decide_div_mod_eq]
  rfl
theorem clear_bit {n j : Nat} (h : n.testBit j = true) (i : Nat) : (n - 2 ^ j).testBit i = (n.testBit i && !(i == j)) := by
  rw [bit_div, beq_iff_eq] at h
  have hr : n % 2 ^ j < 2 ^ j := Nat.mod_lt _ (Nat.two_pow_pos j)
  have h1 := Nat.div_add_mod n (2 ^ j)
  have h2 : n / 2 ^ j = 2 * (n / 2 ^ j / 2) + 1 := by omega
  generalize n % 2 ^ j = r at *
  generalize n / 2 ^ j / 2 = q at *
  rw [h2] at h1
  have e1 : n - 2 ^ j = 2 ^ j * (2 * q) + r := by
    rw [Nat.mul_add, Nat.mul_one] at h1
    omega
  rw [e1, ← h1, Nat.testBit_two_pow_mul_add _ hr, Nat.testBit_two_pow_mul_add _ hr]
  by_cases hij : i < j
  · rw [if_pos hij, if_pos hij, show (i == j) = false by simp; omega]
    simp
  · rw [if_neg hij, if_neg hij]
    by_cases he : i = j
    · subst he
      simp
    · obtain ⟨k, hk⟩ : ∃ k, i - j = k + 1 := ⟨i - j - 1, by omega⟩
      rw [hk, Nat.testBit_succ, Nat.testBit_succ, show (2 * q) / 2 = q by omega, show (2 * q + 1) / 2 = q by omega, show (i == j) = false by simpa using he]
      simp
theorem step_bit (n j : Nat) : ∃ m : Nat, flagStep (n : Int) (2 ^ j) = (m : Int) ∧ ∀ i, m.testBit i = (n.testBit i && !(i == j)) := by
  have hd : ((n : Int) / 2 ^ j).tmod 2 = ((n / 2 ^ j % 2 : Nat) : Int) := by
    rw [show (2 : Int) ^ j = ((2 ^ j : Nat) : Int) by push_cast; rfl, ← Int.natCast_ediv, Int.tmod_eq_emod_of_nonneg (Int.natCast_nonneg _)]
    rfl
  have hh : hasF (n : Int) (2 ^ j) = n.testBit j := by
    unfold hasF
    rw [decide_eq_true (Int.natCast_nonneg n), Bool.true_and, hd, bit_div, Bool.eq_iff_iff]
    simp only [beq_iff_eq]
    omega
  unfold flagStep
  rw [hh]
  cases hb : n.testBit j with
  | true =>
    have hle : 2 ^ j ≤ n := Nat.ge_two_pow_of_testBit hb
    refine ⟨n - 2 ^ j, ?_, clear_bit hb⟩
    rw [if_pos rfl, Int.ofNat_sub hle]
    push_cast
    rfl
  | false =>
    refine ⟨n, by simp, fun i => ?_⟩
    by_cases he : i = j
    · subst he; simp [hb]
    · rw [show (i == j) = false by simpa using he]
      simp
theorem fold_bit : ∀ (js : List Nat) (n : Nat), ∃ m : Nat, (js.map fun j => (2 : Int) ^ j).foldl flagStep (n : Int) = (m : Int) ∧ ∀ i, m.testBit i = (n.testBit i && !js.contains i)
  | [], n => ⟨n, rfl, fun i => by simp⟩
  | j :: js, n => by
    obtain ⟨m, h1, h2⟩ := step_bit n j
    obtain ⟨m', h3, h4⟩ := fold_bit js m
    refine ⟨m', ?_, fun i => ?_⟩
    · rw [List.map_cons, List.foldl_cons, h1, h3]
    · rw [h4, h2, List.contains_cons]
      cases n.testBit i <;> cases (i == j) <;> simp
def flagJ : List Nat := [0, 1, 2, 4, 5, 7, 9, 21]
theorem flagJ_eq : (flagJ.map fun j => (2 : Int) ^ j) = flagL := by decide
theorem mask_bit : ∀ i, i < 64 → (2097847 : Nat).testBit i = flagJ.contains i := by decide
theorem wrap_zero {n : Nat} (h : n < 2 ^ 64) : (IntKind.i64.wrap (n : Int) == 0) = (n == 0) := by
  rw [Bool.eq_iff_iff, beq_iff_eq, beq_iff_eq, IntKind.wrap_i64]
  have : (2 : Nat) ^ 64 = 18446744073709551616 := by decide
  omega
theorem flags_eq {fl : Int} (h0 : -9223372036854775808 ≤ fl) (h1 : fl ≤ 9223372036854775807) : (bits .andNot .i64 fl 2097847 == 0) = flagsB fl := by
  show (IntKind.i64.wrap (((BitVec.ofInt 64 fl &&& ~~~BitVec.ofInt 64 2097847).toNat : Nat) : Int) == 0) = _
  rw [wrap_zero (BitVec.isLt _)]
  by_cases hn : fl < 0
  · have e : flagsB fl = false := by
      unfold flagsB
      rw [flag_neg hn]
      simp
      omega
    rw [e]
    have hm : (BitVec.ofInt 64 fl &&& ~~~BitVec.ofInt 64 2097847).msb = true := by
      rw [BitVec.msb_and]
      have m1 : (BitVec.ofInt 64 fl).msb = true := by
        rw [BitVec.msb_eq_toInt, BitVec.toInt_ofInt_eq_self (by decide) (by omega) (by omega)]
        simpa using hn
      have m2 : (~~~BitVec.ofInt 64 2097847).msb = true := by decide
      rw [m1, m2]
      rfl
    rw [beq_eq_false_iff_ne]
    intro hz
    have : BitVec.ofInt 64 fl &&& ~~~BitVec.ofInt 64 2097847 = 0#64 := BitVec.eq_of_toNat_eq (by simpa using hz)
    rw [this] at hm
    simp at hm
  · obtain ⟨n, rfl⟩ := Int.eq_ofNat_of_zero_le (show 0 ≤ fl by omega)
    have hn64 : n < 2 ^ 64 := by
      have : (2 : Nat) ^ 64 = 18446744073709551616 := by decide
      omega
    obtain ⟨m, hm1, hm2⟩ := fold_bit flagJ n
    rw [flagJ_eq] at hm1
    have e : flagsB (n : Int) = (m == 0) := by
      unfold flagsB
      rw [hm1, Bool.eq_iff_iff, beq_iff_eq, beq_iff_eq]
      omega
    rw [e, Bool.eq_iff_iff, beq_iff_eq, beq_iff_eq]
    have hbit : ∀ i, i < 64 → (BitVec.ofInt 64 (n : Int) &&& ~~~BitVec.ofInt 64 2097847).toNat.testBit i = (n.testBit i && !flagJ.contains i) := fun i hi => by
      rw [← mask_bit i hi]
      rw [BitVec.testBit_toNat, BitVec.getLsbD_and, BitVec.getLsbD_not, BitVec.ofInt_natCast, show (2097847 : Int) = ((2097847 : Nat) : Int) from rfl, BitVec.ofInt_natCast, BitVec.getLsbD_ofNat, BitVec.getLsbD_ofNat, decide_eq_true hi]
      simp
    constructor
    · intro hz
      refine Nat.eq_of_testBit_eq fun i => ?_
      rw [hm2, Nat.zero_testBit]
      by_cases hi : i < 64
      · rw [← hbit i hi, hz, Nat.zero_testBit]
      · have : n.testBit i = false := Nat.testBit_lt_two_pow (Nat.lt_of_lt_of_le hn64 (Nat.pow_le_pow_right (by omega) (by omega)))
        rw [this]
        rfl
    · intro hz
      refine Nat.eq_of_testBit_eq fun i => ?_
      rw [Nat.zero_testBit]
      by_cases hi : i < 64
      · rw [hbit i hi, ← hm2, hz, Nat.zero_testBit]
      · exact Nat.testBit_lt_two_pow (Nat.lt_of_lt_of_le (BitVec.isLt _) (Nat.pow_le_pow_right (by omega) (by omega)))

/-! ## Align -/
theorem pow2_dec : (List.range 4097).all (fun n => (decide (1 ≤ n) && (n &&& (n - 1)) == 0) == (List.range 13).any fun i => n == 2 ^ i) = true := by decide +kernel
theorem align_eq (al : Int) : (inR al 1 4096 && (bits .and .i64 al (al - 1) == 0)) = alignB al := by
  by_cases h : 1 ≤ al ∧ al ≤ 4096
  · obtain ⟨n, rfl⟩ := Int.eq_ofNat_of_zero_le (show 0 ≤ al by omega)
    have h1 := List.all_eq_true.1 pow2_dec n (List.mem_range.2 (by omega))
    rw [beq_iff_eq, decide_eq_true (by omega), Bool.true_and] at h1
    have hp : (2 : Nat) ^ 63 = 9223372036854775808 := by decide
    have hb := (bits_nat .i64 63 (by decide) wraps_i64 n (n - 1) (by omega) (by omega)).1
    rw [show ((n - 1 : Nat) : Int) = (n : Int) - 1 by omega] at hb
    rw [hb, inR_iff.2 h, Bool.true_and]
    have e : alignB (n : Int) = (List.range 13).any fun i => n == 2 ^ i := by
      unfold alignB
      congr 1
      funext i
      rw [Bool.eq_iff_iff, beq_iff_eq, beq_iff_eq, show (2 : Int) ^ i = ((2 ^ i : Nat) : Int) by push_cast; rfl]
      omega
    rw [e, ← h1, Bool.eq_iff_iff, beq_iff_eq, beq_iff_eq]
    omega
  · have e1 : inR al 1 4096 = false := by
      rw [Bool.eq_false_iff]
      intro hc
      exact h (inR_iff.1 hc)
    have e2 : alignB al = false := by
      rw [Bool.eq_false_iff]
      intro hc
      obtain ⟨i, hi, rfl⟩ := (alignB_iff al).1 hc
      have := pow_bd i hi
      exact h (by omega)
    rw [e1, e2]
    rfl

/-! ## A section alone -/
theorem sec_eq (nm : ByteArray) (ty al en sz : Int) {fl : Int} (dl rl : Nat) (last0 : Bool) (h0 : -9223372036854775808 ≤ fl) (h1 : fl ≤ 9223372036854775807) :
    secO nm ty fl al en sz dl rl last0 = (mayB (lst nm) && kindB ty fl al en sz dl rl last0) := by
  have hs : secO nm ty fl al en sz dl rl last0 = (mayB (lst nm) && (flagsB fl && (alignB al && (typeO ty fl sz dl && mergeO fl al en sz dl rl last0)))) := by
    rw [← flags_eq h0 h1, ← align_eq]
    unfold secO
    simp only [Bool.and_assoc]
  rw [hs]
  congr 1
  cases hf : flagsB fl with
  | false =>
    unfold kindB
    rw [hf]
    rfl
  | true =>
    have hp := (fitsB_iff fl).1 (flags_fit hf)
    have e0 : hasO fl 1 = hasF fl 1 := hasO_eq 0 (by omega) hp.1 h1
    have e2 : hasO fl 4 = hasF fl 4 := hasO_eq 2 (by omega) hp.1 h1
    have e4 : hasO fl 16 = hasF fl 16 := hasO_eq 4 (by omega) hp.1 h1
    have e5 : hasO fl 32 = hasF fl 32 := hasO_eq 5 (by omega) hp.1 h1
    unfold typeO mergeO kindB
    rw [hf, e0, e2, e4, e5]
    unfold inR
    generalize hasF fl 1 = a
    generalize hasF fl 4 = b
    generalize hasF fl 16 = c
    generalize hasF fl 32 = d
    generalize alignB al = g
    generalize (sz.tmod en == 0) = t
    rw [Bool.eq_iff_iff]
    cases a <;> cases b <;> cases c <;> cases d <;> cases g <;> cases t <;> cases last0 <;> simp <;> (try split) <;> (try split) <;> omega
end Go.Proofs.YtmcegjkkgbnjlaaGreat
