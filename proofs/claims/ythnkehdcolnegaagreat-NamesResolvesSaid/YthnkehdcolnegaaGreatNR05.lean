/-
  Contracts of strings.Compare, and of what names hands to the library with it.
  Contract of the reference's Find: a name's definition.
  Contract of the reference's own: where a symbol of an object itself is.
-/
import Derived.Test.YthnkehdcolnegaaGreatNR04
import Derived.Lib.Bytealg
import Derived.Laws.Externs
namespace Go.Proofs.YthnkehdcolnegaaGreat
open Go.RowKit

/-- -1, 0 or 1. -/
def cmpS (a b : ByteArray) : Int := Lib.compareBytes a.data.toList b.data.toList
theorem cmpL_lt : ∀ x y : List UInt8, (Lib.compareBytes x y < 0 ↔ x < y) ∧ (Lib.compareBytes x y = 0 ↔ x = y) ∧ (-1 ≤ Lib.compareBytes x y ∧ Lib.compareBytes x y ≤ 1)
  | [], [] => by simp [Lib.compareBytes]
  | [], b :: y => by simp [Lib.compareBytes]
  | a :: x, [] => by simp [Lib.compareBytes]
  | a :: x, b :: y => by
    obtain ⟨h1, h2, h3⟩ := cmpL_lt x y
    unfold Lib.compareBytes
    rw [List.cons_lt_cons_iff]
    by_cases hab : a < b
    · rw [if_pos hab]
      have hne : a ≠ b := fun e => by subst e; exact absurd hab (UInt8.lt_irrefl a)
      refine ⟨⟨fun _ => .inl hab, fun _ => by decide⟩, ⟨(fun h => by cases h), fun h => absurd (List.cons.inj h).1 hne⟩, by decide⟩
    · rw [if_neg hab]
      by_cases hba : b < a
      · rw [if_pos hba]
        have hne : a ≠ b := fun e => by subst e; exact absurd hba (UInt8.lt_irrefl a)
        refine ⟨⟨fun h => by omega, fun h => ?_⟩, ⟨(fun h => by cases h), fun h => absurd (List.cons.inj h).1 hne⟩, by decide⟩
        rcases h with h | ⟨h, _⟩
        · exact absurd h hab
        · exact absurd h hne
      · rw [if_neg hba]
        have he : a = b := UInt8.le_antisymm (UInt8.not_lt.1 hba) (UInt8.not_lt.1 hab)
        subst he
        refine ⟨?_, ?_, h3⟩
        · rw [h1]
          exact ⟨fun h => .inr ⟨rfl, h⟩, fun h => h.elim (fun h => absurd h hab) fun h => h.2⟩
        · rw [h2]
          simp
theorem cmpS_lt {a b : ByteArray} : cmpS a b < 0 ↔ sLt a b = true := by
  rw [sLt_iff]
  exact (cmpL_lt _ _).1
theorem cmpS_eq {a b : ByteArray} : cmpS a b = 0 ↔ a = b := by
  unfold cmpS
  rw [(cmpL_lt _ _).2.1]
  exact ⟨fun h => ByteArray.ext (Array.ext' h), fun h => by rw [h]⟩
set_option maxRecDepth 100000 in
theorem cmpString_any (a b : ByteArray) (w : World) : Calls Tryz.prog 111 #[.string a, .string b] w fun e w' => e = .returned (.int .i64 (cmpS a b)) ∧ w = w' := by
  go_enter Tryz.func111, Tryz.ntmps111
  go_wp2_with fail
  rw [run_callFunc_extern Tryz.func162 (by kernel_rfl) (by kernel_rfl) (by kernel_rfl) (e := Extern.BytealgCompare.compare) (by kernel_rfl), Lib.run_compareString]
  simp only [Result.andThen]
  rw [Oper.upon_value]
  go_wp2_with fail
  go_ret
  exact ⟨rfl, rfl⟩
set_option maxRecDepth 100000 in
theorem compare_any (a b : ByteArray) (w : World) : Calls Tryz.prog 62 #[.string a, .string b] w fun e w' => e = .returned (.int .i64 (cmpS a b)) ∧ w = w' := by
  have HC := Lib.hid (cmpString_any a b w)
  go_enter Tryz.func62, Tryz.ntmps62
  go_wp2_with fail
  refine HC.out.mono ?_
  rintro e w' ⟨rfl, rfl⟩
  go_wp2_with fail
  go_ret
  exact ⟨rfl, rfl⟩
set_option maxRecDepth 100000 in
/-- What BinarySearchFunc is handed. -/
theorem findFn1_any (d : DefD) (name : ByteArray) (w : World) : Calls Tryz.prog 61 #[.agg (defCs d), .string name] w fun e w' => e = .returned (.int .i64 (cmpS d.name name)) ∧ Below w.heap.size w w' := by
  have hb : Below w.heap.size w (w.alloc (.cells (defCs d) 60)) := (Below.refl _ w).alloc (Nat.le_refl _) _
  obtain ⟨⟨x0, x1, x2⟩, _⟩ := three_cells _ _ _ _ _ _ (heap_alloc_new w (.cells (defCs d) 60))
  have HC := Lib.hid fun W => compare_any d.name name W
  go_enter Tryz.func61, Tryz.ntmps61
  go_upto_region 1 with fail
  generalize w.alloc (.cells (defCs d) 60) = w1 at *
  go_wp2_with fail
  refine (HC.out _).mono ?_
  rintro e w' ⟨rfl, rfl⟩
  go_wp2_with fail
  go_ret
  exact ⟨rfl, hb⟩
/-! ## A sorted table, searched -/
def cntLt (l : List DefD) (name : ByteArray) : Nat := l.countP fun d => sLt d.name name
theorem cntLt_iff {l : List DefD} {name : ByteArray} (h : DSorted l) : ∀ i d, l[i]? = some d → (i < cntLt l name ↔ sLt d.name name = true) := by
  induction l with
  | nil => intro i d hd; simp at hd
  | cons x l ih =>
    obtain ⟨h1, h2⟩ := List.pairwise_cons.1 h
    intro i d hd
    have e : cntLt (x :: l) name = cntLt l name + if sLt x.name name = true then 1 else 0 := by
      unfold cntLt
      rw [List.countP_cons]
    rw [e]
    cases hx : sLt x.name name with
    | true =>
      match i, hd with
      | 0, hd => simp at hd; subst hd; simp [hx]
      | i + 1, hd =>
        have := ih h2 i d (by simpa using hd)
        rw [if_pos rfl, ← this]
        omega
    | false =>
      have hz : cntLt l name = 0 := by
        unfold cntLt
        rw [List.countP_eq_zero]
        intro y hy hlt
        have := sLt_trans (h1 y hy) hlt
        rw [hx] at this
        cases this
      rw [hz]
      simp only [Bool.false_eq_true, if_false, Nat.add_zero]
      constructor
      · intro h; omega
      · intro hlt
        match i, hd with
        | 0, hd => simp at hd; subst hd; rw [hx] at hlt; cases hlt
        | i + 1, hd =>
          have := (ih h2 i d (by simpa using hd)).2 hlt
          omega
def findL (l : List DefD) (name : ByteArray) : Option DefD := l.find? fun e => sEq e.name name
theorem findL_at {l : List DefD} {name : ByteArray} (h : DSorted l) : findL l name = match l[cntLt l name]? with
    | some d => bif sEq d.name name then some d else none
    | none => none := by
  have hap : Apart l := h.imp fun {a b} hab he => by rw [he, sLt_irrefl] at hab; cases hab
  have hno : ∀ e, findL l name = some e → l[cntLt l name]? = some e := fun e he => by
    have hn := find_name he
    obtain ⟨j, hj⟩ := List.mem_iff_getElem?.1 (List.mem_of_find?_eq_some he)
    have h1 := cntLt_iff (name := name) h j e hj
    rw [hn, sLt_irrefl] at h1
    have h2 : ¬ j < cntLt l name := fun hh => by have := h1.1 hh; cases this
    rcases Nat.lt_or_ge (cntLt l name) j with hlt | hge
    · have hl : cntLt l name < l.length := by have := (List.getElem?_eq_some_iff.1 hj).1; omega
      have h3 := List.pairwise_iff_getElem.1 h (cntLt l name) j hl (List.getElem?_eq_some_iff.1 hj).1 hlt
      rw [(List.getElem?_eq_some_iff.1 hj).2, hn] at h3
      have h4 := (cntLt_iff (name := name) h (cntLt l name) _ (List.getElem?_eq_getElem hl)).2 h3
      omega
    · rw [show cntLt l name = j by omega]
      exact hj
  cases hq : findL l name with
  | some e => rw [hno e hq]; simp only; rw [find_name hq, sEq_refl]; rfl
  | none =>
    cases hc : l[cntLt l name]? with
    | none => rfl
    | some d =>
      simp only
      cases he : sEq d.name name with
      | false => rfl
      | true =>
        have := List.find?_eq_none.1 hq d (List.mem_of_getElem? hc)
        exact absurd he this
set_option maxRecDepth 100000 in
set_option maxHeartbeats 2000000 in
theorem bsearch_any (p : Option Addr) (n c : Nat) (l : List DefD) (name : ByteArray) (w : World) (h : HasL 3 EDef w p l) (hn : l.length = n) (hnb : n ≤ 100000) (hs : DSorted l) :
    Calls Tryz.prog 60 #[.slice p n c, .string name, .func (.func 61) #[] #[]] w fun e w' => e = .returned (.tuple #[.int .i64 (cntLt l name : Int), .bool (findL l name).isSome]) ∧ Below w.heap.size w w' := by
  have HF := Lib.hid fun d W => findFn1_any d name W
  have HC := Lib.hid fun i d (hd : l[i]? = some d) => cntLt_iff (name := name) hs i d hd
  have hk : cntLt l name ≤ n := by rw [← hn]; exact List.countP_le_length
  have HFL := Lib.hid (findL_at (name := name) hs)
  have HH := Lib.hid h
  have HN := Lib.hid hn
  obtain ⟨fs, hfs⟩ : ∃ fs, fs = findL l name := ⟨_, rfl⟩
  rw [← hfs] at HFL ⊢
  generalize hkk : cntLt l name = k at *
  clear h hn hs hfs hkk
  go_enter Tryz.func60, Tryz.ntmps60
  go_wp2_with fail
  go_loopw [9, 10] (fun r9 r10 wr => ∃ lo hi : Nat, lo ≤ k ∧ k ≤ hi ∧ hi ≤ n ∧ r9 = .int .i64 (lo : Int) ∧ r10 = .int .i64 (hi : Int) ∧ Below w.heap.size w wr) (fun r9 r10 _ => (intOf r10).toNat - (intOf r9).toNat)
  case atStart => exact ⟨0, n, Nat.zero_le _, hk, Nat.le_refl _, rfl, rfl, Below.refl _ _⟩
  case round =>
    obtain ⟨lo, hi, h1, h2, h3, rfl, rfl, hb⟩ := hrel
    by_cases hlt : lo < hi
    · have hm1 : lo ≤ (lo + hi) / 2 := by omega
      have hm2 : (lo + hi) / 2 < hi := by omega
      have HM := Lib.hid (show ((lo : Int) + (hi : Int)) / 2 = (((lo + hi) / 2 : Nat) : Int) by omega)
      generalize (lo + hi) / 2 = m at *
      obtain ⟨b, off, d, hpe, hd, f0, f1, f2⟩ := (HH.out.below EDef.keeps hb).at_ (i := m) (by rw [HN.out]; omega)
      subst hpe
      have hcm := HC.out m d hd
      have HCF := Lib.hid fun W => HF.out d W
      have hj1 : ((lo : Int) + (hi : Int)) / 2 < (n : Int) := by rw [HM.out]; omega
      have hj0 : (0 : Int) ≤ ((lo : Int) + (hi : Int)) / 2 := by rw [HM.out]; omega
      have hj2 : (((lo : Int) + (hi : Int)) / 2).toNat = m := by rw [HM.out]; omega
      clear hd
      cases hp : sLt d.name name with
      | true =>
        have hcl : cmpS d.name name < 0 := cmpS_lt.2 hp
        have HP := Lib.hid (hcm.2 hp)
        clear hp hcm
        go_wp2_with fail
        refine (HCF.out _).mono ?_
        rintro e w' ⟨rfl, hb2⟩
        have hb3 := hb.trans (hb2.mono hb.size)
        have kw : IntKind.i64.wrap (((lo : Int) + (hi : Int)) / 2 + 1) = ((lo : Int) + (hi : Int)) / 2 + 1 := IntWalk.i64_in _ (by have := HM.out; omega)
        clear hb hb2 f0 f1 f2 hj1 hj0 hj2
        go_wp2_with fail
        go_roundw
        case rel => exact ⟨m + 1, hi, by have := HP.out; omega, h2, h3, by rw [HM.out]; go_num, rfl, hb3⟩
        case measure => simp [intOf]; omega
      | false =>
        have hcl : ¬ cmpS d.name name < 0 := fun hh => by rw [cmpS_lt.1 hh] at hp; cases hp
        have hkm : k ≤ m := by
          rcases Nat.lt_or_ge m k with hh | hh
          · rw [hcm.1 hh] at hp; cases hp
          · exact hh
        have HP := Lib.hid hkm
        clear hp hcm hkm
        go_wp2_with fail
        refine (HCF.out _).mono ?_
        rintro e w' ⟨rfl, hb2⟩
        have hb3 := hb.trans (hb2.mono hb.size)
        clear hb hb2 f0 f1 f2 hj1 hj0 hj2
        go_wp2_with fail
        go_roundw
        case rel => exact ⟨lo, m, h1, HP.out, by omega, rfl, by rw [HM.out], hb3⟩
        case measure => simp [intOf]; omega
    · have e : lo = k := by omega
      subst e
      have hlh : ¬ (lo : Int) < (hi : Int) := by omega
      by_cases hln : lo < n
      · obtain ⟨b, off, d, hpe, hd, f0, f1, f2⟩ := (HH.out.below EDef.keeps hb).at_ (i := lo) (by rw [HN.out]; omega)
        subst hpe
        have hl1 : (lo : Int) < (n : Int) := by omega
        have hl0 : (0 : Int) ≤ (lo : Int) := by omega
        have hfl := HFL.out
        rw [hd] at hfl
        have HCF := Lib.hid fun W => HF.out d W
        obtain ⟨q, hq⟩ : ∃ q, q = sEq d.name name := ⟨_, rfl⟩
        have hq2 : (cmpS d.name name == 0) = q := by
          rw [hq]
          cases he : sEq d.name name with
          | true => exact beq_iff_eq.2 (cmpS_eq.2 (sEq_iff.1 he))
          | false => exact beq_eq_false_iff_ne.2 fun hh => by rw [cmpS_eq.1 hh, sEq_refl] at he; cases he
        have hE : Hid (fs.isSome = q) := Lib.hid (by rw [hfl]; simp only; rw [← hq]; cases q <;> rfl)
        clear hd hfl hq
        go_wp2_with fail
        refine (HCF.out _).mono ?_
        rintro e w' ⟨rfl, hb2⟩
        have hb3 := hb.trans (hb2.mono hb.size)
        clear hb hb2 f0 f1 f2
        go_wp2_with fail
        go_ret2
        exact ⟨by rw [hE.out]; rfl, hb3⟩
      · have hl1 : ¬ (lo : Int) < (n : Int) := by omega
        have hE : Hid (fs.isSome = false) := Lib.hid (by rw [HFL.out, List.getElem?_eq_none (by rw [HN.out]; omega)]; rfl)
        go_wp2_with fail
        go_ret2
        exact ⟨by rw [hE.out]; rfl, hb⟩
end Go.Proofs.YthnkehdcolnegaaGreat

namespace Go.Proofs.YthnkehdcolnegaaGreat
open Go.RowKit

def findD (xs : List Sy) (D : List (List Bool)) (name : ByteArray) : DefD := (findIn xs D name).getD noDef
theorem find_one {xs : List Sy} {D : List (List Bool)} {name : ByteArray} (h : 0 < (hitsIn xs D name 1).length) : findD xs D name = hitD name (hitsIn xs D name 1) ∧ (findIn xs D name).isSome = true := by
  unfold findD findIn hitD
  cases hq : headD name (hitsIn xs D name 1) with
  | none => rw [headD_none.1 hq] at h; simp at h
  | some d => exact ⟨rfl, rfl⟩
theorem find_two {xs : List Sy} {D : List (List Bool)} {name : ByteArray} (h : (hitsIn xs D name 1).length = 0) : findD xs D name = hitD name (hitsIn xs D name 2) ∧ (findIn xs D name).isSome = decide (0 < (hitsIn xs D name 2).length) := by
  have h1 : hitsIn xs D name 1 = [] := List.length_eq_zero_iff.1 h
  unfold findD findIn hitD
  rw [headD_none.2 h1]
  refine ⟨rfl, ?_⟩
  cases hitsIn xs D name 2 <;> rfl
theorem hits_le {l : List ObjD} {D : List (List Bool)} {name : ByteArray} {b : Int} (hok : ∀ o ∈ l, OkD o) : ∀ n, (hitsIn (allTo ObjD.syms l n) D name b).length ≤ 1000 * n
  | 0 => Nat.le_refl _
  | n + 1 => by
    have ih := hits_le (D := D) (name := name) (b := b) hok n
    have e : allTo ObjD.syms l (n + 1) = allTo ObjD.syms l n ++ match l[n]? with | some o => tagged ObjD.syms n o | none => [] := rfl
    rw [e]
    unfold hitsIn at ih ⊢
    rw [List.filter_append, List.length_append]
    cases ho : l[n]? with
    | none => simp; omega
    | some o =>
      have h1 := List.length_filter_le (isHit D name b) (tagged ObjD.syms n o)
      rw [tagged_length] at h1
      have h2 := (hok o (List.mem_of_getElem? ho)).few.2.1
      simp only
      omega
set_option maxRecDepth 100000 in
set_option maxHeartbeats 8000000 in
theorem rFind_any (p pd : Option Addr) (c cd : Nat) (vf : Value) (l : List ObjD) (D : List (List Bool)) (name : ByteArray) (w : World) (h : HasL 5 EObj w p l) (hok : ∀ o ∈ l, OkD o) (hlc : l.length ≤ 1000) (hD : DropOK w pd l D) :
    Calls Tryz.prog 24 #[.slice p l.length c, .agg #[.slice pd D.length cd, vf], .string name] w fun e w' => e = .returned (.tuple #[.agg (defCs (findD (allTo ObjD.syms l l.length) D name)), .bool (findIn (allTo ObjD.syms l l.length) D name).isSome]) ∧ Below w.heap.size w w' := by
  have HF := Lib.hid fun W (hW : Below w.heap.size w W) (b : Int) => rFirst_any p pd c cd vf l D name b W (h.below EObj.keeps hW) hok hlc (hD.below hW)
  have hA0 := heap_alloc_new w (.cells #[.slice pd D.length cd, vf] 54)
  obtain ⟨wa, hwa⟩ : ∃ wa, wa = w.alloc (.cells #[.slice pd D.length cd, vf] 54) := ⟨_, rfl⟩
  obtain ⟨wb, hwb⟩ : ∃ wb, wb = wa.alloc (.cells #[.string ⟨#[]⟩, .int .i64 0, .int .i64 0] 63) := ⟨_, rfl⟩
  have ha : Below w.heap.size w wa := by rw [hwa]; exact (Below.refl _ w).alloc (Nat.le_refl _) _
  have hb : Below wa.heap.size wa wb := by rw [hwb]; exact (Below.refl _ wa).alloc (Nat.le_refl _) _
  have sa : wa.heap.size = w.heap.size + 1 := by rw [hwa]; simp
  have sb : wb.heap.size = w.heap.size + 2 := by rw [hwb]; simp [sa]
  rw [← hwa] at hA0
  have hAb := (hb.block _ (by omega)).trans hA0
  have hRb : wb.heap[wa.heap.size]? = some (.cells #[.string ⟨#[]⟩, .int .i64 0, .int .i64 0] 63 (0, 0)) := by rw [hwb]; exact heap_alloc_new wa _
  rw [sa] at hRb
  have hwb0 : Below w.heap.size w wb := ha.trans (hb.mono ha.size)
  have hn1 := hits_le (D := D) (name := name) (b := 1) hok l.length
  have hn2 := hits_le (D := D) (name := name) (b := 2) hok l.length
  obtain ⟨f, hf⟩ : ∃ f, f = findD (allTo ObjD.syms l l.length) D name := ⟨_, rfl⟩
  obtain ⟨fs, hfs⟩ : ∃ fs, fs = (findIn (allTo ObjD.syms l l.length) D name).isSome := ⟨_, rfl⟩
  have h1 : 0 < (hitsIn (allTo ObjD.syms l l.length) D name 1).length → f = hitD name (hitsIn (allTo ObjD.syms l l.length) D name 1) ∧ fs = true := fun hh => by rw [hf, hfs]; exact find_one hh
  have h2 : (hitsIn (allTo ObjD.syms l l.length) D name 1).length = 0 → f = hitD name (hitsIn (allTo ObjD.syms l l.length) D name 2) ∧ fs = decide (0 < (hitsIn (allTo ObjD.syms l l.length) D name 2).length) := fun hh => by rw [hf, hfs]; exact find_two hh
  rw [← hf, ← hfs]
  have HF1 := Lib.hid fun W hW => HF.out W hW 1
  have HF2 := Lib.hid fun W hW => HF.out W hW 2
  unfold GivesFirst at HF1 HF2
  generalize hitD name (hitsIn (allTo ObjD.syms l l.length) D name 1) = d1 at *
  generalize hitD name (hitsIn (allTo ObjD.syms l l.length) D name 2) = d2 at *
  generalize (hitsIn (allTo ObjD.syms l l.length) D name 1).length = m1 at *
  generalize (hitsIn (allTo ObjD.syms l l.length) D name 2).length = m2 at *
  have HWA := Lib.hid hwa
  have HWB := Lib.hid hwb
  have H1 := Lib.hid h1
  have H2 := Lib.hid h2
  have HAB := Lib.hid hAb
  have HRB := Lib.hid hRb
  have HWB0 := Lib.hid hwb0
  have HSB := Lib.hid sb
  clear h hok hD HF hA0 hwa hwb ha hb sa sb hAb hRb hwb0 hf hfs h1 h2
  generalize D.length = dn at *
  generalize l.length = ln at *
  go_enter Tryz.func24, Tryz.ntmps24
  go_upto_region 1 with fail
  rw [← HWA.out, ← HWB.out]
  clear HWA HWB
  generalize hgb : w.heap.size = gb at *
  have HGB := Lib.hid hgb
  clear hgb
  obtain ⟨⟨a0, a1⟩, _⟩ := pair_cells _ _ _ _ _ HAB.out
  go_upto_region 2 with (first | (go_at_call 57; refine (HF1.out _ (by first | exact HWB0.out | (rw [HGB.out]; exact HWB0.out))).mono ?_; rintro e w2 ⟨rfl, hb2⟩) | fail)
  have hb3 : Below wb.heap.size wb (w2.alloc (.cells #[.string d1.name, .int .i64 (d1.obj : Int), .int .i64 (d1.sym : Int)] 63)) := hb2.alloc hb2.size _
  have hg3 := heap_alloc_new w2 (.cells #[.string d1.name, .int .i64 (d1.obj : Int), .int .i64 (d1.sym : Int)] 63)
  have hgs2 : gb + 2 ≤ w2.heap.size := by have := hb2.size; have := HSB.out; omega
  generalize w2.alloc (.cells #[.string d1.name, .int .i64 (d1.obj : Int), .int .i64 (d1.sym : Int)] 63) = w3 at *
  generalize w2.heap.size = G at *
  have hA3 := (hb3.block gb (by have := HSB.out; omega)).trans HAB.out
  have hR3 := (hb3.block (gb + 1) (by have := HSB.out; omega)).trans HRB.out
  have hw3 : Below gb w w3 := HWB0.out.trans (hb3.mono (by have := HSB.out; omega))
  have hs3 : gb + 2 ≤ w3.heap.size := by have := (Array.getElem?_eq_some_iff.1 hg3).1; omega
  have HA3 := Lib.hid hA3
  have HR3 := Lib.hid hR3
  have HG3 := Lib.hid hg3
  have HW3 := Lib.hid hw3
  clear a0 a1 hb2 hb3 hA3 hw3
  obtain ⟨⟨g0, g1, g2⟩, g3, g4, g5⟩ := three_cells _ _ _ _ _ _ hg3
  obtain ⟨⟨r0, r1, r2⟩, r3, r4, r5⟩ := three_cells _ _ _ _ _ _ hR3
  clear hR3 hg3
  by_cases hm : 0 < m1
  · have hm1 : (0 : Int) < (m1 : Int) := by omega
    obtain ⟨e1, e2⟩ := H1.out hm
    have hE : Hid (f = d1 ∧ fs = true) := Lib.hid ⟨e1, e2⟩
    have hst := set_three (.string d1.name) (.int .i64 (d1.obj : Int)) (.int .i64 (d1.sym : Int)) (by omega : gb ≤ gb + 1) HR3.out
    have HST := Lib.hid hst
    clear hst e1 e2 hm
    go_wp2_with fail
    exact bodyPost_ret (results_rdef rfl _ _ _ _ _ _ _ (by rfl) (by rfl) HST.out.1) rfl ⟨by rw [hE.out.1, hE.out.2]; rfl, by first | exact HW3.out.trans (HST.out.2.below (by omega)) | (rw [HGB.out]; exact HW3.out.trans (HST.out.2.below (by omega)))⟩
  · have hm1 : ¬ (0 : Int) < (m1 : Int) := by omega
    obtain ⟨e1, e2⟩ := H2.out (by omega)
    have hE : Hid (f = d2 ∧ fs = decide (0 < m2)) := Lib.hid ⟨e1, e2⟩
    obtain ⟨⟨a0, a1⟩, _⟩ := pair_cells _ _ _ _ _ HA3.out
    have HF3 := Lib.hid (HF2.out w3 (by first | exact HW3.out | (rw [HGB.out]; exact HW3.out)))
    clear e1 e2 hm g0 g1 g2 g3 g4 g5 r0 r1 r2 r3 r4 r5
    go_wp2_with fail
    refine HF3.out.mono ?_
    rintro e w4 ⟨rfl, hb4⟩
    have hg4 := (hb4.block G (Array.getElem?_eq_some_iff.1 HG3.out).1).trans HG3.out
    have hR4 := (hb4.block (gb + 1) (by omega)).trans HR3.out
    have hw4 := HW3.out.trans (hb4.mono (by omega))
    obtain ⟨⟨g0, g1, g2⟩, g3, g4, g5⟩ := three_cells _ _ _ _ _ _ hg4
    have hst := set_three (.string d2.name) (.int .i64 (d2.obj : Int)) (.int .i64 (d2.sym : Int)) (Nat.le_refl G) hg4
    have hGs : G ≤ w4.heap.size := Nat.le_of_lt (Array.getElem?_eq_some_iff.1 hg4).1
    have hb5 := hst.2.below hGs
    have hg5 := hst.1
    have hR5 := (hb5.block (gb + 1) (by omega)).trans hR4
    have hw5 := hw4.trans (hb5.mono (by omega))
    have hs5 : gb + 2 ≤ w4.heap.size := by omega
    have hsz : (((w4.setCell ⟨G, 0, none⟩ (.string d2.name)).setCell ⟨G, 1, none⟩ (.int .i64 (d2.obj : Int))).setCell ⟨G, 2, none⟩ (.int .i64 (d2.sym : Int))).heap.size = w4.heap.size := by simp
    have HSZ := Lib.hid hsz
    have HG5 := Lib.hid hg5
    have HR5 := Lib.hid hR5
    have HW5 := Lib.hid hw5
    clear hst hb5 hg5 hR5 hw5 hb4 hg4 hR4 hw4 hsz a0 a1
    go_upto_region 5 with fail
    generalize ((w4.setCell ⟨G, 0, none⟩ (.string d2.name)).setCell ⟨G, 1, none⟩ (.int .i64 (d2.obj : Int))).setCell ⟨G, 2, none⟩ (.int .i64 (d2.sym : Int)) = w5 at *
    clear g0 g1 g2 g3 g4 g5
    obtain ⟨⟨g0, g1, g2⟩, g3, g4, g5⟩ := three_cells _ _ _ _ _ _ HG5.out
    obtain ⟨⟨r0, r1, r2⟩, r3, r4, r5⟩ := three_cells _ _ _ _ _ _ HR5.out
    have hst := set_three (.string d2.name) (.int .i64 (d2.obj : Int)) (.int .i64 (d2.sym : Int)) (by omega : gb ≤ gb + 1) HR5.out
    have HST := Lib.hid hst
    have hs6 : gb ≤ w5.heap.size := by have := HSZ.out; omega
    clear hst
    go_wp2_with fail
    exact bodyPost_ret (results_rdef rfl _ _ _ _ _ _ _ (by rfl) (by rfl) HST.out.1) rfl ⟨by rw [hE.out.1, hE.out.2]; rfl, by first | exact HW5.out.trans (HST.out.2.below hs6) | (rw [HGB.out]; exact HW5.out.trans (HST.out.2.below hs6))⟩
end Go.Proofs.YthnkehdcolnegaaGreat

namespace Go.Proofs.YthnkehdcolnegaaGreat
open Go.RowKit

structure PlaceD where
  (obj sec at_ : Int)
abbrev plCs (x : PlaceD) : Array Value := #[.int .i64 x.obj, .int .i64 x.sec, .int .i64 x.at_]
def ownPl (D : List (List Bool)) (o : Nat) (x : SymD) : PlaceD × Int := bif decide (x.sec < 1) then (⟨0, 0, x.value⟩, 0) else bif (drAt D o)[(x.sec - 1).toNat]?.getD false then (⟨0, 0, 0⟩, 4) else (⟨(o : Int), x.sec, x.value⟩, 0)
theorem results_rpl {fn : Func} {p u : Tmp} (h : fn.results = #[.cell p 70, .tmp u]) (tmps : Array Value) (w : World) (g : Nat) (v0 v1 v2 b : Value) (hp : tmps.getD p undef = .pointer (some ⟨g, 0, none⟩)) (hu : tmps.getD u undef = b)
    (hg : w.heap[g]? = some (.cells #[v0, v1, v2] 70 (0, 0))) : (results fn tmps).run Tryz.prog w = .ok (.tuple #[.agg #[v0, v1, v2], b]) w := by
  obtain ⟨⟨r0, r1, r2⟩, _⟩ := three_cells _ _ _ _ _ _ hg
  rw [results_cell_tmp h, hp, hu]
  go_simp
def GivesPl (r : PlaceD × Int) (w : World) (e : Ending) (w' : World) : Prop := e = .returned (.tuple #[.agg (plCs r.1), .int .i64 r.2]) ∧ Below w.heap.size w w'
theorem own_end {tmps : Array Value} {W w : World} {B : Nat} {r : PlaceD × Int} {x : PlaceD} {n : Int} (h8 : tmps.getD 8 undef = .pointer (some ⟨B + 1, 0, none⟩)) (h9 : tmps.getD 9 undef = .int .i64 n) (hB : w.heap.size = B)
    (hR : W.heap[B + 1]? = some (.cells (plCs x) 70 (0, 0))) (hb : Below B w W) (he : r = (x, n)) : bodyPost Tryz.prog Tryz.f66 (GivesPl r w) Exit.ret ⟨tmps, []⟩ W := by
  subst hB
  subst he
  exact bodyPost_ret (results_rpl rfl _ _ _ _ _ _ _ h8 h9 hR) rfl ⟨rfl, hb⟩
set_option maxRecDepth 100000 in
set_option maxHeartbeats 4000000 in
theorem rOwn_any (p pd : Option Addr) (c cd o s : Nat) (vf : Value) (l : List ObjD) (D : List (List Bool)) (w : World) (h : HasL 5 EObj w p l) (hok : ∀ o ∈ l, OkD o) (hD : DropOK w pd l D) {ob : ObjD} {x : SymD} (ho : l[o]? = some ob) (hs : ob.syms[s]? = some x) :
    Calls Tryz.prog 66 #[.slice p l.length c, .agg #[.slice pd D.length cd, vf], .int .i64 (o : Int), .int .i64 (s : Int)] w (GivesPl (ownPl D o x) w) := by
  obtain ⟨wa, hwa⟩ : ∃ wa, wa = w.alloc (.cells #[.slice pd D.length cd, vf] 54) := ⟨_, rfl⟩
  obtain ⟨wb, hwb⟩ : ∃ wb, wb = wa.alloc (.cells #[.int .i64 0, .int .i64 0, .int .i64 0] 70) := ⟨_, rfl⟩
  have ha : Below w.heap.size w wa := by rw [hwa]; exact (Below.refl _ w).alloc (Nat.le_refl _) _
  have hb : Below wa.heap.size wa wb := by rw [hwb]; exact (Below.refl _ wa).alloc (Nat.le_refl _) _
  have sa : wa.heap.size = w.heap.size + 1 := by rw [hwa]; simp
  have sb : wb.heap.size = w.heap.size + 2 := by rw [hwb]; simp [sa]
  have hA0 : wa.heap[w.heap.size]? = some (.cells #[.slice pd D.length cd, vf] 54 (0, 0)) := by rw [hwa]; exact heap_alloc_new w _
  have hAb := (hb.block _ (by omega)).trans hA0
  have hRb : wb.heap[wa.heap.size]? = some (.cells #[.int .i64 0, .int .i64 0, .int .i64 0] 70 (0, 0)) := by rw [hwb]; exact heap_alloc_new wa _
  rw [sa] at hRb
  have hwb0 : Below w.heap.size w wb := ha.trans (hb.mono ha.size)
  have hob := hok ob (List.mem_of_getElem? ho)
  have hsec := hob.sec x (List.mem_of_getElem? hs)
  have hol : o < l.length := (List.getElem?_eq_some_iff.1 ho).1
  obtain ⟨b, off, p0, p1, p2, p4, c0, c1, c2, c4, hpe, e0, e1, e2, _, _, _, hsy, _, _, _⟩ := objs_at (h.below EObj.keeps hwb0) ho
  subst hpe
  have hsl : s < ob.syms.length := (List.getElem?_eq_some_iff.1 hs).1
  obtain ⟨b1, off1, x', hpe1, hx', ⟨f0, _⟩, ⟨f1, _⟩, ⟨f2, _⟩, ⟨f3, _⟩, ⟨f4, _⟩, ⟨f5, _⟩⟩ := hsy.at_ hsl
  subst hpe1
  obtain rfl : x' = x := by rw [hs] at hx'; cases hx'; rfl
  have hdd := hD.below hwb0
  have hid : o < D.length := by rw [hD.len]; exact hol
  obtain ⟨bd, od, qd, cq, hpd, hdc, hdh⟩ := drops_at hdd.has hid
  subst hpd
  have hrow := hdd.row o ob ho
  obtain ⟨⟨a0, a1⟩, _⟩ := pair_cells _ _ _ _ _ hAb
  obtain ⟨r, hr⟩ : ∃ r, r = ownPl D o x' := ⟨_, rfl⟩
  rw [← hr]
  have hr2 : r = bif decide (x'.sec < 1) then (⟨0, 0, x'.value⟩, 0) else bif (drAt D o)[(x'.sec - 1).toNat]?.getD false then (⟨0, 0, 0⟩, 4) else (⟨(o : Int), x'.sec, x'.value⟩, 0) := hr
  have HR := Lib.hid hr2
  have HWA := Lib.hid hwa
  have HWB := Lib.hid hwb
  have HRB := Lib.hid hRb
  have HWB0 := Lib.hid hwb0
  have HSB := Lib.hid sb
  have HDH := Lib.hid hdh
  have HROW := Lib.hid hrow
  have HQ := Lib.hid hob.few.1
  have hyb := hob.few.2.1
  generalize hdn : D.length = dn at *
  generalize hln : l.length = ln at *
  generalize ob.syms.length = yn at *
  generalize hrn : (drAt D o).length = rn at *
  have HRN := Lib.hid hrn
  have hJ : (o : Int) < (ln : Int) := by omega
  have hJ2 : (s : Int) < (yn : Int) := by omega
  have hJ3 : (o : Int) < (dn : Int) := by omega
  clear h hok hD ho hs hwa hwb ha hb sa sb hA0 hAb hRb hwb0 hob hx' hdd hrow hr hr2 hsy hdh hdn hln hrn e0 e2
  go_enter Tryz.func66, Tryz.ntmps66
  go_upto_region 1 with fail
  rw [← HWA.out, ← HWB.out]
  clear HWA HWB
  generalize hgb : w.heap.size = gb at *
  have HGB := Lib.hid hgb
  clear hgb
  go_upto_region 2 with fail
  have hb3 : Below wb.heap.size wb (wb.alloc (.cells #[.string x'.name, .int .i64 x'.bind, .int .i64 x'.type, .int .i64 x'.sec, .int .i64 x'.value, .int .i64 x'.size] 98)) := (Below.refl _ wb).alloc (Nat.le_refl _) _
  obtain ⟨x0, x1, x2, x3, x4, x5⟩ := ncells6 _ _ _ _ _ _ _ _ _ (heap_alloc_new wb (.cells #[.string x'.name, .int .i64 x'.bind, .int .i64 x'.type, .int .i64 x'.sec, .int .i64 x'.value, .int .i64 x'.size] 98))
  have hR3 := (hb3.block (gb + 1) (by have := HSB.out; omega)).trans HRB.out
  have a0' := cell_later hb3 a0
  have hdc' := cell_later hb3 hdc
  have hw3 := HWB0.out.trans (hb3.mono (by have := HSB.out; omega))
  have hdh3 := HDH.out.below EBool.keeps hb3
  have hsz3 : gb + 2 ≤ (wb.alloc (.cells #[.string x'.name, .int .i64 x'.bind, .int .i64 x'.type, .int .i64 x'.sec, .int .i64 x'.value, .int .i64 x'.size] 98)).heap.size := by have := hb3.size; have := HSB.out; omega
  generalize wb.alloc (.cells #[.string x'.name, .int .i64 x'.bind, .int .i64 x'.type, .int .i64 x'.sec, .int .i64 x'.value, .int .i64 x'.size] 98) = w3 at *
  generalize wb.heap.size = g3 at *
  have HR3 := Lib.hid hR3
  have HW3 := Lib.hid hw3
  obtain ⟨⟨r0, r1, r2⟩, r3, r4, r5⟩ := three_cells _ _ _ _ _ _ hR3
  clear hb3 hR3 hw3 a0 hdc e1 f0 f1 f2 f3 f4 f5
  by_cases hs1 : x'.sec < 1
  · have hE : Hid (r = (⟨0, 0, x'.value⟩, 0)) := Lib.hid (by rw [HR.out, decide_eq_true hs1]; rfl)
    have hst := set_three (.int .i64 0) (.int .i64 0) (.int .i64 x'.value) (by omega : gb ≤ gb + 1) HR3.out
    have HST := Lib.hid hst
    clear hst
    go_wp2_with fail
    exact own_end (x := ⟨0, 0, x'.value⟩) (by rfl) (by rfl) HGB.out HST.out.1 (HW3.out.trans (HST.out.2.below (by omega))) hE.out
  · obtain ⟨m, hm⟩ : ∃ m : Nat, x'.sec = ((m + 1 : Nat) : Int) := ⟨(x'.sec - 1).toNat, by omega⟩
    have hmn : m < (drAt D o).length := by rw [HRN.out]; have := HROW.out; omega
    obtain ⟨b5, off5, d, hpe5, hd, hc⟩ := hdh3.at_ hmn
    subst hpe5
    have hc : w3.cell? ⟨b5, off5 + m * 1, none⟩ = some (.bool d) := hc
    rw [Nat.mul_one] at hc
    have k1 : IntKind.i64.wrap (x'.sec - 1) = (m : Int) := by rw [show x'.sec - 1 = (m : Int) by omega]; exact IntWalk.i64_in _ (by omega)
    have hK : (m : Int) < (rn : Int) := by rw [HRN.out] at hmn; omega
    have hE0 : Hid (r = bif d then (⟨0, 0, 0⟩, 4) else (⟨(o : Int), x'.sec, x'.value⟩, 0)) := Lib.hid (by rw [HR.out, decide_eq_false hs1, hm, show (((m + 1 : Nat) : Int) - 1).toNat = m by omega, hd]; rfl)
    clear hm hd hmn hdh3
    go_upto_region 4 with fail
    go_quiet (fail)
    have hd2 : Below w3.heap.size w3 (w3.drewN nq) := below_drewN (Below.refl _ w3) _
    have hR4 := (hd2.block (gb + 1) (by omega)).trans HR3.out
    have hw4 := HW3.out.trans (hd2.mono (by omega))
    have x3' := cell_later hd2 x3
    have x4' := cell_later hd2 x4
    have hsz4 : gb + 2 ≤ (w3.drewN nq).heap.size := Nat.le_trans hsz3 hd2.size
    generalize w3.drewN nq = w4 at *
    have HR4 := Lib.hid hR4
    have HW4 := Lib.hid hw4
    clear r0 r1 r2 r3 r4 r5 hd2 hw4 a0' hdc' hc x0 x1 x2 x3 x4 x5
    obtain ⟨⟨r0, r1, r2⟩, r3, r4, r5⟩ := three_cells _ _ _ _ _ _ hR4
    clear hR4
    cases d with
    | true =>
      have hE : Hid (r = (⟨0, 0, 0⟩, 4)) := Lib.hid hE0.out
      have hst := set_three (.int .i64 0) (.int .i64 0) (.int .i64 0) (by omega : gb ≤ gb + 1) HR4.out
      have HST := Lib.hid hst
      clear hst
      go_wp2_with fail
      exact own_end (x := ⟨0, 0, 0⟩) (by rfl) (by rfl) HGB.out HST.out.1 (HW4.out.trans (HST.out.2.below (by omega))) hE.out
    | false =>
      have hE : Hid (r = (⟨(o : Int), x'.sec, x'.value⟩, 0)) := Lib.hid hE0.out
      have hst := set_three (.int .i64 (o : Int)) (.int .i64 x'.sec) (.int .i64 x'.value) (by omega : gb ≤ gb + 1) HR4.out
      have HST := Lib.hid hst
      clear hst
      go_wp2_with fail
      exact own_end (x := ⟨(o : Int), x'.sec, x'.value⟩) (by rfl) (by rfl) HGB.out HST.out.1 (HW4.out.trans (HST.out.2.below (by omega))) hE.out
end Go.Proofs.YthnkehdcolnegaaGreat
