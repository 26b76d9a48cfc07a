/-
  Laws on rows of parts and of bytes that grow side by side. (Nothing here speaks of the program's functions.)
  Contracts of the project's own mayLink, mayType.
-/
import Derived.Test.YthnkehdcolnegaaGreatNR24
import Derived.Test.YthnkehdcolnegaaGreatNR16
import Derived.Test.YthnkehdcolnegaaGreatNR03
import Derived.Test.YthnkehdcolnegaaGreatNR14
import Derived.Deep.DeepCutAuto
namespace Go.Proofs.YthnkehdcolnegaaGreat
open Go.RowKit

theorem none_cap {w : World} {base n : Nat} {T : TypeId} {p : Option Addr} {c : Nat} {xs : List Value} (h : w.ownsRow base T 1 (.slice p n c) n xs) : p = none → c = 0 := fun hp => by
  subst hp
  rcases h.2 with ⟨h1, _⟩ | ⟨g, cap, cur, h1, _⟩ <;> simp at h1
  exact h1.2
def strsOf (l : List SymD) : List ByteArray := l.map SymD.name
theorem symIdx_yes {x : Int} (h : x = -1) : symIdx x = 65521 := if_pos h
theorem symIdx_no {x : Int} (h : ¬ x = -1) : symIdx x = x := if_neg h
theorem two_parts (wr : World) (o1 o2 : Obj) (cs : Array Value) (T : TypeId) (base : Nat) (hb : base ≤ wr.heap.size) (q : Bool) (pv : List PV) (hl : pv.length = 2) (hc : cs.toList = pvs q pv) :
    (((wr.alloc o1).alloc o2).alloc (.cells cs T)).ownsRow base T 12 (.slice (some ⟨wr.heap.size + 1 + 1, 0, none⟩) 2 2) 2 (pvs q pv) ∧ Below wr.heap.size wr (((wr.alloc o1).alloc o2).alloc (.cells cs T)) := by
  have hs : ((wr.alloc o1).alloc o2).heap.size = wr.heap.size + 1 + 1 := by simp
  constructor
  · rw [← hc, ← hs]
    refine World.ownsRow_lit _ cs 2 (by rw [hs]; omega) (by unfold maxLen; omega) ?_
    have : cs.toList.length = 24 := by rw [hc, pvs_length, hl]
    simpa using this
  · exact (((Below.refl _ wr).alloc (Nat.le_refl _) _).alloc (by simp) _).alloc (by rw [hs]; omega) _
theorem SlB.of_isL {w : World} {v : Value} {l : List UInt8} (h : IsL 1 EByte w v l) : SlB w (fun b => b < w.heap.size) v l := by
  obtain ⟨p, c, rfl, h1, h2, h3, h4⟩ := h
  refine ⟨p, c, rfl, h1, h2, h3, fun i x hx => ?_⟩
  obtain ⟨a, e, hc⟩ := h4.has i x hx
  have := World.block_lt_of_cell? w _ hc
  rw [block_of_add] at this
  exact ⟨a, e, hc, this⟩
theorem SlB.of_cells {w : World} {dp : Option Addr} {n c : Nat} {l : List UInt8} (h : HasL 1 EByte w dp l) (hn : l.length = n) (h1 : n ≤ c) (h2 : c ≤ maxLen) (h3 : dp = none → c = 0) : SlB w (fun b => b < w.heap.size) (.slice dp n c) l :=
  SlB.of_isL ⟨dp, c, by rw [hn], by omega, h2, h3, h⟩
theorem cells9 (w : World) (g : Nat) (v0 v1 v2 v3 v4 v5 v6 v7 v8 : Value) (T : TypeId) (h : w.heap[g]? = some (.cells #[v0, v1, v2, v3, v4, v5, v6, v7, v8] T (0, 0))) :
    w.cell? ⟨g, 0, none⟩ = some v0 ∧ w.cell? ⟨g, 1, none⟩ = some v1 ∧ w.cell? ⟨g, 2, none⟩ = some v2 ∧ w.cell? ⟨g, 3, none⟩ = some v3 ∧ w.cell? ⟨g, 4, none⟩ = some v4 ∧ w.cell? ⟨g, 5, none⟩ = some v5 ∧ w.cell? ⟨g, 6, none⟩ = some v6 ∧ w.cell? ⟨g, 7, none⟩ = some v7 ∧ w.cell? ⟨g, 8, none⟩ = some v8 := by
  refine ⟨?_, ?_, ?_, ?_, ?_, ?_, ?_, ?_, ?_⟩ <;> exact (cell_of_row w g _ _ _ (0, 0) h).trans rfl
/-- A list of parts more, behind 'append(l, f(..)...)'. -/
theorem join_parts {wr w2 w4 : World} {base : Nat} {T : TypeId} {q : Bool} {v v1 v2 : Value} {pv pv2 : List PV} {pd pd2 : List PartD} {N n : Nat}
    (hpa : PartsAt wr (fun b => 0 ≤ b ∧ some b ≠ v.ownBlock) pv pd) (hb : Below wr.heap.size wr w2) (hs : PartsAt w2 (fun b => N ≤ b ∧ some b ≠ v2.ownBlock) pv2 pd2) (hlt : ∀ g, v.ownBlock = some g → g < N)
    (hown4 : w4.ownsRow base T 12 v1 n (pvs q pv ++ pvs q pv2)) (hn : n = pd.length + pd2.length) (hg : w2.grownBy w4 v.ownBlock) (hat : v1.ownBlock = v.ownBlock ∨ v1.ownBlock = some w2.heap.size) :
    w4.ownsRow base T 12 v1 (pd ++ pd2).length (pvs q (pv ++ pv2)) ∧ PartsAt w4 (fun b => 0 ≤ b ∧ some b ≠ v1.ownBlock) (pv ++ pv2) (pd ++ pd2) := by
  subst hn
  refine ⟨by rw [pvs_append, List.length_append]; exact hown4, ?_⟩
  refine ((hpa.below hb).append (hs.weaken fun b _ h => ⟨by omega, fun he => ?_⟩)).grown hg hat
  have := hlt b he.symm
  omega
theorem ne_step1 {A B A' : Option Nat} {N : Nat} (h : ∀ b, A = some b → B ≠ some b) (hB : ∀ b, B = some b → b < N) (hat : A' = A ∨ A' = some N) : ∀ b, A' = some b → B ≠ some b := fun b hb he => by
  rcases hat with rfl | rfl
  · exact h b hb he
  · have h1 := hB b he
    have h2 := Option.some.inj hb
    omega
theorem ne_step2 {A B B' : Option Nat} {N : Nat} (h : ∀ b, A = some b → B ≠ some b) (hA : ∀ b, A = some b → b < N) (hat : B' = B ∨ B' = some N) : ∀ b, A = some b → B' ≠ some b := fun b hb he => by
  rcases hat with rfl | rfl
  · exact h b hb he
  · have h1 := hA b hb
    have h2 := Option.some.inj he
    omega
theorem ne_or {A B : Option Nat} (h : ∀ b, A = some b → B ≠ some b) : B = none ∨ B ≠ A := by
  cases hB : B with
  | none => exact .inl rfl
  | some b => exact .inr fun e => h b e.symm hB
theorem cnd_yes {i : Nat} {t : Int} {f b E : Int} {c : Bool} (hc : (decide (0 < i) && !decide (t = 8)) = c) (hE : (if i = 0 ∨ t = 8 then f else b) = E) : E = bif c then b else f := by
  subst hc hE
  by_cases h0 : i = 0
  · subst h0; simp
  · by_cases h8 : t = 8
    · subst h8; simp
    · rw [if_neg (by simp [h0, h8])]
      have : 0 < i := by omega
      simp [this, h8]
theorem own_ne {w : World} {base s n : Nat} {T : TypeId} {v v2 : Value} {xs : List Value} (h : w.ownsRow base T s v n xs) (hlt : ∀ b, v2.ownBlock = some b → b < base) : v.ownBlock = none ∨ v.ownBlock ≠ v2.ownBlock := by
  cases hv : v.ownBlock with
  | none => exact .inl rfl
  | some b =>
    refine .inr fun e => ?_
    have h1 := (h.lt b hv).1
    have h2 := hlt b e.symm
    omega
theorem cells_ten (w : World) (g : Nat) (v0 v1 v2 v3 v4 v5 v6 v7 v8 v9 : Value) (T : TypeId) (h : w.heap[g]? = some (.cells #[v0, v1, v2, v3, v4, v5, v6, v7, v8, v9] T (0, 0))) :
    w.cell? ⟨g, 0, none⟩ = some v0 ∧ w.cell? ⟨g, 1, none⟩ = some v1 ∧ w.cell? ⟨g, 2, none⟩ = some v2 ∧ w.cell? ⟨g, 3, none⟩ = some v3 ∧ w.cell? ⟨g, 4, none⟩ = some v4 ∧ w.cell? ⟨g, 5, none⟩ = some v5 ∧ w.cell? ⟨g, 6, none⟩ = some v6 ∧ w.cell? ⟨g, 7, none⟩ = some v7 ∧ w.cell? ⟨g, 8, none⟩ = some v8 ∧ w.cell? ⟨g, 9, none⟩ = some v9 := by
  refine ⟨?_, ?_, ?_, ?_, ?_, ?_, ?_, ?_, ?_, ?_⟩ <;> exact (cell_of_row w g _ _ _ (0, 0) h).trans rfl
/-- A part of a row of parts, with all its cells. -/
theorem part_at {w : World} {base n : Nat} {T : TypeId} {p0 : Option Addr} {c0 : Nat} {q : Bool} {pv : List PV} {pd : List PartD} {K : Nat → Prop} (h : w.ownsRow base T 12 (.slice p0 n c0) n (pvs q pv)) (hpa : PartsAt w K pv pd) (hn : pd.length = n) {k : Nat} (hk : k < n) :
    ∃ (g : Nat) (p : PV) (y : PartD), p0 = some ⟨g, 0, none⟩ ∧ pd[k]? = some y ∧ p.h = y.h ∧ p.name = y.name ∧ SlB w K p.v y.b ∧ ∀ j, j < 12 → w.cell? ⟨g, k * 12 + j, none⟩ = (p.cells q)[j]? := by
  rcases h.2 with ⟨_, h0⟩ | ⟨g, cap, cur, he, _, _, _, _, _, _⟩
  · omega
  · simp only [Value.slice.injEq] at he
    obtain ⟨rfl, _, rfl⟩ := he
    have hkd : k < pd.length := by omega
    have hkv : k < pv.length := by rw [hpa.1]; exact hkd
    obtain ⟨h1, h2, h3⟩ := hpa.2 k _ _ (List.getElem?_eq_getElem hkv) (List.getElem?_eq_getElem hkd)
    refine ⟨g, pv[k], pd[k], rfl, List.getElem?_eq_getElem hkd, h1, h2, h3, fun j hj => ?_⟩
    rw [h.cellAt (k * 12 + j) (by omega)]
    exact pvs_get q pv k _ j (List.getElem?_eq_getElem hkv) hj
/-- append(l, x...) of two rows of the call's own. -/
theorem wpList_append_rows {P : Program} (w : World) {ops : Array Oper} {rest : List Oper} {o : Oper} {a : Act} {Q : Exit → Act → World → Prop} (hgd : o.guard = none) (s x : Operand) (t : TypeId)
    (ho : o.op = .call { callee := .builtin .append, args := #[s, x], argTypes := #[t, t] })
    (base : Nat) (e : TypeId) (i : TypeInfo) (z : Value) (size bytes : Nat) (ht : P.underlying t = some (.slice e)) (hi : P.info? e = some i) (hz : i.zero = some z)
    (hsize : i.size = size) (hby : i.bytes = bytes) (hzs : z.cells.size = size) (hsz : 0 < size)
    (v : Value) (n : Nat) (xs : List Value) (hes : a.eval s = v) (hown : w.ownsRow base e size v n xs) (v2 : Value) (m : Nat) (ys : List Value) (hex : a.eval x = v2) (b2 : Nat) (hown2 : w.ownsRow b2 e size v2 m ys) (h1 : ∀ u ∈ ys, u.oneCell' = true)
    (h63 : n + m ≤ maxLen) (hbytes : (n + m) * bytes ≤ 140737488355328) (hbase : base ≤ w.heap.size)
    (h : ∀ v' w', w'.ownsRow base e size v' (n + m) (xs ++ ys) → w.grownBy w' v.ownBlock → (v'.ownBlock = v.ownBlock ∨ v'.ownBlock = some w.heap.size) → wpList P ops Q rest (a.put o.dst v') w') : wpList P ops Q (o :: rest) a w := by
  rcases hown2.2 with ⟨rfl, hm⟩ | ⟨g, cap, cur, rfl, _, _, _, _, _, _⟩
  · subst hm
    obtain rfl : ys = [] := List.eq_nil_of_length_eq_zero (by simpa using hown2.1)
    exact wpList_append_own_none hgd s x t ho base e i size ht hi v n _ hes hown hex (h v w (by simpa using hown) (World.grownBy.refl w _) (.inl rfl))
  · exact wpList_append_own_at w hgd s x t ho base e i z size bytes ht hi hz hsize hby hzs hsz v n _ hes hown ⟨g, 0, none⟩ m cap ys hex hown2.1 (hown2.cells (g := g) rfl) h1 h63 hbytes hbase
      fun v' w' k1 k2 _ k4 => h v' w' k1 k2 k4
end Go.Proofs.YthnkehdcolnegaaGreat

namespace Go.Proofs.YthnkehdcolnegaaGreat
open Go.RowKit

def linkO (fl link num many : Int) : Bool := bif hasO fl 128 then inR link 1 many && (link != num) else link == 0
set_option maxRecDepth 100000 in
set_option maxHeartbeats 2000000 in
theorem ownMayLink_any (nm : ByteArray) (ty fl al en li sz : Int) (vd : Value) (rp : Option Addr) (rl rc : Nat) (dp : Option Addr) (dl dc : Nat) (num many : Int) (w : World) (_hd : vd = .slice dp dl dc) :
    Calls Tryz.prog 156 #[secV nm ty fl al en li sz vd (.slice rp rl rc), .int .i64 num, .int .i64 many] w fun e w' => e = .returned (.bool (linkO fl li num many)) ∧ Below w.heap.size w w' := by
  have hb1 : Below w.heap.size w (w.alloc (.cells #[.string nm, .int .i64 ty, .int .i64 fl, .int .i64 al, .int .i64 en, .int .i64 li, .int .i64 sz, vd, .slice rp rl rc] 89)) := (Below.refl _ w).alloc (Nat.le_refl _) _
  have hha := heap_new w (.cells #[.string nm, .int .i64 ty, .int .i64 fl, .int .i64 al, .int .i64 en, .int .i64 li, .int .i64 sz, vd, .slice rp rl rc] 89)
  have HH := Lib.hid fun W => ownHas_any nm ty fl al en li sz vd (.slice rp rl rc) 128 W
  have HW := Lib.hid fun W => ownWithin_any li 1 many W
  have hr : linkO fl li num many = bif hasO fl 128 then inR li 1 many && (li != num) else li == 0 := rfl
  have HB1 := Lib.hid hb1
  generalize linkO fl li num many = res at *
  generalize hasO fl 128 = h at *
  generalize inR li 1 many = q at *
  have HR := Lib.hid hr
  subst _hd
  clear hr hb1
  go_enter Tryz.func156, Tryz.ntmps156
  go_upto_region 1 with fail
  generalize w.alloc (.cells #[.string nm, .int .i64 ty, .int .i64 fl, .int .i64 al, .int .i64 en, .int .i64 li, .int .i64 sz, .slice dp dl dc, .slice rp rl rc] 89) = W1 at *
  obtain ⟨s0, s1, s2, s3, s4, s5, s6, s7, s8⟩ := cells9 _ _ _ _ _ _ _ _ _ _ _ _ hha
  clear hha
  have hbs := HB1.out.size
  go_wp2_with fail
  refine (HH.out _).mono ?_
  rintro e w2 ⟨rfl, hb2⟩
  have t5 := cell_later hb2 s5
  have hbw : Below w.heap.size w w2 := HB1.out.trans (hb2.mono hbs)
  clear s0 s1 s2 s3 s4 s5 s6 s7 s8 hb2
  cases h with
  | false =>
    have hE : Hid (res = (li == 0)) := Lib.hid (by rw [HR.out]; rfl)
    go_wp2_with fail
    go_ret
    rw [hE.out]
    exact ⟨rfl, hbw⟩
  | true =>
    have hE : Hid (res = (q && (li != num))) := Lib.hid (by rw [HR.out]; rfl)
    go_wp2_with fail
    refine (HW.out _).mono ?_
    rintro e w' ⟨rfl, rfl⟩
    cases q with
    | false =>
      have hE2 : Hid (res = false) := Lib.hid (by rw [hE.out]; rfl)
      go_wp2_with fail
      go_ret
      rw [hE2.out]
      exact ⟨rfl, hbw⟩
    | true =>
      have hE2 : Hid (res = (li != num)) := Lib.hid (by rw [hE.out]; rfl)
      go_wp2_with fail
      go_ret
      rw [hE2.out]
      exact ⟨rfl, hbw⟩

/-- A section's nine cells in block g. -/
structure SecAt (w : World) (g : Nat) (v0 v1 v2 v3 v4 v5 v6 v7 v8 : Value) : Prop where
  c0 : w.cell? ⟨g, 0, none⟩ = some v0
  c1 : w.cell? ⟨g, 1, none⟩ = some v1
  c2 : w.cell? ⟨g, 2, none⟩ = some v2
  c3 : w.cell? ⟨g, 3, none⟩ = some v3
  c4 : w.cell? ⟨g, 4, none⟩ = some v4
  c5 : w.cell? ⟨g, 5, none⟩ = some v5
  c6 : w.cell? ⟨g, 6, none⟩ = some v6
  c7 : w.cell? ⟨g, 7, none⟩ = some v7
  c8 : w.cell? ⟨g, 8, none⟩ = some v8
theorem SecAt.of {w : World} {g : Nat} {v0 v1 v2 v3 v4 v5 v6 v7 v8 : Value} {T : TypeId} (h : w.heap[g]? = some (.cells #[v0, v1, v2, v3, v4, v5, v6, v7, v8] T (0, 0))) : SecAt w g v0 v1 v2 v3 v4 v5 v6 v7 v8 := by
  obtain ⟨h0, h1, h2, h3, h4, h5, h6, h7, h8⟩ := cells9 _ _ _ _ _ _ _ _ _ _ _ _ h
  exact ⟨h0, h1, h2, h3, h4, h5, h6, h7, h8⟩
theorem SecAt.later {w w' : World} {g : Nat} {v0 v1 v2 v3 v4 v5 v6 v7 v8 : Value} (h : SecAt w g v0 v1 v2 v3 v4 v5 v6 v7 v8) (hb : Below w.heap.size w w') : SecAt w' g v0 v1 v2 v3 v4 v5 v6 v7 v8 :=
  ⟨cell_later hb h.c0, cell_later hb h.c1, cell_later hb h.c2, cell_later hb h.c3, cell_later hb h.c4, cell_later hb h.c5, cell_later hb h.c6, cell_later hb h.c7, cell_later hb h.c8⟩
def typeO (ty fl sz : Int) (dl : Nat) : Bool :=
  bif ty == 1 then (sz == (dl : Int)) && (decide (sz ≤ 16384) && !(hasO fl 1 && hasO fl 4)) else
  bif ty == 8 then ((dl : Int) == 0) && (inR sz 0 2147483647 && (hasO fl 1 && (!hasO fl 4 && !hasO fl 16))) else false
set_option maxRecDepth 100000 in
set_option maxHeartbeats 4000000 in
theorem ownMayType_any (nm : ByteArray) (ty fl al en li sz : Int) (dp rp : Option Addr) (dl dc rl rc : Nat) (w : World) :
    Calls Tryz.prog 190 #[secV nm ty fl al en li sz (.slice dp dl dc) (.slice rp rl rc)] w fun e w' => e = .returned (.bool (typeO ty fl sz dl)) ∧ Below w.heap.size w w' := by
  have hb1 : Below w.heap.size w (w.alloc (.cells #[.string nm, .int .i64 ty, .int .i64 fl, .int .i64 al, .int .i64 en, .int .i64 li, .int .i64 sz, .slice dp dl dc, .slice rp rl rc] 89)) := (Below.refl _ w).alloc (Nat.le_refl _) _
  have hha := heap_new w (.cells #[.string nm, .int .i64 ty, .int .i64 fl, .int .i64 al, .int .i64 en, .int .i64 li, .int .i64 sz, .slice dp dl dc, .slice rp rl rc] 89)
  have HS := Lib.hid (SecAt.of hha)
  have HH1 := Lib.hid fun W => ownHas_any nm ty fl al en li sz (.slice dp dl dc) (.slice rp rl rc) 1 W
  have HH4 := Lib.hid fun W => ownHas_any nm ty fl al en li sz (.slice dp dl dc) (.slice rp rl rc) 4 W
  have HH16 := Lib.hid fun W => ownHas_any nm ty fl al en li sz (.slice dp dl dc) (.slice rp rl rc) 16 W
  have HP := Lib.hid fun W => ownIsPlace_any sz W
  have hr : typeO ty fl sz dl = bif ty == 1 then (sz == (dl : Int)) && (decide (sz ≤ 16384) && !(hasO fl 1 && hasO fl 4)) else
    bif ty == 8 then ((dl : Int) == 0) && (inR sz 0 2147483647 && (hasO fl 1 && (!hasO fl 4 && !hasO fl 16))) else false := rfl
  have HB1 := Lib.hid hb1
  generalize typeO ty fl sz dl = res at *
  generalize hasO fl 1 = f1 at *
  generalize hasO fl 4 = f4 at *
  generalize hasO fl 16 = f16 at *
  generalize inR sz 0 2147483647 = q at *
  have HR := Lib.hid hr
  clear hr hb1 hha
  go_enter Tryz.func190, Tryz.ntmps190
  go_upto_region 1 with fail
  generalize w.alloc (.cells #[.string nm, .int .i64 ty, .int .i64 fl, .int .i64 al, .int .i64 en, .int .i64 li, .int .i64 sz, .slice dp dl dc, .slice rp rl rc] 89) = W1 at *
  obtain ⟨s0, s1, s2, s3, s4, s5, s6, s7, s8⟩ := HS.out
  have hbs := HB1.out.size
  cases t1 : (ty == 1) with
  | true =>
    have hE : Hid (res = ((sz == (dl : Int)) && (decide (sz ≤ 16384) && !(f1 && f4)))) := Lib.hid (by rw [HR.out, t1]; rfl)
    clear HR
    cases t2 : (sz == (dl : Int)) with
    | false =>
      have hE2 : Hid (res = false) := Lib.hid (by rw [hE.out, t2]; rfl)
      go_wp2_with fail
      go_ret
      rw [hE2.out]
      exact ⟨rfl, HB1.out⟩
    | true =>
      cases t3 : decide (sz ≤ 16384) with
      | false =>
        have hE2 : Hid (res = false) := Lib.hid (by rw [hE.out, t2, t3]; rfl)
        go_wp2_with fail
        go_ret
        rw [hE2.out]
        exact ⟨by trivial, HB1.out⟩
      | true =>
        have hE2 : Hid (res = !(f1 && f4)) := Lib.hid (by rw [hE.out, t2, t3]; rfl)
        clear hE
        go_wp2_with fail
        refine (HH1.out _).mono ?_
        rintro e w2 ⟨rfl, hb2⟩
        have HS2 := Lib.hid (HS.out.later hb2)
        have hbw : Below w.heap.size w w2 := HB1.out.trans (hb2.mono hbs)
        clear s0 s1 s2 s3 s4 s5 s6 s7 s8 hb2 HS
        obtain ⟨s0, s1, s2, s3, s4, s5, s6, s7, s8⟩ := HS2.out
        have hbws := hbw.size
        cases f1 with
        | false =>
          have hE3 : Hid (res = true) := Lib.hid (by rw [hE2.out]; rfl)
          go_wp2_with fail
          go_ret
          rw [hE3.out]
          exact ⟨rfl, hbw⟩
        | true =>
          have hE3 : Hid (res = !f4) := Lib.hid (by rw [hE2.out]; rfl)
          go_wp2_with fail
          refine (HH4.out _).mono ?_
          rintro e w3 ⟨rfl, hb3⟩
          have hbw3 : Below w.heap.size w w3 := hbw.trans (hb3.mono hbws)
          clear s0 s1 s2 s3 s4 s5 s6 s7 s8 hb3 HS2 hbw
          go_wp2_with fail
          go_ret
          rw [hE3.out]
          exact ⟨rfl, hbw3⟩
  | false =>
    cases t8 : (ty == 8) with
    | false =>
      have hE : Hid (res = false) := Lib.hid (by rw [HR.out, t1, t8]; rfl)
      go_wp2_with fail
      go_ret
      rw [hE.out]
      exact ⟨rfl, HB1.out⟩
    | true =>
      have hE : Hid (res = (((dl : Int) == 0) && (q && (f1 && (!f4 && !f16))))) := Lib.hid (by rw [HR.out, t1, t8]; rfl)
      clear HR
      rcases Nat.eq_zero_or_pos dl with h0 | h0
      · subst h0
        have hE2 : Hid (res = (q && (f1 && (!f4 && !f16)))) := Lib.hid (by rw [hE.out]; rfl)
        clear hE
        go_wp2_with fail
        refine (HP.out _).mono ?_
        rintro e w' ⟨rfl, rfl⟩
        cases q with
        | false =>
          have hE3 : Hid (res = false) := Lib.hid (by rw [hE2.out]; rfl)
          go_wp2_with fail
          go_ret
          rw [hE3.out]
          exact ⟨rfl, HB1.out⟩
        | true =>
          go_wp2_with fail
          refine (HH1.out _).mono ?_
          rintro e w2 ⟨rfl, hb2⟩
          have HS2 := Lib.hid (HS.out.later hb2)
          have hbw : Below w.heap.size w w2 := HB1.out.trans (hb2.mono hbs)
          clear s0 s1 s2 s3 s4 s5 s6 s7 s8 hb2 HS
          obtain ⟨s0, s1, s2, s3, s4, s5, s6, s7, s8⟩ := HS2.out
          have hbws := hbw.size
          cases f1 with
          | false =>
            have hE3 : Hid (res = false) := Lib.hid (by rw [hE2.out]; rfl)
            go_wp2_with fail
            go_ret
            rw [hE3.out]
            exact ⟨rfl, hbw⟩
          | true =>
            have hE3 : Hid (res = (!f4 && !f16)) := Lib.hid (by rw [hE2.out]; rfl)
            go_wp2_with fail
            refine (HH4.out _).mono ?_
            rintro e w3 ⟨rfl, hb3⟩
            have HS3 := Lib.hid (HS2.out.later hb3)
            have hbw3 : Below w.heap.size w w3 := hbw.trans (hb3.mono hbws)
            clear s0 s1 s2 s3 s4 s5 s6 s7 s8 hb3 HS2 hbw
            obtain ⟨s0, s1, s2, s3, s4, s5, s6, s7, s8⟩ := HS3.out
            have hbws3 := hbw3.size
            cases f4 with
            | true =>
              have hE4 : Hid (res = false) := Lib.hid (by rw [hE3.out]; rfl)
              go_wp2_with fail
              go_ret
              rw [hE4.out]
              exact ⟨rfl, hbw3⟩
            | false =>
              have hE4 : Hid (res = !f16) := Lib.hid (by rw [hE3.out]; rfl)
              go_wp2_with fail
              refine (HH16.out _).mono ?_
              rintro e w4 ⟨rfl, hb4⟩
              have hbw4 : Below w.heap.size w w4 := hbw3.trans (hb4.mono hbws3)
              clear s0 s1 s2 s3 s4 s5 s6 s7 s8 hb4 HS3 hbw3
              go_wp2_with fail
              go_ret
              rw [hE4.out]
              exact ⟨rfl, hbw4⟩
      · have hne : ((dl : Int) == 0) = false := by simp; omega
        have hE2 : Hid (res = false) := Lib.hid (by rw [hE.out, hne]; rfl)
        go_wp2_with fail
        go_ret
        rw [hE2.out]
        exact ⟨by trivial, HB1.out⟩
end Go.Proofs.YthnkehdcolnegaaGreat
