/-
  Instructions: what is decoded is its bytes, whatever stands behind them; what is encoded. It names nothing of the program.
-/
import Derived.Test.YtbedbkifdhjdfaaDoorInsn
namespace Go.Proofs.YtbedbkifdhjdfaaDoor
open Go.RowKit

def byteI (z : Int) : UInt8 := UInt8.ofNat (z % 256).toNat
def immN (z : Int) : Nat := (z % 18446744073709551616).toNat
def rawS (s : Shp) (x : Ins) : List UInt8 := s.first ++ (if s.names = true then [byteI (s.base + 8 * x.r + x.m)] else []) ++ leB s.width (immN x.imm)
/-- The bytes that an instruction would be. -/
def raw (x : Ins) : List UInt8 := if 1 ≤ x.op then (match shapesL[(x.op - 1).toNat]? with | some s => rawS s x | none => []) else []
def enc (x : Ins) : List UInt8 := if dec (raw x) = some x then raw x else []

theorem leB_mod (k v : Nat) : leB k (v % 256 ^ k) = leB k v := by
  have h := leB_num (leB k v)
  rw [leB_length, num_leB] at h
  exact h
theorem sgn_back (w v : Nat) (hw : w = 4 ∨ w = 8) (hv : v < 256 ^ w) : leB w (immN (sgn w v)) = leB w v := by
  rw [← leB_mod w (immN (sgn w v)), ← leB_mod w v]
  congr 1
  rcases hw with rfl | rfl
  · have e : (256 : Nat) ^ 4 = 4294967296 := by decide
    rw [e] at hv ⊢
    unfold immN sgn
    rw [if_pos rfl]
    split <;> omega
  · have e : (256 : Nat) ^ 8 = 18446744073709551616 := by decide
    rw [e] at hv ⊢
    unfold immN sgn
    rw [if_neg (by decide)]
    split <;> omega
theorem take_win (l : List UInt8) (a n : Nat) : l.take (a + n) = l.take a ++ win l a n := by
  unfold win
  have h := (List.take_append_drop a (l.take (a + n))).symm
  rw [List.take_take, Nat.min_eq_left (by omega)] at h
  exact h
theorem shapes_width (i : Nat) (s : Shp) (h : shapesL[i]? = some s) : s.width = 0 ∨ s.width = 4 ∨ s.width = 8 := by
  have hi : i < 20 := (List.getElem?_eq_some_iff.1 h).1
  match i, hi with
  | 0, _ | 1, _ | 2, _ | 3, _ | 4, _ | 5, _ | 6, _ | 7, _ | 8, _ | 9, _ | 10, _ | 11, _ | 12, _ | 13, _ | 14, _ | 15, _ | 16, _ | 17, _ | 18, _ | 19, _ => cases h; simp
theorem shapes_len (i : Nat) (s : Shp) (h : shapesL[i]? = some s) : 1 ≤ s.first.length ∧ s.first.length + 1 + s.width ≤ 10 := by
  have hi : i < 20 := (List.getElem?_eq_some_iff.1 h).1
  match i, hi with
  | 0, _ | 1, _ | 2, _ | 3, _ | 4, _ | 5, _ | 6, _ | 7, _ | 8, _ | 9, _ | 10, _ | 11, _ | 12, _ | 13, _ | 14, _ | 15, _ | 16, _ | 17, _ | 18, _ | 19, _ => cases h; simp

/-- What is known of what was decoded. -/
theorem dec_some {l : List UInt8} {x : Ins} (h : dec l = some x) : ∃ (i : Nat) (s : Shp) (r m a : Nat), shapesL[i]? = some s ∧ hm s l = some (r, m, a) ∧ a + s.width ≤ l.length ∧
    x = (if s.width = 0 then ⟨(i : Int) + 1, r, m, a, 0, 0, 0⟩ else ⟨(i : Int) + 1, r, m, (a + s.width : Nat), a, s.width, sgn s.width (num (win l a s.width))⟩) := by
  unfold dec at h
  obtain ⟨⟨op, r, m, a, wd⟩, h1, h2⟩ := Option.bind_eq_some_iff.1 h
  obtain ⟨ho1, ho2, s, hs, hmm, hw⟩ := hd_some l _ h1
  simp only at ho1 ho2 hs hmm hw
  subst hw
  unfold fld at h2
  simp only at h2
  split at h2
  · next hl =>
    refine ⟨op - 1, s, r, m, a, hs, hmm, hl, ?_⟩
    rw [← Option.some.inj h2]
    have e : ((op - 1 : Nat) : Int) + 1 = op := by omega
    rw [e]
  · cases h2
theorem dec_of {l : List UInt8} {i : Nat} {s : Shp} {r m a : Nat} (hs : shapesL[i]? = some s) (hmm : hm s l = some (r, m, a)) (hl : a + s.width ≤ l.length) :
    dec l = some (if s.width = 0 then ⟨(i : Int) + 1, r, m, a, 0, 0, 0⟩ else ⟨(i : Int) + 1, r, m, (a + s.width : Nat), a, s.width, sgn s.width (num (win l a s.width))⟩) := by
  unfold dec
  rw [hm_yes l i s hs r m a hmm, Option.bind_some]
  unfold fld
  rw [if_pos hl]
  have e : ((i + 1 : Nat) : Int) = (i : Int) + 1 := by omega
  rw [e]
theorem dec_short {l : List UInt8} {i : Nat} {s : Shp} {r m a : Nat} (hs : shapesL[i]? = some s) (hmm : hm s l = some (r, m, a)) (hl : ¬ a + s.width ≤ l.length) : dec l = none := by
  unfold dec
  rw [hm_yes l i s hs r m a hmm, Option.bind_some]
  unfold fld
  rw [if_neg hl]
theorem dec_none {l : List UInt8} (h : ∀ (i : Nat) (s : Shp), shapesL[i]? = some s → hm s l = none) : dec l = none := by
  cases hd' : dec l with
  | none => rfl
  | some x =>
    obtain ⟨i, s, r, m, a, hs, hmm, _⟩ := dec_some hd'
    rw [h i s hs] at hmm
    cases hmm

theorem hm_len {s : Shp} {l : List UInt8} {r m a : Nat} (h : hm s l = some (r, m, a)) : s.first.length ≤ a ∧ a ≤ s.first.length + 1 ∧ a ≤ l.length := by
  obtain ⟨hp, h2⟩ := (hm_iff s l r m a).1 h
  have := hp.length_le
  rcases h2 with ⟨_, hr, rfl⟩ | ⟨_, _, _, rfl⟩
  · have hc := ((regs_iff _ _ _ _).1 hr).2.2.2.1
    have := kk_lt.1 hc
    omega
  · omega
theorem kk_take {l l' : List UInt8} {n i : Nat} (h : l'.take n = l.take n) (hi : i < n) : kk l' i = kk l i := by
  have e : l'[i]? = l[i]? := by
    have := congrArg (·[i]?) h
    simpa [List.getElem?_take, hi] using this
  unfold kk
  rw [e]
theorem pre_take {l l' p : List UInt8} {n : Nat} (h : l'.take n = l.take n) (hp : p <+: l) (hn : p.length ≤ n) : p <+: l' := by
  have e : p = l.take p.length := List.prefix_iff_eq_take.1 hp
  have e2 : l.take p.length = l'.take p.length := by
    have := congrArg (List.take p.length) h
    rw [List.take_take, List.take_take, Nat.min_eq_left hn] at this
    exact this.symm
  rw [e, e2]
  exact List.take_prefix _ _
theorem hm_take {s : Shp} {l l' : List UInt8} {r m a : Nat} (h : hm s l = some (r, m, a)) (e : l'.take a = l.take a) : hm s l' = some (r, m, a) := by
  obtain ⟨hp, h2⟩ := (hm_iff s l r m a).1 h
  have hl := hm_len h
  refine (hm_iff s l' r m a).2 ⟨pre_take e hp hl.1, ?_⟩
  rcases h2 with ⟨h3, h4, rfl⟩ | h5
  · exact .inl ⟨h3, by rw [kk_take e (by omega)]; exact h4, rfl⟩
  · exact .inr h5
theorem hm_raw {s : Shp} {l : List UInt8} {r m a : Nat} (h : hm s l = some (r, m, a)) : l.take a = s.first ++ (if s.names = true then [byteI ((s.base : Int) + 8 * (r : Int) + (m : Int))] else []) := by
  obtain ⟨⟨t, rfl⟩, h2⟩ := (hm_iff s l r m a).1 h
  rcases h2 with ⟨h3, h4, rfl⟩ | ⟨h3, _, _, rfl⟩
  · obtain ⟨e, _, _, hc, _⟩ := (regs_iff _ _ _ _).1 h4
    rw [if_pos h3]
    have hi := kk_lt.1 hc
    obtain ⟨c, hcc⟩ : ∃ c, (s.first ++ t)[s.first.length]? = some c := ⟨_, List.getElem?_eq_getElem hi⟩
    rw [kk_some hcc] at e
    rw [List.take_add_one, hcc, List.take_left]
    congr 1
    simp only [Option.toList_some, List.cons.injEq, and_true]
    apply UInt8.toNat_inj.1
    unfold byteI
    have := c.toNat_lt
    rw [UInt8.toNat_ofNat']
    omega
  · rw [h3]; simp

/-- What was decoded is its bytes. -/
theorem dec_raw {l : List UInt8} {x : Ins} (h : dec l = some x) : 1 ≤ x.len ∧ x.len ≤ 10 ∧ x.len ≤ l.length ∧ (0 < x.width → x.field + x.width = x.len) ∧ (x.width = 0 → x.field = 0) ∧ (x.width = 0 ∨ x.width = 4 ∨ x.width = 8) ∧ l.take x.len.toNat = raw x ∧
    (∀ l', l'.take x.len.toNat = l.take x.len.toNat → dec l' = some x) := by
  obtain ⟨i, s, r, m, a, hs, hmm, hl, rfl⟩ := dec_some h
  have hw := shapes_width i s hs
  have hln := shapes_len i s hs
  have hml := hm_len hmm
  have hr := hm_raw hmm
  have hraw : ∀ (ln fi wd im : Int), raw ⟨(i : Int) + 1, r, m, ln, fi, wd, im⟩ = rawS s ⟨(i : Int) + 1, r, m, ln, fi, wd, im⟩ := fun ln fi wd im => by
    unfold raw
    simp only
    have e : ((i : Int) + 1 - 1).toNat = i := by omega
    rw [e, hs, if_pos (by omega)]
  have htk : ∀ l' : List UInt8, l'.take (a + s.width) = l.take (a + s.width) → a + s.width ≤ l'.length ∧ hm s l' = some (r, m, a) ∧ win l' a s.width = win l a s.width := fun l' e => by
    have e2 := congrArg List.length e
    simp only [List.length_take] at e2
    refine ⟨by omega, hm_take hmm ?_, by unfold win; rw [e]⟩
    have := congrArg (List.take a) e
    rw [List.take_take, List.take_take, Nat.min_eq_left (by omega)] at this
    exact this
  by_cases h0 : s.width = 0
  · simp only [if_pos h0]
    refine ⟨by omega, by omega, by omega, by simp, by simp, by simp, ?_, fun l' e => ?_⟩
    · rw [hraw]
      unfold rawS
      have e : ((a : Int)).toNat = a := by omega
      rw [e, hr, h0]
      simp [leB]
    · have e1 : ((a : Int)).toNat = a := by omega
      rw [e1] at e
      obtain ⟨t1, t2, t3⟩ := htk l' (by rw [h0]; exact e)
      rw [dec_of hs t2 t1, if_pos h0]
  · simp only [if_neg h0]
    have e : ((a + s.width : Nat) : Int).toNat = a + s.width := by omega
    refine ⟨by omega, by omega, by omega, by intro hh; omega, fun hh => by omega, by omega, ?_, fun l' e' => ?_⟩
    · rw [hraw]
      unfold rawS
      rw [e, take_win, hr]
      congr 1
      have hwl := win_length l a s.width hl
      have hn := num_lt (win l a s.width)
      rw [hwl] at hn
      simp only
      rw [sgn_back s.width _ (by omega) hn]
      have := leB_num (win l a s.width)
      rw [hwl] at this
      exact this.symm
    · rw [e] at e'
      obtain ⟨t1, t2, t3⟩ := htk l' e'
      rw [dec_of hs t2 t1, if_neg h0, t3]

theorem dec_facts {l : List UInt8} {x : Ins} (h : dec l = some x) : 1 ≤ x.op ∧ x.op ≤ 20 ∧ 0 ≤ x.r ∧ x.r < 8 ∧ 0 ≤ x.m ∧ x.m < 8 ∧ ∀ s, shapesL[(x.op - 1).toNat]? = some s → (s.r = false → x.r = 0) ∧ (s.m = false → x.m = 0) := by
  obtain ⟨i, s, r, m, a, hs, hmm, hl, rfl⟩ := dec_some h
  have hi : i < 20 := (List.getElem?_eq_some_iff.1 hs).1
  have key : r < 8 ∧ m < 8 ∧ (s.r = false → r = 0) ∧ (s.m = false → m = 0) := by
    rcases ((hm_iff s l r m a).1 hmm).2 with ⟨_, h4, _⟩ | ⟨_, rfl, rfl, _⟩
    · obtain ⟨_, h1, h2, _, h5, h6, _⟩ := (regs_iff _ _ _ _).1 h4
      exact ⟨h1, h2, fun hh => h5.resolve_left (by rw [hh]; simp), fun hh => h6.resolve_left (by rw [hh]; simp)⟩
    · exact ⟨by omega, by omega, fun _ => rfl, fun _ => rfl⟩
  have e : ((i : Int) + 1 - 1).toNat = i := by omega
  split
  all_goals
    refine ⟨by simp only; omega, by simp only; omega, by simp only; omega, by simp only; omega, by simp only; omega, by simp only; omega, fun t ht => ?_⟩
    simp only at ht ⊢
    rw [e, hs] at ht
    cases ht
    exact ⟨fun hh => by have := key.2.2.1 hh; omega, fun hh => by have := key.2.2.2 hh; omega⟩

/-- What was encoded is decoded, whatever stands behind it. -/
theorem enc_dec {x : Ins} (h : enc x ≠ []) : dec (raw x) = some x ∧ enc x = raw x := by
  unfold enc at h ⊢
  split at h
  · next hh => exact ⟨hh, if_pos hh⟩
  · exact absurd rfl h
theorem dec_enc {l : List UInt8} {x : Ins} (h : dec l = some x) : enc x = l.take x.len.toNat := by
  obtain ⟨h1, h2, h3, _, _, _, h6, h7⟩ := dec_raw h
  have : dec (raw x) = some x := h7 _ (by rw [← h6, List.take_take, Nat.min_self])
  unfold enc
  rw [if_pos this, h6]
theorem enc_more {x : Ins} (h : enc x ≠ []) (r : List UInt8) : dec (enc x ++ r) = some x ∧ x.len = (enc x).length := by
  obtain ⟨h1, h2⟩ := enc_dec h
  obtain ⟨q1, q2, q3, _, _, _, q6, q7⟩ := dec_raw h1
  have hl : (raw x).length = x.len.toNat := by
    have := congrArg List.length q6
    rw [List.length_take] at this
    omega
  rw [h2]
  refine ⟨q7 _ ?_, by omega⟩
  rw [List.take_append_of_le_length (by omega)]
theorem enc_cut {x : Ins} (h : enc x ≠ []) (k : Nat) (hk : k < (enc x).length) : dec ((enc x).take k) = none := by
  cases hd' : dec ((enc x).take k) with
  | none => rfl
  | some y =>
    obtain ⟨q1, q2, q3, _, _, _, q6, q7⟩ := dec_raw hd'
    obtain ⟨e1, e2⟩ := enc_more h []
    rw [List.append_nil] at e1
    have h2 := q7 (enc x) (by
      rw [List.length_take] at q3
      rw [List.take_take, Nat.min_eq_left (by omega)])
    rw [e1] at h2
    cases h2
    rw [List.length_take] at q3
    omega
theorem enc_inj {x y : Ins} (hx : enc x ≠ []) (hy : enc y ≠ []) : enc x = enc y ↔ x = y := by
  constructor
  · intro h
    have h1 := (enc_more hx []).1
    have h2 := (enc_more hy []).1
    rw [h, h2] at h1
    exact (Option.some.inj h1).symm
  · intro h; rw [h]
end Go.Proofs.YtbedbkifdhjdfaaDoor
