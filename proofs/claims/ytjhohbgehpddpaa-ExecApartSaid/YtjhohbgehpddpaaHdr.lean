/-
  The ELF header: its bytes, as the document tells, and what is got of bytes; contracts of the reference's Begin and Begun.
-/
import Derived.Test.YtjhohbgehpddpaaNums
import Derived.Deep.QuietTactic
import Derived.BigQuiet
namespace Go.Proofs.Ytjhohbgehpddpaa
open Go.RowKit

def ident : List UInt8 := [127, 69, 76, 70, 2, 1, 1, 0, 0, 0, 0, 0, 0, 0, 0, 0]
def hdrL (a m n : Int) : List Int := [1, 2, 62, 2, 1, 4, 0, 8, 0, 8, a, 8, 0, 4, 64, 2, 0, 2, 0, 2, 64, 2, m, 2, n, 2]
def hdrB (a m n : Nat) : List UInt8 := ident ++ numsB (hdrL a m n)
/-- May a head be? -/
def mayH (a m n : Int) : Prop := 0 ≤ a ∧ a ≤ 2147483647 ∧ 1 ≤ m ∧ m ≤ 65535 ∧ 1 ≤ n ∧ n < m

theorem hdrB_length (a m n : Nat) : (hdrB a m n).length = 64 := rfl
theorem hdr_at {a m n : Nat} (h : a < 18446744073709551616) : win (hdrB a m n) 40 8 = leB 8 a := by
  have : win (hdrB a m n) 40 8 = leB 8 (u64n a) := rfl
  rw [this, u64n_nat a h]
theorem hdr_many {a m n : Nat} (h : m < 18446744073709551616) : win (hdrB a m n) 60 2 = leB 2 m := by
  have : win (hdrB a m n) 60 2 = leB 2 (u64n m) := rfl
  rw [this, u64n_nat m h]
theorem hdr_names {a m n : Nat} (h : n < 18446744073709551616) : win (hdrB a m n) 62 2 = leB 2 n := by
  have : win (hdrB a m n) 62 2 = leB 2 (u64n n) := rfl
  rw [this, u64n_nat n h]
theorem win_take (l : List UInt8) (j k : Nat) (h : j + k ≤ 64) : win (l.take 64) j k = win l j k := by
  unfold win
  rw [List.take_take, Nat.min_eq_left h]

instance (a m n : Int) : Decidable (mayH a m n) := by unfold mayH; infer_instance
/-- The head with which the bytes begin. -/
def begunB (l : List UInt8) : Option (Nat × Nat × Nat) :=
  if 64 ≤ l.length ∧ mayH (num (win l 40 8)) (num (win l 60 2)) (num (win l 62 2)) ∧ hdrB (num (win l 40 8)) (num (win l 60 2)) (num (win l 62 2)) = l.take 64 then
    some (num (win l 40 8), num (win l 60 2), num (win l 62 2)) else none
theorem begunB_iff (l : List UInt8) (a m n : Nat) : begunB l = some (a, m, n) ↔ mayH a m n ∧ hdrB a m n = l.take 64 := by
  constructor
  · intro h
    unfold begunB at h
    split at h
    · rename_i hc
      simp only [Option.some.injEq, Prod.mk.injEq] at h
      obtain ⟨rfl, rfl, rfl⟩ := h
      exact hc.2
    · cases h
  · rintro ⟨hm, he⟩
    obtain ⟨h1, h2, h3, h4, h5, h6⟩ := hm
    have hl : 64 ≤ l.length := by
      have := congrArg List.length he
      rw [hdrB_length, List.length_take] at this
      omega
    have e1 : num (win l 40 8) = a := by rw [← win_take l 40 8 (by omega), ← he, hdr_at (by omega), num_leB]; omega
    have e2 : num (win l 60 2) = m := by rw [← win_take l 60 2 (by omega), ← he, hdr_many (by omega), num_leB]; omega
    have e3 : num (win l 62 2) = n := by rw [← win_take l 62 2 (by omega), ← he, hdr_names (by omega), num_leB]; omega
    unfold begunB
    rw [e1, e2, e3, if_pos ⟨hl, ⟨h1, h2, h3, h4, h5, h6⟩, he⟩]

theorem lit_hasI (w : World) (t : TypeId) (xs : List Int) (cs : Array Value) (h : cs = (xs.map (Value.int .i64)).toArray) (H : Nat) (hH : w.heap.size = H) : HasI (w.alloc (.cells cs t)) (some ⟨H, 0, none⟩) xs := fun i x hx => by
  subst hH
  refine ⟨_, rfl, ?_⟩
  have ha : (⟨w.heap.size, 0, none⟩ : Addr).add i = ⟨w.heap.size, i, none⟩ := by unfold Addr.add; split <;> simp_all
  rw [ha, cell_of_row _ w.heap.size i cs t (0, 0) (heap_alloc_new w _), h]
  simp [hx]
theorem lit_owns (w : World) (l : List UInt8) (n : Nat) (cs : Array Value) (h : cs = (l.map u8v).toArray) (hn : l.length = n) (hm : n ≤ maxLen) :
    (w.alloc (.cells cs 5)).ownsRow w.heap.size 5 1 (.slice (some ⟨w.heap.size, 0, none⟩) n n) n (l.map u8v) := by
  subst hn
  have hs : cs.size = l.length * 1 := by rw [h]; simp
  have := World.ownsRow_lit (base := w.heap.size) (e := 5) (size := 1) w cs l.length (Nat.le_refl _) hm hs
  rw [h] at this ⊢
  exact this

theorem hdr_wid (a m n : Int) : ∀ (i : Nat) (x : Int), (hdrL a m n)[2 * i + 1]? = some x → wid x = true := fun i x hx => by
  have hi : i < 13 := by have := (List.getElem?_eq_some_iff.1 hx).1; simp [hdrL] at this; omega
  match i, hi, hx with
  | 0, _, hx | 1, _, hx | 2, _, hx | 3, _, hx | 4, _, hx | 5, _, hx | 6, _, hx | 7, _, hx | 8, _, hx | 9, _, hx | 10, _, hx | 11, _, hx | 12, _, hx => simp [hdrL] at hx; subst hx; rfl

theorem hdr_bd {a m n : Int} (h1 : 0 ≤ a ∧ a ≤ 2147483647) (h2 : 0 ≤ m ∧ m ≤ 2147483647) (h3 : 0 ≤ n ∧ n ≤ 2147483647) : ∀ (i : Nat) (x : Int), (hdrL a m n)[i]? = some x → -9223372036854775808 ≤ x ∧ x ≤ 9223372036854775807 := fun i x hx => by
  have := List.mem_of_getElem? hx
  simp only [hdrL, List.mem_cons, List.not_mem_nil, or_false] at this
  omega
theorem begin_no (a m n : Int) (w : World) (h : ¬ mayH a m n) :
    Calls Try.prog 18 #[.int .i64 a, .int .i64 m, .int .i64 n] w fun e w' => e = .returned (.slice none 0 0) ∧ w = w' := by
  have HF : Hid (∀ W, Calls Try.prog 30 #[.int .i64 a] W fun e w' => e = .returned (.bool (fitsB a)) ∧ W = w') := Lib.hid (fits_any a)
  by_cases h0 : 0 ≤ a ∧ a ≤ 2147483647
  · rw [(fitsB_iff a).2 h0] at HF
    by_cases h1 : m < 1
    · clear h h0
      go_enter Try.func18, Try.ntmps18
      go_wp2_with (go_at_call 30; refine (HF.out _).mono ?_; rintro e w' ⟨rfl, rfl⟩)
      go_ret
      exact ⟨rfl, rfl⟩
    by_cases h2 : 65535 < m
    · clear h h0
      go_enter Try.func18, Try.ntmps18
      go_wp2_with (go_at_call 30; refine (HF.out _).mono ?_; rintro e w' ⟨rfl, rfl⟩)
      go_ret
      exact ⟨rfl, rfl⟩
    by_cases h3 : n < 1
    · clear h h0
      go_enter Try.func18, Try.ntmps18
      go_wp2_with (go_at_call 30; refine (HF.out _).mono ?_; rintro e w' ⟨rfl, rfl⟩)
      go_ret
      exact ⟨rfl, rfl⟩
    have h4 : m ≤ n := by unfold mayH at h; omega
    clear h h0
    go_enter Try.func18, Try.ntmps18
    go_wp2_with (go_at_call 30; refine (HF.out _).mono ?_; rintro e w' ⟨rfl, rfl⟩)
    go_ret
    exact ⟨rfl, rfl⟩
  · have hf : fitsB a = false := by
      cases hq : fitsB a with
      | false => rfl
      | true => exact absurd ((fitsB_iff a).1 hq) h0
    rw [hf] at HF
    clear h h0 hf
    go_enter Try.func18, Try.ntmps18
    go_wp2_with (go_at_call 30; refine (HF.out _).mono ?_; rintro e w' ⟨rfl, rfl⟩)
    go_ret
    exact ⟨rfl, rfl⟩

set_option maxRecDepth 100000 in
set_option maxHeartbeats 1000000 in
theorem begin_yes (a m n : Nat) (w : World) (h : mayH a m n) :
    Calls Try.prog 18 #[.int .i64 a, .int .i64 m, .int .i64 n] w (Gives (hdrB a m n) w) := by
  obtain ⟨h1, h2, h3, h4, h5, h6⟩ := h
  have HF : Hid (∀ W, Calls Try.prog 30 #[.int .i64 a] W fun e w' => e = .returned (.bool true) ∧ W = w') := Lib.hid fun W => by
    have := fits_any a W
    rwa [(fitsB_iff a).2 ⟨h1, h2⟩] at this
  obtain ⟨i0, hi, hz0, hz1, hz2⟩ := info_parts Try.infoU8
  have HI := Lib.hid hi
  have H0 := Lib.hid hz0
  have H1 := Lib.hid hz1
  have H2 := Lib.hid hz2
  have HN := Lib.hid fun (W : World) (p : Option Addr) (hp : HasI W p (hdrL a m n)) => nums_any p 26 26 13 (hdrL a m n) W hp rfl rfl (by omega) (hdr_wid a m n) (fun i v hv => hdr_bd (by omega) (by omega) (by omega) i v hv)
  clear hi hz0 hz1 hz2
  go_enter Try.func18, Try.ntmps18
  go_wp2_with (go_at_call 30; refine (HF.out _).mono ?_; rintro e w' ⟨rfl, rfl⟩)
  refine (HN.out _ _ (lit_hasI _ _ (hdrL a m n) _ rfl _ (by simp))).mono ?_
  rintro e w2 ⟨v2, rfl, ho2, hbb2⟩
  obtain ⟨p2, c2, rfl, hn2, hc2, hl2, hH2⟩ := Has.of_owns ho2
  have hb1 : Below w.heap.size w (w.alloc (.cells #[.int .u8 127, .int .u8 69, .int .u8 76, .int .u8 70, .int .u8 2, .int .u8 1, .int .u8 1, .int .u8 0, .int .u8 0, .int .u8 0, .int .u8 0, .int .u8 0, .int .u8 0, .int .u8 0, .int .u8 0, .int .u8 0] 5)) := (Below.refl _ w).alloc (Nat.le_refl _) _
  have hb2 : Below w.heap.size w w2 := (hb1.alloc hb1.size _).trans (hbb2.mono (by simp; omega))
  have hown1 := lit_owns w ident 16 #[.int .u8 127, .int .u8 69, .int .u8 76, .int .u8 70, .int .u8 2, .int .u8 1, .int .u8 1, .int .u8 0, .int .u8 0, .int .u8 0, .int .u8 0, .int .u8 0, .int .u8 0, .int .u8 0, .int .u8 0, .int .u8 0] rfl rfl (by unfold maxLen; omega)
  have hown2 := owns_below (hown1.alloc (.cells (((hdrL a m n).map (Value.int .i64)).toArray) 3)) hbb2
  obtain ⟨b2, o2, rfl, _⟩ := hH2.plain (by rw [hl2]; exact (show 0 < 48 by omega))
  have HH2 := Lib.hid hH2
  clear ho2 hbb2 hown1 hb1 hl2 hH2
  go_wp2_with (at_builtin; refine wpList_append_own _ rfl _ _ 22 rfl w.heap.size 5 i0 (.int .u8 0) 1 1 Try.underlying22 HI.out H0.out H1.out H2.out rfl (by decide) _ 16 _ rfl hown2 ⟨b2, o2, none⟩ 48 c2 ((numsB (hdrL a m n)).map u8v) rfl rfl HH2.out.cells (map_oneCell _) (by unfold maxLen; omega) (by omega) hb2.size ?_)
  intro v3 w3 hown3 hgrow _
  have hb3 : Below w.heap.size w w3 := hb2.grown hgrow hb2.size (fun g hg => (hown2.lt g hg).1)
  rw [← List.map_append] at hown3
  clear hgrow hown2 hb2
  go_wp2_with fail
  go_ret
  exact ⟨_, rfl, hown3, hb3⟩

end Go.Proofs.Ytjhohbgehpddpaa
