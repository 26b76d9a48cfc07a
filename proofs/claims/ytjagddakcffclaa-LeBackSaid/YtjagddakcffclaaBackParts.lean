/-
  Facts for the walk of LeBack: what was put is got, what was laid is got, all other bytes stay.
-/
import Derived.Test.YtjagddakcffclaaTells
namespace Go.Proofs.Ytjagddakcffclaa
open Go.RowKit

theorem win_all (l : List UInt8) : win l 0 l.length = l := by simp [win]

theorem win_lay (l : List UInt8) (j k v : Nat) (hj : j + k ≤ l.length) : win (l.take j ++ (leB k v ++ l.drop (j + k))) j k = leB k v := by
  unfold win
  have h1 : (l.take j).length = j := by simp; omega
  rw [List.take_append, h1, List.take_take, Nat.min_eq_right (by omega), show j + k - j = k by omega, List.take_append, leB_length, List.take_of_length_le (l := leB k v) (by rw [leB_length]; exact Nat.le_refl _), Nat.sub_self, List.take_zero, List.append_nil]
  rw [List.drop_append, h1, Nat.sub_self, List.drop_zero, List.drop_of_length_le (by omega), List.nil_append]

theorem lay_other (l : List UInt8) (j k v i : Nat) (hj : j + k ≤ l.length) (hi : i < j ∨ j + k ≤ i) : (l.take j ++ (leB k v ++ l.drop (j + k)))[i]? = l[i]? := by
  have h1 : (l.take j).length = j := by simp; omega
  rcases hi with hi | hi
  · rw [List.getElem?_append_left (by omega), List.getElem?_take, if_pos hi]
  · rw [List.getElem?_append_right (by omega), h1, List.getElem?_append_right (by rw [leB_length]; omega), leB_length, List.getElem?_drop]
    congr 1
    omega

theorem get_put (p : Option Addr) (c n v : Nat) (w : World) (h : Has w p (leB n v)) (hn : wid n = true) (hc : n ≤ c) (hm : c ≤ maxLen) :
    Calls Try.prog 6 #[.slice p n c, .int .i64 0, .int .i64 n] w fun e w' => e = .returned (.tuple #[.int .u64 ((v % 256 ^ n : Nat) : Int), .bool true]) ∧ w = w' := by
  have hn' := (wid_iff _).1 hn
  have hf : fitB n 0 n = true := (fitB_iff _ _ _).2 ⟨hn', by omega, by omega⟩
  have hg : getB (leB n v) 0 n = v % 256 ^ n := by
    unfold getB
    rw [leB_length, if_pos hf, ← num_leB]
    congr 1
    have := win_all (leB n v)
    rw [leB_length] at this
    exact this
  have := get_any p n c (leB n v) 0 n w h (leB_length _ _) hc hm
  rwa [hg, hf] at this

theorem lay_has (p : Option Addr) (len cap : Nat) (l : List UInt8) (at_ n : Int) (v : Nat) (w : World) (h : Has w p l) (hlen : l.length = len) (hcap : len ≤ cap) (hp : p = none → cap = 0) (hbig : len ≤ 140737488355328) (hv : v < 18446744073709551616) :
    Calls Try.prog 8 #[.slice p len cap, .int .i64 at_, .int .i64 n, .int .u64 v] w (GivesH len (layB l at_ n v) w) :=
  (lay_any p len cap l at_ n v w h hlen hcap hp hbig hv).mono fun e w' x => by
    have := x.toH
    rwa [layB_length, hlen] at this

theorem got_laid {P : Program} {f : FuncId} {args : Array Value} {w : World} {l m : List UInt8} {len j n v x : Nat} (hf : fitB len j n = true) (hl : l.length = len) (hj : j + n ≤ len) (hx : x = v % 256 ^ n)
    (hm : m = l.take j ++ (leB n v ++ l.drop (j + n))) (h : Calls P f args w fun e w' => e = .returned (.tuple #[.int .u64 (getB m j n : Int), .bool (fitB len j n)]) ∧ w = w') :
    Calls P f args w fun e w' => e = .returned (.tuple #[.int .u64 (x : Int), .bool true]) ∧ w = w' := by
  have hml : m.length = len := by rw [hm]; simp [leB_length]; omega
  have e : getB m j n = x := by
    unfold getB
    rw [hml, if_pos hf, hx, ← num_leB, hm]
    congr 1
    exact win_lay l j n v (by omega)
  rwa [e, hf] at h
theorem got_old {P : Program} {f : FuncId} {args : Array Value} {w : World} {l : List UInt8} {len j n o : Nat} (hf : fitB len j n = true) (hl : l.length = len) (ho : o = num (win l j n))
    (h : Calls P f args w fun e w' => e = .returned (.tuple #[.int .u64 (getB l j n : Int), .bool (fitB len j n)]) ∧ w = w') :
    Calls P f args w fun e w' => e = .returned (.tuple #[.int .u64 (o : Int), .bool true]) ∧ w = w' := by
  have e : getB l j n = o := by
    unfold getB
    rw [hl, if_pos hf, ho]
    rfl
  rwa [e, hf] at h
theorem put_old {l : List UInt8} {len j n o : Nat} (hl : l.length = len) (hj : j + n ≤ len) (hn : (n : Int) = 1 ∨ (n : Int) = 2 ∨ (n : Int) = 4 ∨ (n : Int) = 8) (ho : o = num (win l j n)) (W : World) :
    Calls Try.prog 10 #[.int .u64 o, .int .i64 n] W (Str n (win l j n) W) := by
  have hwl := win_length l j n (by omega)
  have hlt := num_lt64 (win l j n) (by omega)
  have e : leB n o = win l j n := by
    have := leB_num (win l j n)
    rw [hwl] at this
    rw [ho, this]
  rw [← e]
  exact (put_has o n W (by omega) ((wid_iff _).2 hn)).mono fun _ _ h => h.toStr
theorem conv_win {w : World} {b off len cap j n N : Nat} {l : List UInt8} (h : Has w (some ⟨b, off, none⟩) l) (hl : l.length = len) (hj : j + n ≤ len) (hN : N = w.heap.size) :
    ∀ W, Below N w W → (convert 22 9 (.slice (some ⟨b, off + j, none⟩) n (cap - j))).run Try.prog W = .ok (.string (str (win l j n))) W := by
  have hh : Has w (some ⟨b, off + j, none⟩) (win l j n) := Has.of_plain fun i x hx => by
    have hi : i < n := by
      have := (List.getElem?_eq_some_iff.1 hx).1
      rwa [win_length l j n (by omega)] at this
    rw [win_get l j n i hi] at hx
    obtain ⟨b', off', e, hcell⟩ := h.plain (by omega)
    simp only [Option.some.injEq, Addr.mk.injEq, and_true] at e
    obtain ⟨rfl, rfl⟩ := e
    rw [Nat.add_assoc]
    exact hcell _ _ hx
  exact conv_at hh (win_length l j n (by omega)) hN

theorem conv_now {w : World} {p : Option Addr} {l : List UInt8} (h : Has w p l) {n cap : Nat} (hl : l.length = n) : (convert 22 9 (.slice p n cap)).run Try.prog w = .ok (.string (str l)) w :=
  run_conv w _ _ _ Try.underlying22 Try.underlying5 Try.underlying9 h n cap hl
theorem cell_later {w w' : World} {a : Addr} {v : Value} (hb : Below w.heap.size w w') (h : w.cell? a = some v) : w'.cell? a = some v := (hb.cell (World.block_lt_of_cell? w a h)).trans h
theorem below_drewN {B : Nat} {a w : World} (h : Below B a w) (n : Nat) : Below B a (w.drewN n) := ⟨h.os, h.tape, h.output, h.size, h.block⟩

theorem mod1 {v x : Nat} (h : x = v % 256 ^ 1) : (((x : Int)) != (v : Int) % 256) = false := by subst h; simp
theorem mod2 {v x : Nat} (h : x = v % 256 ^ 2) : (((x : Int)) != (v : Int) % 65536) = false := by subst h; simp
theorem mod4 {v x : Nat} (h : x = v % 256 ^ 4) : (((x : Int)) != (v : Int) % 4294967296) = false := by subst h; simp
theorem mod8 {v x : Nat} (hv : v < 18446744073709551616) (h : x = v % 256 ^ 8) : (((x : Int)) != (v : Int)) = false := by
  have e : (256 : Nat) ^ 8 = 18446744073709551616 := by decide
  rw [e, Nat.mod_eq_of_lt hv] at h
  subst h
  simp

end Go.Proofs.Ytjagddakcffclaa
