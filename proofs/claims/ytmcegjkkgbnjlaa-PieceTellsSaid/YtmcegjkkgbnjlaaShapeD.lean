/-
  Contract of the reference's member.
-/
import Derived.Test.YtmcegjkkgbnjlaaShapeA
namespace Go.Proofs.Ytmcegjkkgbnjlaa
open Go.RowKit

/-- An object's value: its five cells. -/
abbrev objV (v0 v1 v2 : Value) (sig : Bool) (v4 : Value) : Value := .agg #[v0, v1, v2, .bool sig, v4]
def memberN (gs : List GroupD) (n : Int) : Nat := (gs.map fun g => g.members.count n).sum
theorem member_step {gs : List GroupD} {g : GroupD} {i : Nat} (n : Int) (h : gs[i]? = some g) : memberN (gs.take (i + 1)) n = memberN (gs.take i) n + g.members.count n := by
  unfold memberN
  rw [List.take_add_one, h]
  simp
theorem count_step {l : List Int} {x : Int} {k : Nat} (n : Int) (h : l[k]? = some x) : (l.take (k + 1)).count n = (l.take k).count n + (if x == n then 1 else 0) := by
  rw [List.take_add_one, h]
  simp [List.count_append, List.count_cons]

set_option maxRecDepth 100000 in
set_option maxHeartbeats 1000000 in
theorem member_any (v0 v1 v2 : Value) (sig : Bool) (v4 : Value) (gs : List GroupD) (n : Int) (w : World) (hg : IsL 2 EGroup w v2 gs) (hgl : gs.length ≤ 1000000) (hml : ∀ g ∈ gs, g.members.length ≤ 1000000) :
    Calls Try.prog 154 #[objV v0 v1 v2 sig v4, .int .i64 n] w fun e w' => e = .returned (.int .i64 (memberN gs n : Int)) ∧ Below w.heap.size w w' := by
  have hb : Below w.heap.size w (w.alloc (.cells #[v0, v1, v2, .bool sig, v4] 90)) := (Below.refl _ w).alloc (Nat.le_refl _) _
  have hg1 := hg.below EGroup.keeps hb
  have hc2 : (w.alloc (.cells #[v0, v1, v2, .bool sig, v4] 90)).cell? ⟨w.heap.size, 2, none⟩ = some v2 := by simp
  obtain ⟨p, c, rfl, _, _, _, hgs⟩ := hg1
  generalize hm : gs.length = m at *
  have HG := Lib.hid hgs
  have HML := Lib.hid hml
  have HM := Lib.hid hm
  clear hg hgs hml hm
  go_enter Try.func154, Try.ntmps154
  go_wp2_with fail
  generalize w.alloc (.cells #[v0, v1, .slice p m c, .bool sig, v4] 90) = w1 at *
  generalize hgb : w.heap.size = gb at *
  go_loop [5, 6] (fun r5 r6 => ∃ (i q : Nat), i ≤ m ∧ r6 = .int .i64 (i : Int) ∧ r5 = .int .i64 (q : Int) ∧ q = memberN (gs.take i) n ∧ q ≤ i * 1000000) (fun _ r6 => m - (intOf r6).toNat)
  case atStart => exact ⟨0, 0, Nat.zero_le _, rfl, rfl, rfl, Nat.le_refl _⟩
  case round =>
    obtain ⟨i, q, hi, rfl, rfl, hq, hqb⟩ := hrel
    have HQ := Lib.hid hq
    clear hq
    by_cases hlt : i < m
    · obtain ⟨b, off, g, rfl, hgi, hge⟩ := HG.out.at_ (i := i) (by rw [HM.out]; exact hlt)
      obtain ⟨⟨hsym, _⟩, vm, hvm, pm, cm, rfl, hl1, hl2, hl3, hms⟩ := hge
      have hlb := HML.out g (List.mem_of_getElem? hgi)
      have HGI := Lib.hid hgi
      have HMS := Lib.hid hms
      generalize hml : g.members.length = ml at *
      have HL := Lib.hid hml
      have hI : (i : Int) < (m : Int) := by omega
      have hI0 : (0 : Int) ≤ (i : Int) := by omega
      clear hgi hms hml hsym hl3
      go_wp2_with fail
      go_loop [5, 7] (fun r5 r7 => ∃ (k q2 : Nat), k ≤ ml ∧ r7 = .int .i64 (k : Int) ∧ r5 = .int .i64 (q2 : Int) ∧ q2 = q + (g.members.take k).count n ∧ q2 ≤ q + k) (fun _ r7 => ml - (intOf r7).toNat)
      case atStart => exact ⟨0, q, Nat.zero_le _, rfl, rfl, by simp, Nat.le_refl _⟩
      case round =>
        obtain ⟨k, q2, hk, rfl, rfl, hq2, hqb2⟩ := hrel
        have HQ2 := Lib.hid hq2
        clear hq2
        by_cases hkl : k < ml
        · obtain ⟨b2, off2, x, rfl, hx, hxe⟩ := HMS.out.at_ (i := k) (by rw [HL.out]; exact hkl)
          have hcx := hxe.1
          rw [Nat.mul_one] at hcx
          have HST := Lib.hid (count_step n hx)
          have hJ : (k : Int) < (ml : Int) := by omega
          have hJ0 : (0 : Int) ≤ (k : Int) := by omega
          clear hx hxe
          cases hxn : (x == n) with
          | true =>
            rw [hxn] at HST
            go_wp2_with fail
            go_round
            case rel => exact ⟨k + 1, q2 + 1, hkl, by go_num, by go_num, by rw [HST.out, HQ2.out]; simp; omega, by omega⟩
            case measure => simp [intOf]; omega
          | false =>
            rw [hxn] at HST
            go_wp2_with fail
            go_round
            case rel => exact ⟨k + 1, q2, hkl, by go_num, rfl, by rw [HST.out, HQ2.out]; simp, by omega⟩
            case measure => simp [intOf]; omega
        · have hJ : ¬ (k : Int) < (ml : Int) := by omega
          have HE : Hid (q2 = memberN (gs.take (i + 1)) n) := Lib.hid (by
            rw [member_step n HGI.out, ← HQ.out, HQ2.out, List.take_of_length_le (by rw [HL.out]; omega)])
          go_wp2_with fail
          go_round
          case rel => exact ⟨i + 1, q2, hlt, by go_num, rfl, HE.out, by omega⟩
          case measure => simp [intOf]; omega
    · have hI : ¬ (i : Int) < (m : Int) := by omega
      have HE : Hid (memberN gs n = q) := Lib.hid (by rw [HQ.out, List.take_of_length_le (by rw [HM.out]; omega)])
      subst hgb
      go_wp2_with fail
      go_ret
      exact ⟨by rw [HE.out]; rfl, hb⟩

end Go.Proofs.Ytmcegjkkgbnjlaa
