/-
  The walk of LeTells: le and its reference tell the same.
-/
import Derived.Test.YtjagddakcffclaaUp
import Derived.Deep.RegionHeld
import Derived.Deep.DeepCutAuto
namespace Go.Proofs.Ytjagddakcffclaa
open Go.RowKit

/-- What Put tells. -/
def putB (n : Int) (v : Nat) : List UInt8 := if wid n = true then leB n.toNat v else []

theorem put_str (n : Int) (v : Nat) (w : World) (hv : v < 18446744073709551616) : Calls Try.prog 10 #[.int .u64 v, .int .i64 n] w (Str (putB n v).length (putB n v) w) := by
  by_cases hw : wid n = true
  · obtain ⟨k, rfl⟩ := Int.eq_ofNat_of_zero_le (show 0 ≤ n by have := (wid_iff n).1 hw; omega)
    have e : putB k v = leB k v := by simp [putB, hw]
    rw [e, leB_length]
    exact (put_has v k w hv hw).mono fun _ _ h => h.toStr
  · have hw' : wid n = false := by simpa using hw
    have e : putB n v = [] := by simp [putB, hw']
    rw [e]
    refine (put_no v n w hw').mono fun e w' ⟨he, hw⟩ => ?_
    subst hw
    exact GivesH.toStr ⟨none, 0, he, rfl, Nat.le_refl _, Nat.zero_le _, Has.none_ _ _, Below.refl _ _⟩

theorem refPut_str (n : Int) (v : Nat) (w : World) (hv : v < 18446744073709551616) : Calls Try.prog 11 #[.int .u64 v, .int .i64 n] w (Str (putB n v).length (putB n v) w) := by
  by_cases hw : wid n = true
  · obtain ⟨k, rfl⟩ := Int.eq_ofNat_of_zero_le (show 0 ≤ n by have := (wid_iff n).1 hw; omega)
    have e : putB k v = leB k v := by simp [putB, hw]
    rw [e, leB_length]
    exact (refPut_has v k w hv hw).mono fun _ _ h => h.toStr
  · have hw' : wid n = false := by simpa using hw
    have e : putB n v = [] := by simp [putB, hw']
    rw [e]
    refine (refPut_no v n w hw').mono fun e w' ⟨he, hw⟩ => ?_
    subst hw
    exact GivesH.toStr ⟨none, 0, he, rfl, Nat.le_refl _, Nat.zero_le _, Has.none_ _ _, Below.refl _ _⟩

set_option maxHeartbeats 1000000 in
theorem tells_walk (p : Option Addr) (len cap : Nat) (l : List UInt8) (at_ n : Int) (v : Nat) (w : World) (h : Has w p l) (hlen : l.length = len) (hcap : len ≤ cap) (hm : cap ≤ maxLen) (hp : p = none → cap = 0) (hv : v < 18446744073709551616)
    (ha0 : -9223372036854775808 ≤ at_) (ha1 : at_ ≤ 9223372036854775807) :
    Calls Try.prog 3 #[.slice p len cap, .int .i64 at_, .int .i64 n, .int .u64 v] w fun e w' => e = .returned (.bool true) ∧ Below w.heap.size w w' := by
  by_cases hbig : len ≤ 10000
  · have HGet := Lib.hid fun W (hb : Below w.heap.size w W) => get_any p len cap l at_ n W (h.below hb) hlen hcap hm
    have HRef := Lib.hid fun W (hb : Below w.heap.size w W) => refGet_any p len cap l at_ n W (h.below hb) hlen hcap hm ha0 ha1
    have HLay := Lib.hid fun W (hb : Below w.heap.size w W) => (lay_any p len cap l at_ n v W (h.below hb) hlen hcap hp (by omega) hv).mono fun _ _ x => x.toH.toStr
    have HRLay := Lib.hid fun W (hb : Below w.heap.size w W) => (refLay_any p len cap l at_ n v W (h.below hb) hlen hcap hp hm (by omega) hv ha0 ha1).mono fun _ _ x => x.toH.toStr
    have HPut := Lib.hid fun W => put_str n v W hv
    have HRPut := Lib.hid fun W => refPut_str n v W hv
    clear h hlen hp
    generalize getB l at_ n = g at HGet HRef
    generalize fitB len at_ n = f at HGet HRef
    have hgg : ((g : Int) == (g : Int)) = true := by simp
    have hff : (f == f) = true := by simp
    go_enter Try.func3, Try.ntmps3
    go_wp2_with fail
    refine (up_any _).mono ?_
    rintro e w1 ⟨rfl, hb1⟩
    go_upto_region 6 with (first | (go_at_call 6; refine (HGet.out _ hb1).mono ?_; rintro e w' ⟨rfl, rfl⟩) | (go_at_call 7; refine (HRef.out _ hb1).mono ?_; rintro e w' ⟨rfl, rfl⟩))
    go_cut [14] (fun s14 wx => s14 = .bool true ∧ Below w.heap.size w wx)
    case first =>
      go_region_with (first | (go_at_call 8; refine (HLay.out _ (by exact hb1.drew)).mono ?_; rintro e w2 ⟨pa, ca, Na, rfl, hca, hNa, hba⟩; have hb2 : Below w.heap.size w w2 := hb1.drew.trans (hba.mono (by exact hb1.size)); have hra := Below.refl Na w2; have HNa := Lib.hid hNa; clear hNa hba) | (go_at_call 9; refine (HRLay.out _ (by exact hb2)).mono ?_; rintro e w3 ⟨pb, cb, Nb, rfl, hcb, hNb, hbb⟩; have hb3 : Below w.heap.size w w3 := hb2.trans (hbb.mono hb2.size); have hab : Below Na w2 w3 := (by rw [HNa.out]; exact hbb); have hrb := Below.refl Nb w3; clear hNb hbb))
      all_goals (go_wp2_with fail; go_meet; exact ⟨rfl, hb3⟩)
    case rest =>
      obtain ⟨rfl, hb3⟩ := hcut
      go_wp2_with fail
      go_region_held (fun _ => True) (trivial) (first | (go_at_call 10; refine (HPut.out _).mono ?_; rintro e w4 ⟨pc, cc, Nc, rfl, hcc, hNc, hbc⟩; have hb4 : Below w.heap.size w w4 := hb3.drew.trans (hbc.mono (by exact hb3.size)); have hrc := Below.refl Nc w4; have HNc := Lib.hid hNc; clear hNc hbc) | (go_at_call 11; refine (HRPut.out _).mono ?_; rintro e w5 ⟨pd, cd, Nd, rfl, hcd, hNd, hbd⟩; have hb5 : Below w.heap.size w w5 := hb4.trans (hbd.mono hb4.size); have hcd2 : Below Nc w4 w5 := (by rw [HNc.out]; exact hbd); have hrd := Below.refl Nd w5; clear hNd hbd))
      all_goals
        go_wp2
        go_ret
        exact ⟨rfl, hb5⟩
  · have hbig' : (10000 : Int) < len := by omega
    go_enter Try.func3, Try.ntmps3
    go_wp2_with fail
    refine (up_any _).mono ?_
    rintro e w1 ⟨rfl, hb1⟩
    go_wp2
    go_ret
    exact ⟨rfl, hb1⟩

end Go.Proofs.Ytjagddakcffclaa
