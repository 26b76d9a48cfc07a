/-
  The example at the head of the laws of layer shdr.
-/
import Derived.Test.YtaajihmchealnaaTSpec
namespace Go.Proofs.Ytaajihmchealnaa
open Go.RowKit

theorem win_mid (a b c : List UInt8) : win (a ++ (b ++ c)) a.length b.length = b := by
  unfold win
  rw [List.drop_take, List.drop_left, show a.length + b.length - a.length = b.length by omega, List.take_left]
/-- What was put is got, whatever stands around it. -/
theorem sect_mid (a c : List UInt8) (t : Ten) (h : t.may) : sectAt (a ++ (sectB t ++ c)) a.length = some t :=
  (sectAt_iff _ _ _).2 ⟨h, by simp [sectB_length], (win_mid a (sectB t) c).symm⟩

def upT : Ten := ⟨0, 3, 0, 0, 0, 0, 0, 0, 0, 24⟩
theorem tup_any (hget : TGetOK) (hput : TPutOK) (w : World) : Calls Try.prog 12 #[] w fun e w' => e = .returned (.bool true) ∧ Below w.heap.size w w' := by
  have HP := Lib.hid fun W => ((hput upT W).1 (by decide))
  have HG := Lib.hid fun (p : Option Addr) (c : Nat) (W : World) (h1 : Has W p ([9] ++ (sectB upT ++ []))) (h2 : 65 ≤ c) (h3 : c ≤ maxLen) => hget p 65 c _ 1 W h1 rfl h2 h3 (by omega) (by omega) (by omega)
  have e : sectAt ([9] ++ (sectB upT ++ [])) 1 = some upT := sect_mid [9] [] upT (by decide)
  rw [e] at HG
  obtain ⟨i0, hi, hz0, hz1, hz2⟩ := info_parts Try.infoU8
  have HI := Lib.hid hi
  have H0 := Lib.hid hz0
  have H1 := Lib.hid hz1
  have H2 := Lib.hid hz2
  clear hget hput e hi hz0 hz1 hz2
  go_enter Try.func12, Try.ntmps12
  go_wp2_with fail
  refine (HP.out _).mono ?_
  rintro e w1 ⟨v1, rfl, hown1, hb1⟩
  rw [sectB_length] at hown1
  obtain ⟨p1, c1, rfl, _, _, hl1, hH1⟩ := Has.of_owns hown1
  have hl9 : (w1.alloc (.cells #[.int .u8 9] 5)).ownsRow w.heap.size 5 1 (.slice (some ⟨w1.heap.size, 0, none⟩) 1 1) 1 (([9] : List UInt8).map u8v) := owns_lower (lit_owns w1 [9] 1 #[.int .u8 9] rfl rfl (by unfold maxLen; omega)) hb1.size
  obtain ⟨b1, o1, rfl, _⟩ := hH1.plain (by omega)
  have hH1a := hH1.below ((Below.refl _ w1).alloc (Nat.le_refl _) (.cells #[.int .u8 9] 5))
  have HH1 := Lib.hid hH1a
  have HL1 := Lib.hid hl1
  have hba := hb1.alloc hb1.size (.cells #[.int .u8 9] 5)
  obtain ⟨s, hs⟩ : ∃ s, s = sectB upT := ⟨_, rfl⟩
  rw [← hs] at HH1 HL1 HG
  clear hown1 hH1 hH1a hl1 hs
  go_wp2_with (at_builtin; refine wpList_append_bytes _ rfl (.tmp 7) (.tmp 8) 22 rfl w.heap.size 5 i0 Try.underlying22 HI.out H0.out H1.out H2.out _ 1 [9] rfl hl9 (some ⟨b1, o1, none⟩) 64 c1 s rfl HH1.out HL1.out (fun h => by cases h) (by omega) hba.size ?_)
  intro v2 w2 hown2 hgrow2 _
  have hb2 : Below w.heap.size w w2 := hba.grown hgrow2 hba.size (fun g hg => (hl9.lt g hg).1)
  have hown2' : w2.ownsRow w.heap.size 5 1 v2 65 (([9] ++ (s ++ [])).map u8v) := by simpa using hown2
  obtain ⟨p2, c2, rfl, hn2, hc2, _, hH2⟩ := Has.of_owns hown2'
  have HG2 := Lib.hid (HG.out p2 c2 w2 hH2 hn2 hc2)
  clear hown2 hown2' hgrow2 hH2 hl9 hba hb1
  go_wp2_with fail
  refine HG2.out.mono ?_
  rintro e w3 ⟨rfl, hbb3⟩
  have hb3 : Below w.heap.size w w3 := hb2.trans (hbb3.mono hb2.size)
  clear hbb3 hb2
  simp only [sectV, upT]
  go_wp2_with fail
  go_ret
  exact ⟨rfl, hb3.alloc hb3.size _⟩

end Go.Proofs.Ytaajihmchealnaa
