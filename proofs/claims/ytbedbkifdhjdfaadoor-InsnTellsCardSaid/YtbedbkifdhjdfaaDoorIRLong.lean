/-
  Contract of the document's answer for layer insn: long, for bytes that begin with 72.
-/
import Derived.Test.YtbedbkifdhjdfaaDoorIRLongB
import Derived.Test.YtbedbkifdhjdfaaDoorIRLongC
namespace Go.Proofs.YtbedbkifdhjdfaaDoor
open Go.RowKit

theorem rlong_any (p : Option Addr) (len cap : Nat) (l : List UInt8) (w : World) (hh : Has w p l) (hlen : l.length = len) (hcap : len ≤ cap) (hm1 : cap ≤ maxLen) (h0 : kk l 0 = 72) :
    Calls Tryd.prog 12 #[.slice p len cap] w fun e w' => e = .returned (.tuple #[(optI (dec l)).1.v, .bool (optI (dec l)).2]) ∧ Below w.heap.size w w' := by
  by_cases hA : l.length < 2 ∨ (184 ≤ kk l 1 ∧ kk l 1 ≤ 191) ∨ kk l 1 = 15
  · exact rlong_a p len cap l w hh hlen hcap hm1 h0 hA
  by_cases hB : l.length ≤ 2 ∨ (kk l 1 = 141 ∧ kk l 2 / 64 = 0 ∧ kk l 2 % 8 = 5) ∨ (kk l 2 / 64 = 2 ∧ ¬ kk l 2 % 8 = 4 ∧ (kk l 1 = 139 ∨ kk l 1 = 137 ∨ kk l 1 = 136))
  · exact rlong_b p len cap l w hh hlen hcap hm1 h0 ⟨by omega, hB⟩
  · exact rlong_c p len cap l w hh hlen hcap hm1 h0 ⟨by omega, hB⟩
end Go.Proofs.YtbedbkifdhjdfaaDoor
