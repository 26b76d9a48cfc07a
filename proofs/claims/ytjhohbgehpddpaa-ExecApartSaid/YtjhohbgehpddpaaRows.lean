/-
  No cell of these rows narrows 'for every input' (looked for: loops, veiled, ifaces, maps, wideKeys, modest, calm, conditions, laid).
  DERIVED. THE GIVEN ROWS OF THIS SEAT. 4 by the template 'for every input the law returns true; each argument reads behind the call as it read before'; 0 by the template 'total and deterministic' (their statements: YtjhohbgehpddpaaTotals.lean).
  GIVEN WITH THE SEED: the statements are not yours to turn. If you find one false, say at which input.
  Laid BY PROGRAM, IN A SANDBOX (cutbox-rows.mjs): the forced cells as the released guide's own fill.sh prints them over the translation b53f081ffa4a7e5e… (all of the seat's roots in one cut). By AI agents, Wed Nov 11 2026. No macro, syntax, notation, axiom, sorry.
-/
import Derived.Test.YtjhohbgehpddpaaChecked
import GoSem.Claim
import GoSem.ClaimJoined
import GoSem.ClaimMapViews
import Derived.JoinedTies
import Derived.KernelRfl
namespace Go.Proofs.Ytjhohbgehpddpaa
/- THE CELL 'sum', in the pinned program and in every row, IS THE sha256 OF THE DUMP (.gsa) THAT YtjhohbgehpddpaaProg.lean LOADS. Nothing in Lean hashes anything: it is a label: what it is worth is what the hold of that sum in a sandbox is worth. -/
noncomputable def Try.pinned : Pinned := { name := "ytjhohbgehpddpaa", sum := "b53f081ffa4a7e5e84ab8f6826d6286f3ba278f471afe0f4f78e2a9b1954dea2", checked := Try.checked }
namespace Rows
def none {H : Type} : Left H := { results := [], args := [] }

/-- 'fishplatelaw01.LeTells': WHATEVER THE INPUT: true; the input reads as it did. -/
def leTellsSpec : ChangeSpec := { name := "leTells", fn := fun _ => fun
  | [d1, d2, d3, d4] => { results := [.lit (.bool true)], args := [d1, d2, d3, d4] }
  | _ => none }
def leTellsRow : OpenClaim := { program := "ytjhohbgehpddpaa", sum := "b53f081ffa4a7e5e84ab8f6826d6286f3ba278f471afe0f4f78e2a9b1954dea2", func := "fishplate/fishplatelaw01.LeTells", spec := "leTells", apart := false }
def LeTellsSaid : Prop := leTellsRow.holds Try.pinned (OpenSpec.ofChange leTellsSpec)

/-- ITS FALSE NEIGHBOUR: 'it returns false'. Refute it at one input. -/
def leTellsWrong : ChangeSpec := { name := "leTells", fn := fun _ => fun
  | [d1, d2, d3, d4] => { results := [.lit (.bool false)], args := [d1, d2, d3, d4] }
  | _ => none }
def LeTellsWrongFalsely : Prop := leTellsRow.holds Try.pinned (OpenSpec.ofChange leTellsWrong)

/-- 'fishplatelaw01.LeBack': WHATEVER THE INPUT: true; the input reads as it did. -/
def leBackSpec : ChangeSpec := { name := "leBack", fn := fun _ => fun
  | [d1, d2, d3, d4, d5] => { results := [.lit (.bool true)], args := [d1, d2, d3, d4, d5] }
  | _ => none }
def leBackRow : OpenClaim := { program := "ytjhohbgehpddpaa", sum := "b53f081ffa4a7e5e84ab8f6826d6286f3ba278f471afe0f4f78e2a9b1954dea2", func := "fishplate/fishplatelaw01.LeBack", spec := "leBack", apart := false }
def LeBackSaid : Prop := leBackRow.holds Try.pinned (OpenSpec.ofChange leBackSpec)

/-- ITS FALSE NEIGHBOUR: 'it returns false'. Refute it at one input. -/
def leBackWrong : ChangeSpec := { name := "leBack", fn := fun _ => fun
  | [d1, d2, d3, d4, d5] => { results := [.lit (.bool false)], args := [d1, d2, d3, d4, d5] }
  | _ => none }
def LeBackWrongFalsely : Prop := leBackRow.holds Try.pinned (OpenSpec.ofChange leBackWrong)

/-- 'fishplatelaw04.EhdrTells': WHATEVER THE INPUT: true; the input reads as it did. -/
def ehdrTellsSpec : ChangeSpec := { name := "ehdrTells", fn := fun _ => fun
  | [d1, d2, d3, d4] => { results := [.lit (.bool true)], args := [d1, d2, d3, d4] }
  | _ => none }
def ehdrTellsRow : OpenClaim := { program := "ytjhohbgehpddpaa", sum := "b53f081ffa4a7e5e84ab8f6826d6286f3ba278f471afe0f4f78e2a9b1954dea2", func := "fishplate/fishplatelaw04.EhdrTells", spec := "ehdrTells", apart := false }
def EhdrTellsSaid : Prop := ehdrTellsRow.holds Try.pinned (OpenSpec.ofChange ehdrTellsSpec)

/-- ITS FALSE NEIGHBOUR: 'it returns false'. Refute it at one input. -/
def ehdrTellsWrong : ChangeSpec := { name := "ehdrTells", fn := fun _ => fun
  | [d1, d2, d3, d4] => { results := [.lit (.bool false)], args := [d1, d2, d3, d4] }
  | _ => none }
def EhdrTellsWrongFalsely : Prop := ehdrTellsRow.holds Try.pinned (OpenSpec.ofChange ehdrTellsWrong)

/-- 'fishplatelaw19.ExecApart': WHATEVER THE INPUT: true; the input reads as it did. -/
def execApartSpec : ChangeSpec := { name := "execApart", fn := fun _ => fun
  | [d1, d2, d3, d4, d5] => { results := [.lit (.bool true)], args := [d1, d2, d3, d4, d5] }
  | _ => none }
def execApartRow : OpenClaim := { program := "ytjhohbgehpddpaa", sum := "b53f081ffa4a7e5e84ab8f6826d6286f3ba278f471afe0f4f78e2a9b1954dea2", func := "fishplate/fishplatelaw19.ExecApart", spec := "execApart", apart := false }
def ExecApartSaid : Prop := execApartRow.holds Try.pinned (OpenSpec.ofChange execApartSpec)

/-- ITS FALSE NEIGHBOUR: 'it returns false'. Refute it at one input. -/
def execApartWrong : ChangeSpec := { name := "execApart", fn := fun _ => fun
  | [d1, d2, d3, d4, d5] => { results := [.lit (.bool false)], args := [d1, d2, d3, d4, d5] }
  | _ => none }
def ExecApartWrongFalsely : Prop := execApartRow.holds Try.pinned (OpenSpec.ofChange execApartWrong)

/- THE SECOND FORM. 'bulk': how many values and letters a reading holds, each counted each time it is reached (what is shared counts as often as it is met; a slice's spare places count too). A statement '..UptoSaid' is the law's where the arguments, and the package variables that the reading takes, are together of bulk at most 1048576: NARROWER than '..Said'. Prove '..Said' where nothing that the law and all that it calls make is longer than what came in: it says more and counts as full. Else prove '..UptoSaid'. A law counts once. -/
mutual
def uptoBulk {H : Type} : DataW H → Nat
  | .lit (.string bytes) => bytes.length + 1
  | .lit _ => 1
  | .nil => 1
  | .ptr d => uptoBulk d + 1
  | .slice elems spare => uptoBulkAll elems + uptoBulkAll spare + 1
  | .agg parts => uptoBulkAll parts + 1
  | .iface _ d => uptoBulk d + 1
  | .map entries => uptoBulkEntries entries + 1
  | .held _ => 1
def uptoBulkAll {H : Type} : List (DataW H) → Nat
  | [] => 0
  | d :: r => uptoBulk d + uptoBulkAll r
def uptoBulkEntries {H : Type} : List (Lit × DataW H) → Nat
  | [] => 0
  | x :: r => uptoBulkEntry x + uptoBulkEntries r
def uptoBulkEntry {H : Type} : Lit × DataW H → Nat
  | (.string bytes, d) => bytes.length + uptoBulk d + 1
  | (_, d) => uptoBulk d + 1
 end
def uptoSmall : (H : Type) → List (DataW H) → Bool := fun _ ds => decide (uptoBulkAll ds ≤ 1048576)
def OpenSpec.upto (s : _root_.Go.ChangeSpec) : _root_.Go.OpenSpec := { _root_.Go.OpenSpec.ofChange s with cond := some uptoSmall }

/-- 'fishplatelaw01.LeTells', WHERE WHAT IT READS IS OF BULK AT MOST 1048576: true; the input reads as it did. -/
def leTellsUptoRow : OpenClaim := { program := "ytjhohbgehpddpaa", sum := "b53f081ffa4a7e5e84ab8f6826d6286f3ba278f471afe0f4f78e2a9b1954dea2", func := "fishplate/fishplatelaw01.LeTells", spec := "leTells", apart := false, narrowed := true }
def LeTellsUptoSaid : Prop := leTellsUptoRow.holds Try.pinned (OpenSpec.upto leTellsSpec)

/-- 'fishplatelaw01.LeBack', WHERE WHAT IT READS IS OF BULK AT MOST 1048576: true; the input reads as it did. -/
def leBackUptoRow : OpenClaim := { program := "ytjhohbgehpddpaa", sum := "b53f081ffa4a7e5e84ab8f6826d6286f3ba278f471afe0f4f78e2a9b1954dea2", func := "fishplate/fishplatelaw01.LeBack", spec := "leBack", apart := false, narrowed := true }
def LeBackUptoSaid : Prop := leBackUptoRow.holds Try.pinned (OpenSpec.upto leBackSpec)

/-- 'fishplatelaw04.EhdrTells', WHERE WHAT IT READS IS OF BULK AT MOST 1048576: true; the input reads as it did. -/
def ehdrTellsUptoRow : OpenClaim := { program := "ytjhohbgehpddpaa", sum := "b53f081ffa4a7e5e84ab8f6826d6286f3ba278f471afe0f4f78e2a9b1954dea2", func := "fishplate/fishplatelaw04.EhdrTells", spec := "ehdrTells", apart := false, narrowed := true }
def EhdrTellsUptoSaid : Prop := ehdrTellsUptoRow.holds Try.pinned (OpenSpec.upto ehdrTellsSpec)

/-- 'fishplatelaw19.ExecApart', WHERE WHAT IT READS IS OF BULK AT MOST 1048576: true; the input reads as it did. -/
def execApartUptoRow : OpenClaim := { program := "ytjhohbgehpddpaa", sum := "b53f081ffa4a7e5e84ab8f6826d6286f3ba278f471afe0f4f78e2a9b1954dea2", func := "fishplate/fishplatelaw19.ExecApart", spec := "execApart", apart := false, narrowed := true }
def ExecApartUptoSaid : Prop := execApartUptoRow.holds Try.pinned (OpenSpec.upto execApartSpec)

end Rows
end Go.Proofs.Ytjhohbgehpddpaa
