/-
  No cell of these rows narrows 'for every input' (looked for: loops, veiled, ifaces, maps, wideKeys, modest, calm, conditions, laid).
  DERIVED. THE GIVEN ROWS OF THIS SEAT. 8 by the template 'for every input the law returns true; each argument reads behind the call as it read before'; 0 by the template 'total and deterministic' (their statements: YthpldobnfnehlaaTotals.lean).
  GIVEN WITH THE SEED: the statements are not yours to turn. If you find one false, say at which input.
  Laid BY PROGRAM, IN A SANDBOX (cutbox-rows.mjs): the forced cells as the released guide's own fill.sh prints them over the translation b867defe3fda0f3a… (all of the seat's roots in one cut). By AI agents, Wed Nov 11 2026. No macro, syntax, notation, axiom, sorry.
-/
import Derived.Test.YthpldobnfnehlaaChecked
import GoSem.Claim
import GoSem.ClaimJoined
import GoSem.ClaimMapViews
import Derived.JoinedTies
import Derived.KernelRfl
namespace Go.Proofs.Ythpldobnfnehlaa
/- THE CELL 'sum', in the pinned program and in every row, IS THE sha256 OF THE DUMP (.gsa) THAT YthpldobnfnehlaaProg.lean LOADS. Nothing in Lean hashes anything: it is a label: what it is worth is what the hold of that sum in a sandbox is worth. -/
noncomputable def Try.pinned : Pinned := { name := "ythpldobnfnehlaa", sum := "b867defe3fda0f3a775ebd8e0bdee0dbe141a9c838e3c4bc507132724895e71f", checked := Try.checked }
namespace Rows
def none {H : Type} : Left H := { results := [], args := [] }

/-- 'fishplatelaw04.EhdrTells': WHATEVER THE INPUT: true; the input reads as it did. -/
def ehdrTellsSpec : ChangeSpec := { name := "ehdrTells", fn := fun _ => fun
  | [d1, d2, d3, d4] => { results := [.lit (.bool true)], args := [d1, d2, d3, d4] }
  | _ => none }
def ehdrTellsRow : OpenClaim := { program := "ythpldobnfnehlaa", sum := "b867defe3fda0f3a775ebd8e0bdee0dbe141a9c838e3c4bc507132724895e71f", func := "fishplate/fishplatelaw04.EhdrTells", spec := "ehdrTells", apart := false }
def EhdrTellsSaid : Prop := ehdrTellsRow.holds Try.pinned (OpenSpec.ofChange ehdrTellsSpec)

/-- ITS FALSE NEIGHBOUR: 'it returns false'. Refute it at one input. -/
def ehdrTellsWrong : ChangeSpec := { name := "ehdrTells", fn := fun _ => fun
  | [d1, d2, d3, d4] => { results := [.lit (.bool false)], args := [d1, d2, d3, d4] }
  | _ => none }
def EhdrTellsWrongFalsely : Prop := ehdrTellsRow.holds Try.pinned (OpenSpec.ofChange ehdrTellsWrong)

/-- 'fishplatelaw04.EhdrBack': WHATEVER THE INPUT: true; the input reads as it did. -/
def ehdrBackSpec : ChangeSpec := { name := "ehdrBack", fn := fun _ => fun
  | [d1, d2, d3, d4, d5, d6] => { results := [.lit (.bool true)], args := [d1, d2, d3, d4, d5, d6] }
  | _ => none }
def ehdrBackRow : OpenClaim := { program := "ythpldobnfnehlaa", sum := "b867defe3fda0f3a775ebd8e0bdee0dbe141a9c838e3c4bc507132724895e71f", func := "fishplate/fishplatelaw04.EhdrBack", spec := "ehdrBack", apart := false }
def EhdrBackSaid : Prop := ehdrBackRow.holds Try.pinned (OpenSpec.ofChange ehdrBackSpec)

/-- ITS FALSE NEIGHBOUR: 'it returns false'. Refute it at one input. -/
def ehdrBackWrong : ChangeSpec := { name := "ehdrBack", fn := fun _ => fun
  | [d1, d2, d3, d4, d5, d6] => { results := [.lit (.bool false)], args := [d1, d2, d3, d4, d5, d6] }
  | _ => none }
def EhdrBackWrongFalsely : Prop := ehdrBackRow.holds Try.pinned (OpenSpec.ofChange ehdrBackWrong)

/-- 'fishplatelaw05.ShdrTells': WHATEVER THE INPUT: true; the input reads as it did. -/
def shdrTellsSpec : ChangeSpec := { name := "shdrTells", fn := fun _ => fun
  | [d1, d2, d3] => { results := [.lit (.bool true)], args := [d1, d2, d3] }
  | _ => none }
def shdrTellsRow : OpenClaim := { program := "ythpldobnfnehlaa", sum := "b867defe3fda0f3a775ebd8e0bdee0dbe141a9c838e3c4bc507132724895e71f", func := "fishplate/fishplatelaw05.ShdrTells", spec := "shdrTells", apart := false }
def ShdrTellsSaid : Prop := shdrTellsRow.holds Try.pinned (OpenSpec.ofChange shdrTellsSpec)

/-- ITS FALSE NEIGHBOUR: 'it returns false'. Refute it at one input. -/
def shdrTellsWrong : ChangeSpec := { name := "shdrTells", fn := fun _ => fun
  | [d1, d2, d3] => { results := [.lit (.bool false)], args := [d1, d2, d3] }
  | _ => none }
def ShdrTellsWrongFalsely : Prop := shdrTellsRow.holds Try.pinned (OpenSpec.ofChange shdrTellsWrong)

/-- 'fishplatelaw05.ShdrBack': WHATEVER THE INPUT: true; the input reads as it did. -/
def shdrBackSpec : ChangeSpec := { name := "shdrBack", fn := fun _ => fun
  | [d1, d2, d3] => { results := [.lit (.bool true)], args := [d1, d2, d3] }
  | _ => none }
def shdrBackRow : OpenClaim := { program := "ythpldobnfnehlaa", sum := "b867defe3fda0f3a775ebd8e0bdee0dbe141a9c838e3c4bc507132724895e71f", func := "fishplate/fishplatelaw05.ShdrBack", spec := "shdrBack", apart := false }
def ShdrBackSaid : Prop := shdrBackRow.holds Try.pinned (OpenSpec.ofChange shdrBackSpec)

/-- ITS FALSE NEIGHBOUR: 'it returns false'. Refute it at one input. -/
def shdrBackWrong : ChangeSpec := { name := "shdrBack", fn := fun _ => fun
  | [d1, d2, d3] => { results := [.lit (.bool false)], args := [d1, d2, d3] }
  | _ => none }
def ShdrBackWrongFalsely : Prop := shdrBackRow.holds Try.pinned (OpenSpec.ofChange shdrBackWrong)

/-- 'fishplatelaw06.SymTells': WHATEVER THE INPUT: true; the input reads as it did. -/
def symTellsSpec : ChangeSpec := { name := "symTells", fn := fun _ => fun
  | [d1, d2, d3] => { results := [.lit (.bool true)], args := [d1, d2, d3] }
  | _ => none }
def symTellsRow : OpenClaim := { program := "ythpldobnfnehlaa", sum := "b867defe3fda0f3a775ebd8e0bdee0dbe141a9c838e3c4bc507132724895e71f", func := "fishplate/fishplatelaw06.SymTells", spec := "symTells", apart := false }
def SymTellsSaid : Prop := symTellsRow.holds Try.pinned (OpenSpec.ofChange symTellsSpec)

/-- ITS FALSE NEIGHBOUR: 'it returns false'. Refute it at one input. -/
def symTellsWrong : ChangeSpec := { name := "symTells", fn := fun _ => fun
  | [d1, d2, d3] => { results := [.lit (.bool false)], args := [d1, d2, d3] }
  | _ => none }
def SymTellsWrongFalsely : Prop := symTellsRow.holds Try.pinned (OpenSpec.ofChange symTellsWrong)

/-- 'fishplatelaw06.SymBack': WHATEVER THE INPUT: true; the input reads as it did. -/
def symBackSpec : ChangeSpec := { name := "symBack", fn := fun _ => fun
  | [d1, d2, d3] => { results := [.lit (.bool true)], args := [d1, d2, d3] }
  | _ => none }
def symBackRow : OpenClaim := { program := "ythpldobnfnehlaa", sum := "b867defe3fda0f3a775ebd8e0bdee0dbe141a9c838e3c4bc507132724895e71f", func := "fishplate/fishplatelaw06.SymBack", spec := "symBack", apart := false }
def SymBackSaid : Prop := symBackRow.holds Try.pinned (OpenSpec.ofChange symBackSpec)

/-- ITS FALSE NEIGHBOUR: 'it returns false'. Refute it at one input. -/
def symBackWrong : ChangeSpec := { name := "symBack", fn := fun _ => fun
  | [d1, d2, d3] => { results := [.lit (.bool false)], args := [d1, d2, d3] }
  | _ => none }
def SymBackWrongFalsely : Prop := symBackRow.holds Try.pinned (OpenSpec.ofChange symBackWrong)

/-- 'fishplatelaw07.RelaTells': WHATEVER THE INPUT: true; the input reads as it did. -/
def relaTellsSpec : ChangeSpec := { name := "relaTells", fn := fun _ => fun
  | [d1, d2, d3] => { results := [.lit (.bool true)], args := [d1, d2, d3] }
  | _ => none }
def relaTellsRow : OpenClaim := { program := "ythpldobnfnehlaa", sum := "b867defe3fda0f3a775ebd8e0bdee0dbe141a9c838e3c4bc507132724895e71f", func := "fishplate/fishplatelaw07.RelaTells", spec := "relaTells", apart := false }
def RelaTellsSaid : Prop := relaTellsRow.holds Try.pinned (OpenSpec.ofChange relaTellsSpec)

/-- ITS FALSE NEIGHBOUR: 'it returns false'. Refute it at one input. -/
def relaTellsWrong : ChangeSpec := { name := "relaTells", fn := fun _ => fun
  | [d1, d2, d3] => { results := [.lit (.bool false)], args := [d1, d2, d3] }
  | _ => none }
def RelaTellsWrongFalsely : Prop := relaTellsRow.holds Try.pinned (OpenSpec.ofChange relaTellsWrong)

/-- 'fishplatelaw07.RelaBack': WHATEVER THE INPUT: true; the input reads as it did. -/
def relaBackSpec : ChangeSpec := { name := "relaBack", fn := fun _ => fun
  | [d1, d2, d3] => { results := [.lit (.bool true)], args := [d1, d2, d3] }
  | _ => none }
def relaBackRow : OpenClaim := { program := "ythpldobnfnehlaa", sum := "b867defe3fda0f3a775ebd8e0bdee0dbe141a9c838e3c4bc507132724895e71f", func := "fishplate/fishplatelaw07.RelaBack", spec := "relaBack", apart := false }
def RelaBackSaid : Prop := relaBackRow.holds Try.pinned (OpenSpec.ofChange relaBackSpec)

/-- ITS FALSE NEIGHBOUR: 'it returns false'. Refute it at one input. -/
def relaBackWrong : ChangeSpec := { name := "relaBack", fn := fun _ => fun
  | [d1, d2, d3] => { results := [.lit (.bool false)], args := [d1, d2, d3] }
  | _ => none }
def RelaBackWrongFalsely : Prop := relaBackRow.holds Try.pinned (OpenSpec.ofChange relaBackWrong)

/- THE SECOND FORM. 'bulk': how many values and letters a reading holds, each counted each time it is reached (what is shared counts as often as it is met; a slice's spare places count too). A statement '..UptoSaid' is the law's where the arguments, and the package variables that the reading takes, are together of bulk at most 1048576: NARROWER than '..Said'. Prove '..Said' where nothing that the law and all that it calls make is longer than what came in: it says more and counts as full. Else prove '..UptoSaid'. A law counts once. -/
mutual
def uptoBulk {H : Type} : DataW H → Nat
  | .lit (.string bytes) => bytes.length + 1
  | .lit _ => 1
  | .nil => 1
  | .ptr d => uptoBulk d + 1
  | .slice elems spare => uptoBulkAll elems + uptoBulkAll spare + 1
  | .agg parts => uptoBulkAll parts + 1
  | .iface _ d => uptoBulk d + 1
  | .map entries => uptoBulkEntries entries + 1
  | .held _ => 1
def uptoBulkAll {H : Type} : List (DataW H) → Nat
  | [] => 0
  | d :: r => uptoBulk d + uptoBulkAll r
def uptoBulkEntries {H : Type} : List (Lit × DataW H) → Nat
  | [] => 0
  | x :: r => uptoBulkEntry x + uptoBulkEntries r
def uptoBulkEntry {H : Type} : Lit × DataW H → Nat
  | (.string bytes, d) => bytes.length + uptoBulk d + 1
  | (_, d) => uptoBulk d + 1
 end
def uptoSmall : (H : Type) → List (DataW H) → Bool := fun _ ds => decide (uptoBulkAll ds ≤ 1048576)
def OpenSpec.upto (s : _root_.Go.ChangeSpec) : _root_.Go.OpenSpec := { _root_.Go.OpenSpec.ofChange s with cond := some uptoSmall }

/-- 'fishplatelaw04.EhdrTells', WHERE WHAT IT READS IS OF BULK AT MOST 1048576: true; the input reads as it did. -/
def ehdrTellsUptoRow : OpenClaim := { program := "ythpldobnfnehlaa", sum := "b867defe3fda0f3a775ebd8e0bdee0dbe141a9c838e3c4bc507132724895e71f", func := "fishplate/fishplatelaw04.EhdrTells", spec := "ehdrTells", apart := false, narrowed := true }
def EhdrTellsUptoSaid : Prop := ehdrTellsUptoRow.holds Try.pinned (OpenSpec.upto ehdrTellsSpec)

/-- 'fishplatelaw04.EhdrBack', WHERE WHAT IT READS IS OF BULK AT MOST 1048576: true; the input reads as it did. -/
def ehdrBackUptoRow : OpenClaim := { program := "ythpldobnfnehlaa", sum := "b867defe3fda0f3a775ebd8e0bdee0dbe141a9c838e3c4bc507132724895e71f", func := "fishplate/fishplatelaw04.EhdrBack", spec := "ehdrBack", apart := false, narrowed := true }
def EhdrBackUptoSaid : Prop := ehdrBackUptoRow.holds Try.pinned (OpenSpec.upto ehdrBackSpec)

/-- 'fishplatelaw05.ShdrTells', WHERE WHAT IT READS IS OF BULK AT MOST 1048576: true; the input reads as it did. -/
def shdrTellsUptoRow : OpenClaim := { program := "ythpldobnfnehlaa", sum := "b867defe3fda0f3a775ebd8e0bdee0dbe141a9c838e3c4bc507132724895e71f", func := "fishplate/fishplatelaw05.ShdrTells", spec := "shdrTells", apart := false, narrowed := true }
def ShdrTellsUptoSaid : Prop := shdrTellsUptoRow.holds Try.pinned (OpenSpec.upto shdrTellsSpec)

/-- 'fishplatelaw05.ShdrBack', WHERE WHAT IT READS IS OF BULK AT MOST 1048576: true; the input reads as it did. -/
def shdrBackUptoRow : OpenClaim := { program := "ythpldobnfnehlaa", sum := "b867defe3fda0f3a775ebd8e0bdee0dbe141a9c838e3c4bc507132724895e71f", func := "fishplate/fishplatelaw05.ShdrBack", spec := "shdrBack", apart := false, narrowed := true }
def ShdrBackUptoSaid : Prop := shdrBackUptoRow.holds Try.pinned (OpenSpec.upto shdrBackSpec)

/-- 'fishplatelaw06.SymTells', WHERE WHAT IT READS IS OF BULK AT MOST 1048576: true; the input reads as it did. -/
def symTellsUptoRow : OpenClaim := { program := "ythpldobnfnehlaa", sum := "b867defe3fda0f3a775ebd8e0bdee0dbe141a9c838e3c4bc507132724895e71f", func := "fishplate/fishplatelaw06.SymTells", spec := "symTells", apart := false, narrowed := true }
def SymTellsUptoSaid : Prop := symTellsUptoRow.holds Try.pinned (OpenSpec.upto symTellsSpec)

/-- 'fishplatelaw06.SymBack', WHERE WHAT IT READS IS OF BULK AT MOST 1048576: true; the input reads as it did. -/
def symBackUptoRow : OpenClaim := { program := "ythpldobnfnehlaa", sum := "b867defe3fda0f3a775ebd8e0bdee0dbe141a9c838e3c4bc507132724895e71f", func := "fishplate/fishplatelaw06.SymBack", spec := "symBack", apart := false, narrowed := true }
def SymBackUptoSaid : Prop := symBackUptoRow.holds Try.pinned (OpenSpec.upto symBackSpec)

/-- 'fishplatelaw07.RelaTells', WHERE WHAT IT READS IS OF BULK AT MOST 1048576: true; the input reads as it did. -/
def relaTellsUptoRow : OpenClaim := { program := "ythpldobnfnehlaa", sum := "b867defe3fda0f3a775ebd8e0bdee0dbe141a9c838e3c4bc507132724895e71f", func := "fishplate/fishplatelaw07.RelaTells", spec := "relaTells", apart := false, narrowed := true }
def RelaTellsUptoSaid : Prop := relaTellsUptoRow.holds Try.pinned (OpenSpec.upto relaTellsSpec)

/-- 'fishplatelaw07.RelaBack', WHERE WHAT IT READS IS OF BULK AT MOST 1048576: true; the input reads as it did. -/
def relaBackUptoRow : OpenClaim := { program := "ythpldobnfnehlaa", sum := "b867defe3fda0f3a775ebd8e0bdee0dbe141a9c838e3c4bc507132724895e71f", func := "fishplate/fishplatelaw07.RelaBack", spec := "relaBack", apart := false, narrowed := true }
def RelaBackUptoSaid : Prop := relaBackUptoRow.holds Try.pinned (OpenSpec.upto relaBackSpec)

end Rows
end Go.Proofs.Ythpldobnfnehlaa
