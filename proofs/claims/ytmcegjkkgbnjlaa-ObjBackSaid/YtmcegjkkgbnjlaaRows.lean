/-
  No cell of these rows narrows 'for every input' (looked for: loops, veiled, ifaces, maps, wideKeys, modest, calm, conditions, laid).
  DERIVED. THE GIVEN ROWS OF THIS SEAT. 11 by the template 'for every input the law returns true; each argument reads behind the call as it read before'; 0 by the template 'total and deterministic' (their statements: YtmcegjkkgbnjlaaTotals.lean).
  GIVEN WITH THE SEED: the statements are not yours to turn. If you find one false, say at which input.
  Laid BY PROGRAM, IN A SANDBOX (cutbox-rows.mjs): the forced cells as the released guide's own fill.sh prints them over the translation b5b6fb32ee1b395b… (all of the seat's roots in one cut). By AI agents, Wed Nov 11 2026. No macro, syntax, notation, axiom, sorry.
-/
import Derived.Test.YtmcegjkkgbnjlaaChecked
import GoSem.Claim
import GoSem.ClaimJoined
import GoSem.ClaimMapViews
import Derived.JoinedTies
import Derived.KernelRfl
namespace Go.Proofs.Ytmcegjkkgbnjlaa
/- THE CELL 'sum', in the pinned program and in every row, IS THE sha256 OF THE DUMP (.gsa) THAT YtmcegjkkgbnjlaaProg.lean LOADS. Nothing in Lean hashes anything: it is a label: what it is worth is what the hold of that sum in a sandbox is worth. -/
noncomputable def Try.pinned : Pinned := { name := "ytmcegjkkgbnjlaa", sum := "b5b6fb32ee1b395b330ba0ea619bb24134f5c407fb268f6f057aaf3af13e3a73", checked := Try.checked }
namespace Rows
def none {H : Type} : Left H := { results := [], args := [] }

/-- 'fishplatelaw01.LeTells': WHATEVER THE INPUT: true; the input reads as it did. -/
def leTellsSpec : ChangeSpec := { name := "leTells", fn := fun _ => fun
  | [d1, d2, d3, d4] => { results := [.lit (.bool true)], args := [d1, d2, d3, d4] }
  | _ => none }
def leTellsRow : OpenClaim := { program := "ytmcegjkkgbnjlaa", sum := "b5b6fb32ee1b395b330ba0ea619bb24134f5c407fb268f6f057aaf3af13e3a73", func := "fishplate/fishplatelaw01.LeTells", spec := "leTells", apart := false }
def LeTellsSaid : Prop := leTellsRow.holds Try.pinned (OpenSpec.ofChange leTellsSpec)

/-- ITS FALSE NEIGHBOUR: 'it returns false'. Refute it at one input. -/
def leTellsWrong : ChangeSpec := { name := "leTells", fn := fun _ => fun
  | [d1, d2, d3, d4] => { results := [.lit (.bool false)], args := [d1, d2, d3, d4] }
  | _ => none }
def LeTellsWrongFalsely : Prop := leTellsRow.holds Try.pinned (OpenSpec.ofChange leTellsWrong)

/-- 'fishplatelaw02.UlebTells': WHATEVER THE INPUT: true; the input reads as it did. -/
def ulebTellsSpec : ChangeSpec := { name := "ulebTells", fn := fun _ => fun
  | [d1, d2, d3] => { results := [.lit (.bool true)], args := [d1, d2, d3] }
  | _ => none }
def ulebTellsRow : OpenClaim := { program := "ytmcegjkkgbnjlaa", sum := "b5b6fb32ee1b395b330ba0ea619bb24134f5c407fb268f6f057aaf3af13e3a73", func := "fishplate/fishplatelaw02.UlebTells", spec := "ulebTells", recurses := true, apart := false }
def UlebTellsSaid : Prop := ulebTellsRow.holds Try.pinned (OpenSpec.ofChange ulebTellsSpec)

/-- ITS FALSE NEIGHBOUR: 'it returns false'. Refute it at one input. -/
def ulebTellsWrong : ChangeSpec := { name := "ulebTells", fn := fun _ => fun
  | [d1, d2, d3] => { results := [.lit (.bool false)], args := [d1, d2, d3] }
  | _ => none }
def UlebTellsWrongFalsely : Prop := ulebTellsRow.holds Try.pinned (OpenSpec.ofChange ulebTellsWrong)

/-- 'fishplatelaw03.StrtabTells': WHATEVER THE INPUT: true; the input reads as it did. -/
def strtabTellsSpec : ChangeSpec := { name := "strtabTells", fn := fun _ => fun
  | [d1, d2, d3, d4] => { results := [.lit (.bool true)], args := [d1, d2, d3, d4] }
  | _ => none }
def strtabTellsRow : OpenClaim := { program := "ytmcegjkkgbnjlaa", sum := "b5b6fb32ee1b395b330ba0ea619bb24134f5c407fb268f6f057aaf3af13e3a73", func := "fishplate/fishplatelaw03.StrtabTells", spec := "strtabTells", inPlace := ["internal/bytealg.IndexByte", "internal/bytealg.IndexByteString"], apart := false }
def StrtabTellsSaid : Prop := strtabTellsRow.holds Try.pinned (OpenSpec.ofChange strtabTellsSpec)

/-- ITS FALSE NEIGHBOUR: 'it returns false'. Refute it at one input. -/
def strtabTellsWrong : ChangeSpec := { name := "strtabTells", fn := fun _ => fun
  | [d1, d2, d3, d4] => { results := [.lit (.bool false)], args := [d1, d2, d3, d4] }
  | _ => none }
def StrtabTellsWrongFalsely : Prop := strtabTellsRow.holds Try.pinned (OpenSpec.ofChange strtabTellsWrong)

/-- 'fishplatelaw04.EhdrTells': WHATEVER THE INPUT: true; the input reads as it did. -/
def ehdrTellsSpec : ChangeSpec := { name := "ehdrTells", fn := fun _ => fun
  | [d1, d2, d3, d4] => { results := [.lit (.bool true)], args := [d1, d2, d3, d4] }
  | _ => none }
def ehdrTellsRow : OpenClaim := { program := "ytmcegjkkgbnjlaa", sum := "b5b6fb32ee1b395b330ba0ea619bb24134f5c407fb268f6f057aaf3af13e3a73", func := "fishplate/fishplatelaw04.EhdrTells", spec := "ehdrTells", apart := false }
def EhdrTellsSaid : Prop := ehdrTellsRow.holds Try.pinned (OpenSpec.ofChange ehdrTellsSpec)

/-- ITS FALSE NEIGHBOUR: 'it returns false'. Refute it at one input. -/
def ehdrTellsWrong : ChangeSpec := { name := "ehdrTells", fn := fun _ => fun
  | [d1, d2, d3, d4] => { results := [.lit (.bool false)], args := [d1, d2, d3, d4] }
  | _ => none }
def EhdrTellsWrongFalsely : Prop := ehdrTellsRow.holds Try.pinned (OpenSpec.ofChange ehdrTellsWrong)

/-- 'fishplatelaw05.ShdrTells': WHATEVER THE INPUT: true; the input reads as it did. -/
def shdrTellsSpec : ChangeSpec := { name := "shdrTells", fn := fun _ => fun
  | [d1, d2, d3] => { results := [.lit (.bool true)], args := [d1, d2, d3] }
  | _ => none }
def shdrTellsRow : OpenClaim := { program := "ytmcegjkkgbnjlaa", sum := "b5b6fb32ee1b395b330ba0ea619bb24134f5c407fb268f6f057aaf3af13e3a73", func := "fishplate/fishplatelaw05.ShdrTells", spec := "shdrTells", apart := false }
def ShdrTellsSaid : Prop := shdrTellsRow.holds Try.pinned (OpenSpec.ofChange shdrTellsSpec)

/-- ITS FALSE NEIGHBOUR: 'it returns false'. Refute it at one input. -/
def shdrTellsWrong : ChangeSpec := { name := "shdrTells", fn := fun _ => fun
  | [d1, d2, d3] => { results := [.lit (.bool false)], args := [d1, d2, d3] }
  | _ => none }
def ShdrTellsWrongFalsely : Prop := shdrTellsRow.holds Try.pinned (OpenSpec.ofChange shdrTellsWrong)

/-- 'fishplatelaw06.SymTells': WHATEVER THE INPUT: true; the input reads as it did. -/
def symTellsSpec : ChangeSpec := { name := "symTells", fn := fun _ => fun
  | [d1, d2, d3] => { results := [.lit (.bool true)], args := [d1, d2, d3] }
  | _ => none }
def symTellsRow : OpenClaim := { program := "ytmcegjkkgbnjlaa", sum := "b5b6fb32ee1b395b330ba0ea619bb24134f5c407fb268f6f057aaf3af13e3a73", func := "fishplate/fishplatelaw06.SymTells", spec := "symTells", apart := false }
def SymTellsSaid : Prop := symTellsRow.holds Try.pinned (OpenSpec.ofChange symTellsSpec)

/-- ITS FALSE NEIGHBOUR: 'it returns false'. Refute it at one input. -/
def symTellsWrong : ChangeSpec := { name := "symTells", fn := fun _ => fun
  | [d1, d2, d3] => { results := [.lit (.bool false)], args := [d1, d2, d3] }
  | _ => none }
def SymTellsWrongFalsely : Prop := symTellsRow.holds Try.pinned (OpenSpec.ofChange symTellsWrong)

/-- 'fishplatelaw07.RelaTells': WHATEVER THE INPUT: true; the input reads as it did. -/
def relaTellsSpec : ChangeSpec := { name := "relaTells", fn := fun _ => fun
  | [d1, d2, d3] => { results := [.lit (.bool true)], args := [d1, d2, d3] }
  | _ => none }
def relaTellsRow : OpenClaim := { program := "ytmcegjkkgbnjlaa", sum := "b5b6fb32ee1b395b330ba0ea619bb24134f5c407fb268f6f057aaf3af13e3a73", func := "fishplate/fishplatelaw07.RelaTells", spec := "relaTells", apart := false }
def RelaTellsSaid : Prop := relaTellsRow.holds Try.pinned (OpenSpec.ofChange relaTellsSpec)

/-- ITS FALSE NEIGHBOUR: 'it returns false'. Refute it at one input. -/
def relaTellsWrong : ChangeSpec := { name := "relaTells", fn := fun _ => fun
  | [d1, d2, d3] => { results := [.lit (.bool false)], args := [d1, d2, d3] }
  | _ => none }
def RelaTellsWrongFalsely : Prop := relaTellsRow.holds Try.pinned (OpenSpec.ofChange relaTellsWrong)

/-- 'fishplatelaw08.ObjBack': WHATEVER THE INPUT: true; the input reads as it did. -/
def objBackSpec : ChangeSpec := { name := "objBack", fn := fun _ => fun
  | [d] => { results := [.lit (.bool true)], args := [d] }
  | _ => none }
def objBackRow : OpenClaim := { program := "ytmcegjkkgbnjlaa", sum := "b5b6fb32ee1b395b330ba0ea619bb24134f5c407fb268f6f057aaf3af13e3a73", func := "fishplate/fishplatelaw08.ObjBack", spec := "objBack", inPlace := ["internal/bytealg.IndexByteString", "internal/bytealg.IndexByte"], apart := false }
def ObjBackSaid : Prop := objBackRow.holds Try.pinned (OpenSpec.ofChange objBackSpec)

/-- ITS FALSE NEIGHBOUR: 'it returns false'. Refute it at one input. -/
def objBackWrong : ChangeSpec := { name := "objBack", fn := fun _ => fun
  | [d] => { results := [.lit (.bool false)], args := [d] }
  | _ => none }
def ObjBackWrongFalsely : Prop := objBackRow.holds Try.pinned (OpenSpec.ofChange objBackWrong)

/-- 'fishplatelaw08.ObjAgain': WHATEVER THE INPUT: true; the input reads as it did. -/
def objAgainSpec : ChangeSpec := { name := "objAgain", fn := fun _ => fun
  | [d] => { results := [.lit (.bool true)], args := [d] }
  | _ => none }
def objAgainRow : OpenClaim := { program := "ytmcegjkkgbnjlaa", sum := "b5b6fb32ee1b395b330ba0ea619bb24134f5c407fb268f6f057aaf3af13e3a73", func := "fishplate/fishplatelaw08.ObjAgain", spec := "objAgain", inPlace := ["internal/bytealg.IndexByteString", "internal/bytealg.IndexByte"], apart := false }
def ObjAgainSaid : Prop := objAgainRow.holds Try.pinned (OpenSpec.ofChange objAgainSpec)

/-- ITS FALSE NEIGHBOUR: 'it returns false'. Refute it at one input. -/
def objAgainWrong : ChangeSpec := { name := "objAgain", fn := fun _ => fun
  | [d] => { results := [.lit (.bool false)], args := [d] }
  | _ => none }
def ObjAgainWrongFalsely : Prop := objAgainRow.holds Try.pinned (OpenSpec.ofChange objAgainWrong)

/-- 'fishplatelaw11.PieceTells': WHATEVER THE INPUT: true; the input reads as it did. -/
def pieceTellsSpec : ChangeSpec := { name := "pieceTells", fn := fun _ => fun
  | [d1, d2] => { results := [.lit (.bool true)], args := [d1, d2] }
  | _ => none }
def pieceTellsRow : OpenClaim := { program := "ytmcegjkkgbnjlaa", sum := "b5b6fb32ee1b395b330ba0ea619bb24134f5c407fb268f6f057aaf3af13e3a73", func := "fishplate/fishplatelaw11.PieceTells", spec := "pieceTells", inPlace := ["internal/bytealg.IndexByte"], unfollowed := true, recurses := true, apart := false }
def PieceTellsSaid : Prop := pieceTellsRow.holds Try.pinned (OpenSpec.ofChange pieceTellsSpec)

/-- ITS FALSE NEIGHBOUR: 'it returns false'. Refute it at one input. -/
def pieceTellsWrong : ChangeSpec := { name := "pieceTells", fn := fun _ => fun
  | [d1, d2] => { results := [.lit (.bool false)], args := [d1, d2] }
  | _ => none }
def PieceTellsWrongFalsely : Prop := pieceTellsRow.holds Try.pinned (OpenSpec.ofChange pieceTellsWrong)

/-- 'fishplatelaw11.PieceAll': WHATEVER THE INPUT: true; the input reads as it did. -/
def pieceAllSpec : ChangeSpec := { name := "pieceAll", fn := fun _ => fun
  | [d1, d2] => { results := [.lit (.bool true)], args := [d1, d2] }
  | _ => none }
def pieceAllRow : OpenClaim := { program := "ytmcegjkkgbnjlaa", sum := "b5b6fb32ee1b395b330ba0ea619bb24134f5c407fb268f6f057aaf3af13e3a73", func := "fishplate/fishplatelaw11.PieceAll", spec := "pieceAll", inPlace := ["internal/bytealg.IndexByte"], unfollowed := true, recurses := true, apart := false }
def PieceAllSaid : Prop := pieceAllRow.holds Try.pinned (OpenSpec.ofChange pieceAllSpec)

/-- ITS FALSE NEIGHBOUR: 'it returns false'. Refute it at one input. -/
def pieceAllWrong : ChangeSpec := { name := "pieceAll", fn := fun _ => fun
  | [d1, d2] => { results := [.lit (.bool false)], args := [d1, d2] }
  | _ => none }
def PieceAllWrongFalsely : Prop := pieceAllRow.holds Try.pinned (OpenSpec.ofChange pieceAllWrong)

/- THE SECOND FORM. 'bulk': how many values and letters a reading holds, each counted each time it is reached (what is shared counts as often as it is met; a slice's spare places count too). A statement '..UptoSaid' is the law's where the arguments, and the package variables that the reading takes, are together of bulk at most 1048576: NARROWER than '..Said'. Prove '..Said' where nothing that the law and all that it calls make is longer than what came in: it says more and counts as full. Else prove '..UptoSaid'. A law counts once. -/
mutual
def uptoBulk {H : Type} : DataW H → Nat
  | .lit (.string bytes) => bytes.length + 1
  | .lit _ => 1
  | .nil => 1
  | .ptr d => uptoBulk d + 1
  | .slice elems spare => uptoBulkAll elems + uptoBulkAll spare + 1
  | .agg parts => uptoBulkAll parts + 1
  | .iface _ d => uptoBulk d + 1
  | .map entries => uptoBulkEntries entries + 1
  | .held _ => 1
def uptoBulkAll {H : Type} : List (DataW H) → Nat
  | [] => 0
  | d :: r => uptoBulk d + uptoBulkAll r
def uptoBulkEntries {H : Type} : List (Lit × DataW H) → Nat
  | [] => 0
  | x :: r => uptoBulkEntry x + uptoBulkEntries r
def uptoBulkEntry {H : Type} : Lit × DataW H → Nat
  | (.string bytes, d) => bytes.length + uptoBulk d + 1
  | (_, d) => uptoBulk d + 1
 end
def uptoSmall : (H : Type) → List (DataW H) → Bool := fun _ ds => decide (uptoBulkAll ds ≤ 1048576)
def OpenSpec.upto (s : _root_.Go.ChangeSpec) : _root_.Go.OpenSpec := { _root_.Go.OpenSpec.ofChange s with cond := some uptoSmall }

/-- 'fishplatelaw01.LeTells', WHERE WHAT IT READS IS OF BULK AT MOST 1048576: true; the input reads as it did. -/
def leTellsUptoRow : OpenClaim := { program := "ytmcegjkkgbnjlaa", sum := "b5b6fb32ee1b395b330ba0ea619bb24134f5c407fb268f6f057aaf3af13e3a73", func := "fishplate/fishplatelaw01.LeTells", spec := "leTells", apart := false, narrowed := true }
def LeTellsUptoSaid : Prop := leTellsUptoRow.holds Try.pinned (OpenSpec.upto leTellsSpec)

/-- 'fishplatelaw02.UlebTells', WHERE WHAT IT READS IS OF BULK AT MOST 1048576: true; the input reads as it did. -/
def ulebTellsUptoRow : OpenClaim := { program := "ytmcegjkkgbnjlaa", sum := "b5b6fb32ee1b395b330ba0ea619bb24134f5c407fb268f6f057aaf3af13e3a73", func := "fishplate/fishplatelaw02.UlebTells", spec := "ulebTells", recurses := true, apart := false, narrowed := true }
def UlebTellsUptoSaid : Prop := ulebTellsUptoRow.holds Try.pinned (OpenSpec.upto ulebTellsSpec)

/-- 'fishplatelaw03.StrtabTells', WHERE WHAT IT READS IS OF BULK AT MOST 1048576: true; the input reads as it did. -/
def strtabTellsUptoRow : OpenClaim := { program := "ytmcegjkkgbnjlaa", sum := "b5b6fb32ee1b395b330ba0ea619bb24134f5c407fb268f6f057aaf3af13e3a73", func := "fishplate/fishplatelaw03.StrtabTells", spec := "strtabTells", inPlace := ["internal/bytealg.IndexByte", "internal/bytealg.IndexByteString"], apart := false, narrowed := true }
def StrtabTellsUptoSaid : Prop := strtabTellsUptoRow.holds Try.pinned (OpenSpec.upto strtabTellsSpec)

/-- 'fishplatelaw04.EhdrTells', WHERE WHAT IT READS IS OF BULK AT MOST 1048576: true; the input reads as it did. -/
def ehdrTellsUptoRow : OpenClaim := { program := "ytmcegjkkgbnjlaa", sum := "b5b6fb32ee1b395b330ba0ea619bb24134f5c407fb268f6f057aaf3af13e3a73", func := "fishplate/fishplatelaw04.EhdrTells", spec := "ehdrTells", apart := false, narrowed := true }
def EhdrTellsUptoSaid : Prop := ehdrTellsUptoRow.holds Try.pinned (OpenSpec.upto ehdrTellsSpec)

/-- 'fishplatelaw05.ShdrTells', WHERE WHAT IT READS IS OF BULK AT MOST 1048576: true; the input reads as it did. -/
def shdrTellsUptoRow : OpenClaim := { program := "ytmcegjkkgbnjlaa", sum := "b5b6fb32ee1b395b330ba0ea619bb24134f5c407fb268f6f057aaf3af13e3a73", func := "fishplate/fishplatelaw05.ShdrTells", spec := "shdrTells", apart := false, narrowed := true }
def ShdrTellsUptoSaid : Prop := shdrTellsUptoRow.holds Try.pinned (OpenSpec.upto shdrTellsSpec)

/-- 'fishplatelaw06.SymTells', WHERE WHAT IT READS IS OF BULK AT MOST 1048576: true; the input reads as it did. -/
def symTellsUptoRow : OpenClaim := { program := "ytmcegjkkgbnjlaa", sum := "b5b6fb32ee1b395b330ba0ea619bb24134f5c407fb268f6f057aaf3af13e3a73", func := "fishplate/fishplatelaw06.SymTells", spec := "symTells", apart := false, narrowed := true }
def SymTellsUptoSaid : Prop := symTellsUptoRow.holds Try.pinned (OpenSpec.upto symTellsSpec)

/-- 'fishplatelaw07.RelaTells', WHERE WHAT IT READS IS OF BULK AT MOST 1048576: true; the input reads as it did. -/
def relaTellsUptoRow : OpenClaim := { program := "ytmcegjkkgbnjlaa", sum := "b5b6fb32ee1b395b330ba0ea619bb24134f5c407fb268f6f057aaf3af13e3a73", func := "fishplate/fishplatelaw07.RelaTells", spec := "relaTells", apart := false, narrowed := true }
def RelaTellsUptoSaid : Prop := relaTellsUptoRow.holds Try.pinned (OpenSpec.upto relaTellsSpec)

/-- 'fishplatelaw08.ObjBack', WHERE WHAT IT READS IS OF BULK AT MOST 1048576: true; the input reads as it did. -/
def objBackUptoRow : OpenClaim := { program := "ytmcegjkkgbnjlaa", sum := "b5b6fb32ee1b395b330ba0ea619bb24134f5c407fb268f6f057aaf3af13e3a73", func := "fishplate/fishplatelaw08.ObjBack", spec := "objBack", inPlace := ["internal/bytealg.IndexByteString", "internal/bytealg.IndexByte"], apart := false, narrowed := true }
def ObjBackUptoSaid : Prop := objBackUptoRow.holds Try.pinned (OpenSpec.upto objBackSpec)

/-- 'fishplatelaw08.ObjAgain', WHERE WHAT IT READS IS OF BULK AT MOST 1048576: true; the input reads as it did. -/
def objAgainUptoRow : OpenClaim := { program := "ytmcegjkkgbnjlaa", sum := "b5b6fb32ee1b395b330ba0ea619bb24134f5c407fb268f6f057aaf3af13e3a73", func := "fishplate/fishplatelaw08.ObjAgain", spec := "objAgain", inPlace := ["internal/bytealg.IndexByteString", "internal/bytealg.IndexByte"], apart := false, narrowed := true }
def ObjAgainUptoSaid : Prop := objAgainUptoRow.holds Try.pinned (OpenSpec.upto objAgainSpec)

/-- 'fishplatelaw11.PieceTells', WHERE WHAT IT READS IS OF BULK AT MOST 1048576: true; the input reads as it did. -/
def pieceTellsUptoRow : OpenClaim := { program := "ytmcegjkkgbnjlaa", sum := "b5b6fb32ee1b395b330ba0ea619bb24134f5c407fb268f6f057aaf3af13e3a73", func := "fishplate/fishplatelaw11.PieceTells", spec := "pieceTells", inPlace := ["internal/bytealg.IndexByte"], unfollowed := true, recurses := true, apart := false, narrowed := true }
def PieceTellsUptoSaid : Prop := pieceTellsUptoRow.holds Try.pinned (OpenSpec.upto pieceTellsSpec)

/-- 'fishplatelaw11.PieceAll', WHERE WHAT IT READS IS OF BULK AT MOST 1048576: true; the input reads as it did. -/
def pieceAllUptoRow : OpenClaim := { program := "ytmcegjkkgbnjlaa", sum := "b5b6fb32ee1b395b330ba0ea619bb24134f5c407fb268f6f057aaf3af13e3a73", func := "fishplate/fishplatelaw11.PieceAll", spec := "pieceAll", inPlace := ["internal/bytealg.IndexByte"], unfollowed := true, recurses := true, apart := false, narrowed := true }
def PieceAllUptoSaid : Prop := pieceAllUptoRow.holds Try.pinned (OpenSpec.upto pieceAllSpec)

end Rows
end Go.Proofs.Ytmcegjkkgbnjlaa
