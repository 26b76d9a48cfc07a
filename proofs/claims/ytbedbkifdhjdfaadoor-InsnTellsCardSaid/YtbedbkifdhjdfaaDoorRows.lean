/-
  NARROWER THAN 'FOR EVERY INPUT', by the rows' own cells (each row's printed sentence says how): InsnTells: laid · InsnBack: laid.
  DERIVED. THE GIVEN ROWS OF THIS SEAT. 2 by the template 'for every input the law returns true; each argument reads behind the call as it read before'; 0 by the template 'total and deterministic' (their statements: YtbedbkifdhjdfaaDoorTotals.lean).
  GIVEN WITH THE SEED: the statements are not yours to turn. If you find one false, say at which input.
  Laid BY PROGRAM, IN A SANDBOX (cutbox-rows.mjs): the forced cells as the released guide's own fill.sh prints them over the translation bed40ad2d7cd60e7… (all of the seat's roots in one cut). By AI agents, Wed Nov 11 2026. No macro, syntax, notation, axiom, sorry.
-/
import Derived.Test.YtbedbkifdhjdfaaDoorChecked
import GoSem.Claim
import GoSem.ClaimJoined
import GoSem.ClaimMapViews
import Derived.JoinedTies
import Derived.KernelRfl
namespace Go.Proofs.YtbedbkifdhjdfaaDoor
/- THE CELL 'sum', in the pinned program and in every row, IS THE sha256 OF THE DUMP (.gsa) THAT YtbedbkifdhjdfaaDoorProg.lean LOADS. Nothing in Lean hashes anything: it is a label: what it is worth is what the hold of that sum in a sandbox is worth. -/
noncomputable def Tryd.pinned : Pinned := { name := "ytbedbkifdhjdfaadoor", sum := "bed40ad2d7cd60e7aa4ab915c76cd4007716bf1202bd7bb827c0663062e06129", checked := Tryd.checked }
namespace Rows
def none {H : Type} : Left H := { results := [], args := [] }

/- WHAT THE LISTED PACKAGE-LEVEL VARIABLES READ AS WHEN THE CALL BEGINS. Each datum BY PROGRAM (the guide's laid-datum.mjs) off the statement by which the dump's own 'gosem.cut.vars' lays the variable. In a bare row this is a premise. The card (YtbedbkifdhjdfaaDoorCards.lean) ties it to the program's text. -/
def laid_fishplate_insn_shapes {H : Type} : DataW H := .agg [.agg [.lit (.string [72, 199]), .lit (.int .i64 192), .lit (.bool false), .lit (.bool true), .lit (.bool false), .lit (.int .i64 4)], .agg [.lit (.string [72]), .lit (.int .i64 184), .lit (.bool false), .lit (.bool true), .lit (.bool false), .lit (.int .i64 8)], .agg [.lit (.string [72, 141]), .lit (.int .i64 5), .lit (.bool true), .lit (.bool false), .lit (.bool false), .lit (.int .i64 4)], .agg [.lit (.string [72, 139]), .lit (.int .i64 128), .lit (.bool true), .lit (.bool true), .lit (.bool true), .lit (.int .i64 4)], .agg [.lit (.string [72, 137]), .lit (.int .i64 128), .lit (.bool true), .lit (.bool true), .lit (.bool true), .lit (.int .i64 4)], .agg [.lit (.string [72, 15, 182]), .lit (.int .i64 128), .lit (.bool true), .lit (.bool true), .lit (.bool true), .lit (.int .i64 4)], .agg [.lit (.string [72, 136]), .lit (.int .i64 128), .lit (.bool true), .lit (.bool true), .lit (.bool true), .lit (.int .i64 4)], .agg [.lit (.string [72, 137]), .lit (.int .i64 192), .lit (.bool true), .lit (.bool true), .lit (.bool false), .lit (.int .i64 0)], .agg [.lit (.string [72, 1]), .lit (.int .i64 192), .lit (.bool true), .lit (.bool true), .lit (.bool false), .lit (.int .i64 0)], .agg [.lit (.string [72, 41]), .lit (.int .i64 192), .lit (.bool true), .lit (.bool true), .lit (.bool false), .lit (.int .i64 0)], .agg [.lit (.string [72, 129]), .lit (.int .i64 192), .lit (.bool false), .lit (.bool true), .lit (.bool false), .lit (.int .i64 4)], .agg [.lit (.string [72, 57]), .lit (.int .i64 192), .lit (.bool true), .lit (.bool true), .lit (.bool false), .lit (.int .i64 0)], .agg [.lit (.string [233]), .lit (.int .i64 0), .lit (.bool false), .lit (.bool false), .lit (.bool false), .lit (.int .i64 4)], .agg [.lit (.string [15, 132]), .lit (.int .i64 0), .lit (.bool false), .lit (.bool false), .lit (.bool false), .lit (.int .i64 4)], .agg [.lit (.string [15, 133]), .lit (.int .i64 0), .lit (.bool false), .lit (.bool false), .lit (.bool false), .lit (.int .i64 4)], .agg [.lit (.string [15, 130]), .lit (.int .i64 0), .lit (.bool false), .lit (.bool false), .lit (.bool false), .lit (.int .i64 4)], .agg [.lit (.string [232]), .lit (.int .i64 0), .lit (.bool false), .lit (.bool false), .lit (.bool false), .lit (.int .i64 4)], .agg [.lit (.string [255]), .lit (.int .i64 208), .lit (.bool false), .lit (.bool true), .lit (.bool false), .lit (.int .i64 0)], .agg [.lit (.string [195]), .lit (.int .i64 0), .lit (.bool false), .lit (.bool false), .lit (.bool false), .lit (.int .i64 0)], .agg [.lit (.string [15, 5]), .lit (.int .i64 0), .lit (.bool false), .lit (.bool false), .lit (.bool false), .lit (.int .i64 0)]]

/-- 'fishplatelaw21.InsnTells': WHATEVER THE INPUT: true; the input reads as it did. -/
def insnTellsSpec : ChangeSpec := { name := "insnTells", fn := fun _ => fun
  | [d1, d2] => { results := [.lit (.bool true)], args := [d1, d2] }
  | _ => none }
def insnTellsRow : OpenClaim := { program := "ytbedbkifdhjdfaadoor", sum := "bed40ad2d7cd60e7aa4ab915c76cd4007716bf1202bd7bb827c0663062e06129", func := "fishplate/fishplatelaw21.InsnTells", spec := "insnTells", named := ["fishplate/insn.shapes"], apart := false, laid := [("fishplate/insn.shapes", laid_fishplate_insn_shapes)] }
def InsnTellsSaid : Prop := insnTellsRow.holds Tryd.pinned (OpenSpec.ofChange insnTellsSpec)

/-- ITS FALSE NEIGHBOUR: 'it returns false'. Refute it at one input. -/
def insnTellsWrong : ChangeSpec := { name := "insnTells", fn := fun _ => fun
  | [d1, d2] => { results := [.lit (.bool false)], args := [d1, d2] }
  | _ => none }
def InsnTellsWrongFalsely : Prop := insnTellsRow.holds Tryd.pinned (OpenSpec.ofChange insnTellsWrong)

/-- 'fishplatelaw21.InsnBack': WHATEVER THE INPUT: true; the input reads as it did. -/
def insnBackSpec : ChangeSpec := { name := "insnBack", fn := fun _ => fun
  | [d1, d2, d3, d4] => { results := [.lit (.bool true)], args := [d1, d2, d3, d4] }
  | _ => none }
def insnBackRow : OpenClaim := { program := "ytbedbkifdhjdfaadoor", sum := "bed40ad2d7cd60e7aa4ab915c76cd4007716bf1202bd7bb827c0663062e06129", func := "fishplate/fishplatelaw21.InsnBack", spec := "insnBack", named := ["fishplate/insn.shapes"], apart := false, laid := [("fishplate/insn.shapes", laid_fishplate_insn_shapes)] }
def InsnBackSaid : Prop := insnBackRow.holds Tryd.pinned (OpenSpec.ofChange insnBackSpec)

/-- ITS FALSE NEIGHBOUR: 'it returns false'. Refute it at one input. -/
def insnBackWrong : ChangeSpec := { name := "insnBack", fn := fun _ => fun
  | [d1, d2, d3, d4] => { results := [.lit (.bool false)], args := [d1, d2, d3, d4] }
  | _ => none }
def InsnBackWrongFalsely : Prop := insnBackRow.holds Tryd.pinned (OpenSpec.ofChange insnBackWrong)

/- THE SECOND FORM. 'bulk': how many values and letters a reading holds, each counted each time it is reached (what is shared counts as often as it is met; a slice's spare places count too). A statement '..UptoSaid' is the law's where the arguments, and the package variables that the reading takes, are together of bulk at most 1048576: NARROWER than '..Said'. Prove '..Said' where nothing that the law and all that it calls make is longer than what came in: it says more and counts as full. Else prove '..UptoSaid'. A law counts once. -/
mutual
def uptoBulk {H : Type} : DataW H → Nat
  | .lit (.string bytes) => bytes.length + 1
  | .lit _ => 1
  | .nil => 1
  | .ptr d => uptoBulk d + 1
  | .slice elems spare => uptoBulkAll elems + uptoBulkAll spare + 1
  | .agg parts => uptoBulkAll parts + 1
  | .iface _ d => uptoBulk d + 1
  | .map entries => uptoBulkEntries entries + 1
  | .held _ => 1
def uptoBulkAll {H : Type} : List (DataW H) → Nat
  | [] => 0
  | d :: r => uptoBulk d + uptoBulkAll r
def uptoBulkEntries {H : Type} : List (Lit × DataW H) → Nat
  | [] => 0
  | x :: r => uptoBulkEntry x + uptoBulkEntries r
def uptoBulkEntry {H : Type} : Lit × DataW H → Nat
  | (.string bytes, d) => bytes.length + uptoBulk d + 1
  | (_, d) => uptoBulk d + 1
 end
def uptoSmall : (H : Type) → List (DataW H) → Bool := fun _ ds => decide (uptoBulkAll ds ≤ 1048576)
def OpenSpec.upto (s : _root_.Go.ChangeSpec) : _root_.Go.OpenSpec := { _root_.Go.OpenSpec.ofChange s with cond := some uptoSmall }

/-- 'fishplatelaw21.InsnTells', WHERE WHAT IT READS IS OF BULK AT MOST 1048576: true; the input reads as it did. -/
def insnTellsUptoRow : OpenClaim := { program := "ytbedbkifdhjdfaadoor", sum := "bed40ad2d7cd60e7aa4ab915c76cd4007716bf1202bd7bb827c0663062e06129", func := "fishplate/fishplatelaw21.InsnTells", spec := "insnTells", named := ["fishplate/insn.shapes"], apart := false, laid := [("fishplate/insn.shapes", laid_fishplate_insn_shapes)], narrowed := true }
def InsnTellsUptoSaid : Prop := insnTellsUptoRow.holds Tryd.pinned (OpenSpec.upto insnTellsSpec)

/-- 'fishplatelaw21.InsnBack', WHERE WHAT IT READS IS OF BULK AT MOST 1048576: true; the input reads as it did. -/
def insnBackUptoRow : OpenClaim := { program := "ytbedbkifdhjdfaadoor", sum := "bed40ad2d7cd60e7aa4ab915c76cd4007716bf1202bd7bb827c0663062e06129", func := "fishplate/fishplatelaw21.InsnBack", spec := "insnBack", named := ["fishplate/insn.shapes"], apart := false, laid := [("fishplate/insn.shapes", laid_fishplate_insn_shapes)], narrowed := true }
def InsnBackUptoSaid : Prop := insnBackUptoRow.holds Tryd.pinned (OpenSpec.upto insnBackSpec)

end Rows
end Go.Proofs.YtbedbkifdhjdfaaDoor
