/-
  No cell of these rows narrows 'for every input' (looked for: loops, veiled, ifaces, maps, wideKeys, modest, calm, conditions, laid).
  DERIVED. THE GIVEN ROWS OF THIS SEAT. 5 by the template 'for every input the law returns true; each argument reads behind the call as it read before'; 0 by the template 'total and deterministic' (their statements: YteopgmieindojaaGreatTotals.lean).
  GIVEN WITH THE SEED: the statements are not yours to turn. If you find one false, say at which input.
  Laid BY PROGRAM, IN A SANDBOX (cutbox-rows.mjs): the forced cells as the released guide's own fill.sh prints them over the translation 32b166a344f07274… (all of the seat's roots in one cut). By AI agents, Wed Nov 11 2026. No macro, syntax, notation, axiom, sorry.
-/
import Derived.Test.YteopgmieindojaaGreatChecked
import GoSem.Claim
import GoSem.ClaimJoined
import GoSem.ClaimMapViews
import Derived.JoinedTies
import Derived.KernelRfl
namespace Go.Proofs.YteopgmieindojaaGreat
/- THE CELL 'sum', in the pinned program and in every row, IS THE sha256 OF THE DUMP (.gsa) THAT YteopgmieindojaaGreatProg.lean LOADS. Nothing in Lean hashes anything: it is a label: what it is worth is what the hold of that sum in a sandbox is worth. -/
noncomputable def Tryz.pinned : Pinned := { name := "yteopgmieindojaagreat", sum := "32b166a344f07274d0d0afeeaa1018d98e3499b81b27b0ba8b7e5c27ceca8ced", checked := Tryz.checked }
namespace Rows
def none {H : Type} : Left H := { results := [], args := [] }

/-- 'fishplatelaw08.ObjPuts': WHATEVER THE INPUT: true; the input reads as it did. -/
def objPutsSpec : ChangeSpec := { name := "objPuts", fn := fun _ => fun
  | [d] => { results := [.lit (.bool true)], args := [d] }
  | _ => none }
def objPutsRow : OpenClaim := { program := "yteopgmieindojaagreat", sum := "32b166a344f07274d0d0afeeaa1018d98e3499b81b27b0ba8b7e5c27ceca8ced", func := "fishplate/fishplatelaw08.ObjPuts", spec := "objPuts", inPlace := ["internal/bytealg.IndexByteString", "internal/bytealg.IndexByte"], recurses := true, apart := false }
def ObjPutsSaid : Prop := objPutsRow.holds Tryz.pinned (OpenSpec.ofChange objPutsSpec)

/-- ITS FALSE NEIGHBOUR: 'it returns false'. Refute it at one input. -/
def objPutsWrong : ChangeSpec := { name := "objPuts", fn := fun _ => fun
  | [d] => { results := [.lit (.bool false)], args := [d] }
  | _ => none }
def ObjPutsWrongFalsely : Prop := objPutsRow.holds Tryz.pinned (OpenSpec.ofChange objPutsWrong)

/-- 'fishplatelaw08.ObjGets': WHATEVER THE INPUT: true; the input reads as it did. -/
def objGetsSpec : ChangeSpec := { name := "objGets", fn := fun _ => fun
  | [d] => { results := [.lit (.bool true)], args := [d] }
  | _ => none }
def objGetsRow : OpenClaim := { program := "yteopgmieindojaagreat", sum := "32b166a344f07274d0d0afeeaa1018d98e3499b81b27b0ba8b7e5c27ceca8ced", func := "fishplate/fishplatelaw08.ObjGets", spec := "objGets", inPlace := ["internal/bytealg.IndexByteString", "internal/bytealg.IndexByte"], apart := false }
def ObjGetsSaid : Prop := objGetsRow.holds Tryz.pinned (OpenSpec.ofChange objGetsSpec)

/-- ITS FALSE NEIGHBOUR: 'it returns false'. Refute it at one input. -/
def objGetsWrong : ChangeSpec := { name := "objGets", fn := fun _ => fun
  | [d] => { results := [.lit (.bool false)], args := [d] }
  | _ => none }
def ObjGetsWrongFalsely : Prop := objGetsRow.holds Tryz.pinned (OpenSpec.ofChange objGetsWrong)

/-- 'fishplatelaw10.NamesResolves': WHATEVER THE INPUT: true; the input reads as it did. -/
def namesResolvesSpec : ChangeSpec := { name := "namesResolves", fn := fun _ => fun
  | [d1, d2, d3, d4] => { results := [.lit (.bool true)], args := [d1, d2, d3, d4] }
  | _ => none }
def namesResolvesRow : OpenClaim := { program := "yteopgmieindojaagreat", sum := "32b166a344f07274d0d0afeeaa1018d98e3499b81b27b0ba8b7e5c27ceca8ced", func := "fishplate/fishplatelaw10.NamesResolves", spec := "namesResolves", inPlace := ["internal/bytealg.IndexByteString", "internal/bytealg.abigen_runtime_cmpstring"], unfollowed := true, recurses := true, apart := false }
def NamesResolvesSaid : Prop := namesResolvesRow.holds Tryz.pinned (OpenSpec.ofChange namesResolvesSpec)

/-- ITS FALSE NEIGHBOUR: 'it returns false'. Refute it at one input. -/
def namesResolvesWrong : ChangeSpec := { name := "namesResolves", fn := fun _ => fun
  | [d1, d2, d3, d4] => { results := [.lit (.bool false)], args := [d1, d2, d3, d4] }
  | _ => none }
def NamesResolvesWrongFalsely : Prop := namesResolvesRow.holds Tryz.pinned (OpenSpec.ofChange namesResolvesWrong)

/-- 'fishplatelaw12.GraphBuilds': WHATEVER THE INPUT: true; the input reads as it did. -/
def graphBuildsSpec : ChangeSpec := { name := "graphBuilds", fn := fun _ => fun
  | [d1, d2] => { results := [.lit (.bool true)], args := [d1, d2] }
  | _ => none }
def graphBuildsRow : OpenClaim := { program := "yteopgmieindojaagreat", sum := "32b166a344f07274d0d0afeeaa1018d98e3499b81b27b0ba8b7e5c27ceca8ced", func := "fishplate/fishplatelaw12.GraphBuilds", spec := "graphBuilds", inPlace := ["internal/bytealg.IndexByteString", "internal/bytealg.abigen_runtime_cmpstring", "internal/bytealg.IndexByte"], unfollowed := true, recurses := true, apart := false }
def GraphBuildsSaid : Prop := graphBuildsRow.holds Tryz.pinned (OpenSpec.ofChange graphBuildsSpec)

/-- ITS FALSE NEIGHBOUR: 'it returns false'. Refute it at one input. -/
def graphBuildsWrong : ChangeSpec := { name := "graphBuilds", fn := fun _ => fun
  | [d1, d2] => { results := [.lit (.bool false)], args := [d1, d2] }
  | _ => none }
def GraphBuildsWrongFalsely : Prop := graphBuildsRow.holds Tryz.pinned (OpenSpec.ofChange graphBuildsWrong)

/-- 'fishplatelaw12.GraphWhole': WHATEVER THE INPUT: true; the input reads as it did. -/
def graphWholeSpec : ChangeSpec := { name := "graphWhole", fn := fun _ => fun
  | [d1, d2] => { results := [.lit (.bool true)], args := [d1, d2] }
  | _ => none }
def graphWholeRow : OpenClaim := { program := "yteopgmieindojaagreat", sum := "32b166a344f07274d0d0afeeaa1018d98e3499b81b27b0ba8b7e5c27ceca8ced", func := "fishplate/fishplatelaw12.GraphWhole", spec := "graphWhole", inPlace := ["internal/bytealg.IndexByteString", "internal/bytealg.abigen_runtime_cmpstring", "internal/bytealg.IndexByte"], unfollowed := true, recurses := true, apart := false }
def GraphWholeSaid : Prop := graphWholeRow.holds Tryz.pinned (OpenSpec.ofChange graphWholeSpec)

/-- ITS FALSE NEIGHBOUR: 'it returns false'. Refute it at one input. -/
def graphWholeWrong : ChangeSpec := { name := "graphWhole", fn := fun _ => fun
  | [d1, d2] => { results := [.lit (.bool false)], args := [d1, d2] }
  | _ => none }
def GraphWholeWrongFalsely : Prop := graphWholeRow.holds Tryz.pinned (OpenSpec.ofChange graphWholeWrong)

/- THE SECOND FORM. 'bulk': how many values and letters a reading holds, each counted each time it is reached (what is shared counts as often as it is met; a slice's spare places count too). A statement '..UptoSaid' is the law's where the arguments, and the package variables that the reading takes, are together of bulk at most 1048576: NARROWER than '..Said'. Prove '..Said' where nothing that the law and all that it calls make is longer than what came in: it says more and counts as full. Else prove '..UptoSaid'. A law counts once. -/
mutual
def uptoBulk {H : Type} : DataW H → Nat
  | .lit (.string bytes) => bytes.length + 1
  | .lit _ => 1
  | .nil => 1
  | .ptr d => uptoBulk d + 1
  | .slice elems spare => uptoBulkAll elems + uptoBulkAll spare + 1
  | .agg parts => uptoBulkAll parts + 1
  | .iface _ d => uptoBulk d + 1
  | .map entries => uptoBulkEntries entries + 1
  | .held _ => 1
def uptoBulkAll {H : Type} : List (DataW H) → Nat
  | [] => 0
  | d :: r => uptoBulk d + uptoBulkAll r
def uptoBulkEntries {H : Type} : List (Lit × DataW H) → Nat
  | [] => 0
  | x :: r => uptoBulkEntry x + uptoBulkEntries r
def uptoBulkEntry {H : Type} : Lit × DataW H → Nat
  | (.string bytes, d) => bytes.length + uptoBulk d + 1
  | (_, d) => uptoBulk d + 1
 end
def uptoSmall : (H : Type) → List (DataW H) → Bool := fun _ ds => decide (uptoBulkAll ds ≤ 1048576)
def OpenSpec.upto (s : _root_.Go.ChangeSpec) : _root_.Go.OpenSpec := { _root_.Go.OpenSpec.ofChange s with cond := some uptoSmall }

/-- 'fishplatelaw08.ObjPuts', WHERE WHAT IT READS IS OF BULK AT MOST 1048576: true; the input reads as it did. -/
def objPutsUptoRow : OpenClaim := { program := "yteopgmieindojaagreat", sum := "32b166a344f07274d0d0afeeaa1018d98e3499b81b27b0ba8b7e5c27ceca8ced", func := "fishplate/fishplatelaw08.ObjPuts", spec := "objPuts", inPlace := ["internal/bytealg.IndexByteString", "internal/bytealg.IndexByte"], recurses := true, apart := false, narrowed := true }
def ObjPutsUptoSaid : Prop := objPutsUptoRow.holds Tryz.pinned (OpenSpec.upto objPutsSpec)

/-- 'fishplatelaw08.ObjGets', WHERE WHAT IT READS IS OF BULK AT MOST 1048576: true; the input reads as it did. -/
def objGetsUptoRow : OpenClaim := { program := "yteopgmieindojaagreat", sum := "32b166a344f07274d0d0afeeaa1018d98e3499b81b27b0ba8b7e5c27ceca8ced", func := "fishplate/fishplatelaw08.ObjGets", spec := "objGets", inPlace := ["internal/bytealg.IndexByteString", "internal/bytealg.IndexByte"], apart := false, narrowed := true }
def ObjGetsUptoSaid : Prop := objGetsUptoRow.holds Tryz.pinned (OpenSpec.upto objGetsSpec)

/-- 'fishplatelaw10.NamesResolves', WHERE WHAT IT READS IS OF BULK AT MOST 1048576: true; the input reads as it did. -/
def namesResolvesUptoRow : OpenClaim := { program := "yteopgmieindojaagreat", sum := "32b166a344f07274d0d0afeeaa1018d98e3499b81b27b0ba8b7e5c27ceca8ced", func := "fishplate/fishplatelaw10.NamesResolves", spec := "namesResolves", inPlace := ["internal/bytealg.IndexByteString", "internal/bytealg.abigen_runtime_cmpstring"], unfollowed := true, recurses := true, apart := false, narrowed := true }
def NamesResolvesUptoSaid : Prop := namesResolvesUptoRow.holds Tryz.pinned (OpenSpec.upto namesResolvesSpec)

/-- 'fishplatelaw12.GraphBuilds', WHERE WHAT IT READS IS OF BULK AT MOST 1048576: true; the input reads as it did. -/
def graphBuildsUptoRow : OpenClaim := { program := "yteopgmieindojaagreat", sum := "32b166a344f07274d0d0afeeaa1018d98e3499b81b27b0ba8b7e5c27ceca8ced", func := "fishplate/fishplatelaw12.GraphBuilds", spec := "graphBuilds", inPlace := ["internal/bytealg.IndexByteString", "internal/bytealg.abigen_runtime_cmpstring", "internal/bytealg.IndexByte"], unfollowed := true, recurses := true, apart := false, narrowed := true }
def GraphBuildsUptoSaid : Prop := graphBuildsUptoRow.holds Tryz.pinned (OpenSpec.upto graphBuildsSpec)

/-- 'fishplatelaw12.GraphWhole', WHERE WHAT IT READS IS OF BULK AT MOST 1048576: true; the input reads as it did. -/
def graphWholeUptoRow : OpenClaim := { program := "yteopgmieindojaagreat", sum := "32b166a344f07274d0d0afeeaa1018d98e3499b81b27b0ba8b7e5c27ceca8ced", func := "fishplate/fishplatelaw12.GraphWhole", spec := "graphWhole", inPlace := ["internal/bytealg.IndexByteString", "internal/bytealg.abigen_runtime_cmpstring", "internal/bytealg.IndexByte"], unfollowed := true, recurses := true, apart := false, narrowed := true }
def GraphWholeUptoSaid : Prop := graphWholeUptoRow.holds Tryz.pinned (OpenSpec.upto graphWholeSpec)

end Rows
end Go.Proofs.YteopgmieindojaaGreat
