/-
  Parts of a proof.
-/
import Derived.Test.YteopgmieindojaaGreatGW33
import Derived.Deep.DeepCutAuto
import Derived.Deep.CutBlock
import Derived.Test.YteopgmieindojaaGreatGW24
import Derived.Deep.RegionHeld3
namespace Go.Proofs.YteopgmieindojaaGreat
open Go.RowKit
end Go.Proofs.YteopgmieindojaaGreat

namespace Go.Proofs.YteopgmieindojaaGreat
open Go.RowKit
end Go.Proofs.YteopgmieindojaaGreat
