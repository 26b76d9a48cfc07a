/-
  Parts of a proof.
-/
import Derived.Test.YteopgmieindojaaGreatGW34
import Derived.Deep.RegionHeld3
namespace Go.Proofs.YteopgmieindojaaGreat
open Go.RowKit
end Go.Proofs.YteopgmieindojaaGreat
