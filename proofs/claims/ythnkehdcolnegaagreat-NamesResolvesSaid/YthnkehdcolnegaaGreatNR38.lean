/-
  Contract: the reference's Symbol.
-/
import Derived.Test.YthnkehdcolnegaaGreatNR18
import Derived.Deep.RegionHeld3
import Derived.Deep.DeepCutAuto
namespace Go.Proofs.YthnkehdcolnegaaGreat
open Go.RowKit

end Go.Proofs.YthnkehdcolnegaaGreat
