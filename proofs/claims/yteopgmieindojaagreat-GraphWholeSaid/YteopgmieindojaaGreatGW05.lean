/-
  Parts of a proof.
-/
import Derived.Test.YteopgmieindojaaGreatGW04
namespace Go.Proofs.YteopgmieindojaaGreat
open Go.RowKit
def secSize (secs : List SecD) (sec : Int) : Int := match secs[(sec - 1).toNat]? with
 | some x => x.size
 | none => 0
def sym0B (s : SymD) : Bool := s.name.toList.isEmpty && (s.bind == 0) && (s.type == 0) && (s.sec == 0) && (s.value == 0) && (s.size == 0)
def symNB (secs : List SecD) (before : Int) (s : SymD) : Bool :=
 bif !mayB s.name.data.toList || decide (s.bind < 0) || decide (2 < s.bind) || decide (s.type < 0) || decide (3 < s.type) || decide (s.size < 0) || decide (2147483647 < s.size) then false else
 bif decide (s.sec < -1) || decide ((secs.length : Int) < s.sec) || decide (s.value < 0) || decide (2147483647 < s.value) then false else
 bif ((s.sec == 0) && decide (0 < s.value)) || (decide (0 < s.sec) && decide (secSize secs s.sec < s.value)) then false else
 bif s.bind == 0 then (s.sec != 0) && (before == 0) else !s.name.toList.isEmpty
end Go.Proofs.YteopgmieindojaaGreat
