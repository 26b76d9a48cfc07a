/-
  A region that draws its order and whose calls make memory. Nothing here walks the program.
-/
import Derived.Test.YtjhohbgehpddpaaWords
import Derived.BigQuiet
namespace Go.Proofs.Ytjhohbgehpddpaa
open Go.RowKit

/-- A region that draws its order, of whose operations and callees each leaves alone what was there: walked once, in the order of the text. -/
theorem wp_region_below {P : Program} {id : Nat} {Q : Exit → Act → World → Prop} {a : Act} {w : World} {l : List Oper} (hm : P.follows .mixedOrders = true) (hB : Region.lexB .any l.toArray = true)
    (h : wpQuiet P l.toArray (fun W => Below w.heap.size w W) (fun a' => ∀ w', Below w.heap.size w w' → Q .normal a' w') l a) : (Code.region id l.toArray true).wp P Q a w :=
  wp_region_quiet (C := fun W => Below w.heap.size w W) hm hB ((Below.refl _ w).drew) (by simpa using h)
end Go.Proofs.Ytjhohbgehpddpaa
