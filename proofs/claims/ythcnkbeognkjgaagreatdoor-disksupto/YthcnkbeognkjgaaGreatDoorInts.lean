/-
  The cells of a row of numbers.
-/
import Derived.Test.YthcnkbeognkjgaaGreatDoorProg
import Derived.WalkSmall
namespace Go.Proofs.YthcnkbeognkjgaaGreatDoor

/-- the cells of raw numbers. -/
def ints (l : List Int) : List Value := l.map (Value.int .i64)

end Go.Proofs.YthcnkbeognkjgaaGreatDoor
