/-
  strings.Clone.
-/
import Derived.Test.YthcnkbeognkjgaaGreatDoorProg
import Derived.Test.YthcnkbeognkjgaaGreatDoorShelf
import Derived.WalkKit
import Derived.WalkSmall
namespace Go.Proofs.YthcnkbeognkjgaaGreatDoor
open Go.RowKit

theorem clone_any (s : ByteArray) (w : World) (hs : s.size ≤ 1048576) :
    Calls Tryz.prog 189 #[.string s] w fun e w' => e = .returned (.string s) ∧ Below w.heap.size w w' := by
  go_enter Tryz.func189, Tryz.ntmps189
  go_wp2_with (go_at_call 236; refine (Tryz.stringslite_Clone s _ (by omega)).mono ?_; rintro e w' ⟨rfl, hb⟩)
  go_ret
  exact ⟨rfl, hb⟩

end Go.Proofs.YthcnkbeognkjgaaGreatDoor
