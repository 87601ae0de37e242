/-
  DERIVED. GIVEN WITH THE SEED: THE CARDS: each row of YthcnkbeognkjgaaGreatDoorRows.lean that lists a variable, with what it lists TIED to the program's text (the seventh form; the later family's looks); each row that meets fmt, with fmt's text TOLD by the authors' own Lean function (tested against real Go, not proved from fmt's source: count such statements apart). THE CARD IS WHAT COUNTS. Prove the row's statement (the work); the ties are given (YthcnkbeognkjgaaGreatDoorTie.lean); close each card by the builder's one call (the guide's Derived/Test/ToyasCard.lean, 'card_holds'). Laid BY PROGRAM, IN A SANDBOX (cutbox-door.mjs). By AI agents, Wed Nov 11 2026. No macro, syntax, notation, axiom, sorry.
-/
import Derived.Test.YthcnkbeognkjgaaGreatDoorRows
import GoSem.ClaimSeven
namespace Go.Proofs.YthcnkbeognkjgaaGreatDoor
namespace Rows

/-- THE TIED CARD OF 'routeloglaw.Disks'. -/
def disksCard : Claim7 := { stood := { row := disksRow, standIns := [], harness := (true, "93debe335ec5a3b6ad3364ca0f5e4a4435f58b50d2f8c282dac70f8eb803e6c7"), looks := true }, kinds := [], alts := [], goes := true, laidByText := true, laidKinds := [.data, .data, .data, .sentinel, .sentinel], laidTests := true, laidLooks := .later }
def DisksCardSaid : Prop := Claim7.holds Tryz.pinned (.plain (OpenSpec.ofChange disksSpec)) disksCard

/-- THE SECOND FORM's CARD OF 'routeloglaw.Disks'. -/
def disksUptoCard : Claim7 := { stood := { row := disksUptoRow, standIns := [], harness := (true, "93debe335ec5a3b6ad3364ca0f5e4a4435f58b50d2f8c282dac70f8eb803e6c7"), looks := true }, kinds := [], alts := [], goes := true, laidByText := true, laidKinds := [.data, .data, .data, .sentinel, .sentinel], laidTests := true, laidLooks := .later }
def DisksUptoCardSaid : Prop := Claim7.holds Tryz.pinned (.plain (OpenSpec.upto disksSpec)) disksUptoCard
end Rows
end Go.Proofs.YthcnkbeognkjgaaGreatDoor
