/-
  No cell of these rows narrows 'for every input' (looked for: loops, veiled, ifaces, maps, wideKeys, modest, calm, conditions, laid).
  DERIVED. THE GIVEN ROWS OF THIS SEAT. 7 by the template 'for every input the law returns true; each argument reads behind the call as it read before'; 0 by the template 'total and deterministic' (their statements: YteoacdkgicfomaaTotals.lean).
  GIVEN WITH THE SEED: the statements are not yours to turn. If you find one false, say at which input.
  Laid BY PROGRAM, IN A SANDBOX (cutbox-rows.mjs): the forced cells as the released guide's own fill.sh prints them over the translation 8d39fcbe92610994… (all of the seat's roots in one cut). By AI agents, Wed Nov 11 2026. No macro, syntax, notation, axiom, sorry.
-/
import Derived.Test.YteoacdkgicfomaaChecked
import GoSem.Claim
import GoSem.ClaimJoined
import GoSem.ClaimMapViews
import Derived.JoinedTies
import Derived.KernelRfl
namespace Go.Proofs.Yteoacdkgicfomaa
/- THE CELL 'sum', in the pinned program and in every row, IS THE sha256 OF THE DUMP (.gsa) THAT YteoacdkgicfomaaProg.lean LOADS. Nothing in Lean hashes anything: it is a label: what it is worth is what the hold of that sum in a sandbox is worth. -/
noncomputable def Try.pinned : Pinned := { name := "yteoacdkgicfomaa", sum := "8d39fcbe926109944ad4cb8d48fba3672e898213a63275abf6c6596ac46372fd", checked := Try.checked }
namespace Rows
def none {H : Type} : Left H := { results := [], args := [] }

/-- 'routeloglaw.Frames': WHATEVER THE INPUT: true; the input reads as it did. -/
def framesSpec : ChangeSpec := { name := "frames", fn := fun _ => fun
  | [d] => { results := [.lit (.bool true)], args := [d] }
  | _ => none }
def framesRow : OpenClaim := { program := "yteoacdkgicfomaa", sum := "8d39fcbe926109944ad4cb8d48fba3672e898213a63275abf6c6596ac46372fd", func := "routelog/routeloglaw.Frames", spec := "frames", apart := false }
def FramesSaid : Prop := framesRow.holds Try.pinned (OpenSpec.ofChange framesSpec)

/-- ITS FALSE NEIGHBOUR: 'it returns false'. Refute it at one input. -/
def framesWrong : ChangeSpec := { name := "frames", fn := fun _ => fun
  | [d] => { results := [.lit (.bool false)], args := [d] }
  | _ => none }
def FramesWrongFalsely : Prop := framesRow.holds Try.pinned (OpenSpec.ofChange framesWrong)

/-- 'routeloglaw.Updates': WHATEVER THE INPUT: true; the input reads as it did. -/
def updatesSpec : ChangeSpec := { name := "updates", fn := fun _ => fun
  | [d] => { results := [.lit (.bool true)], args := [d] }
  | _ => none }
def updatesRow : OpenClaim := { program := "yteoacdkgicfomaa", sum := "8d39fcbe926109944ad4cb8d48fba3672e898213a63275abf6c6596ac46372fd", func := "routelog/routeloglaw.Updates", spec := "updates", inPlace := ["internal/abi.NoEscape", "internal/bytealg.MakeNoZero"], unfollowed := true, recurses := true, apart := false }
def UpdatesSaid : Prop := updatesRow.holds Try.pinned (OpenSpec.ofChange updatesSpec)

/-- ITS FALSE NEIGHBOUR: 'it returns false'. Refute it at one input. -/
def updatesWrong : ChangeSpec := { name := "updates", fn := fun _ => fun
  | [d] => { results := [.lit (.bool false)], args := [d] }
  | _ => none }
def UpdatesWrongFalsely : Prop := updatesRow.holds Try.pinned (OpenSpec.ofChange updatesWrong)

/-- 'routeloglaw.Announces': WHATEVER THE INPUT: true; the input reads as it did. -/
def announcesSpec : ChangeSpec := { name := "announces", fn := fun _ => fun
  | [d1, d2] => { results := [.lit (.bool true)], args := [d1, d2] }
  | _ => none }
def announcesRow : OpenClaim := { program := "yteoacdkgicfomaa", sum := "8d39fcbe926109944ad4cb8d48fba3672e898213a63275abf6c6596ac46372fd", func := "routelog/routeloglaw.Announces", spec := "announces", inPlace := ["internal/abi.NoEscape", "internal/bytealg.MakeNoZero"], apart := false }
def AnnouncesSaid : Prop := announcesRow.holds Try.pinned (OpenSpec.ofChange announcesSpec)

/-- ITS FALSE NEIGHBOUR: 'it returns false'. Refute it at one input. -/
def announcesWrong : ChangeSpec := { name := "announces", fn := fun _ => fun
  | [d1, d2] => { results := [.lit (.bool false)], args := [d1, d2] }
  | _ => none }
def AnnouncesWrongFalsely : Prop := announcesRow.holds Try.pinned (OpenSpec.ofChange announcesWrong)

/-- 'routelogkeep.Told': WHATEVER THE INPUT: true; the input reads as it did. -/
def toldSpec : ChangeSpec := { name := "told", fn := fun _ => fun
  | [d1, d2] => { results := [.lit (.bool true)], args := [d1, d2] }
  | _ => none }
def toldRow : OpenClaim := { program := "yteoacdkgicfomaa", sum := "8d39fcbe926109944ad4cb8d48fba3672e898213a63275abf6c6596ac46372fd", func := "routelog/routelogkeep.Told", spec := "told", inPlace := ["internal/abi.NoEscape", "internal/bytealg.MakeNoZero"], unfollowed := true, recurses := true, apart := false }
def ToldSaid : Prop := toldRow.holds Try.pinned (OpenSpec.ofChange toldSpec)

/-- ITS FALSE NEIGHBOUR: 'it returns false'. Refute it at one input. -/
def toldWrong : ChangeSpec := { name := "told", fn := fun _ => fun
  | [d1, d2] => { results := [.lit (.bool false)], args := [d1, d2] }
  | _ => none }
def ToldWrongFalsely : Prop := toldRow.holds Try.pinned (OpenSpec.ofChange toldWrong)

/-- 'routelogkeep.Spoilt': WHATEVER THE INPUT: true; the input reads as it did. -/
def spoiltSpec : ChangeSpec := { name := "spoilt", fn := fun _ => fun
  | [d1, d2, d3, d4, d5] => { results := [.lit (.bool true)], args := [d1, d2, d3, d4, d5] }
  | _ => none }
def spoiltRow : OpenClaim := { program := "yteoacdkgicfomaa", sum := "8d39fcbe926109944ad4cb8d48fba3672e898213a63275abf6c6596ac46372fd", func := "routelog/routelogkeep.Spoilt", spec := "spoilt", inPlace := ["internal/abi.NoEscape", "internal/bytealg.MakeNoZero"], unfollowed := true, recurses := true, apart := false }
def SpoiltSaid : Prop := spoiltRow.holds Try.pinned (OpenSpec.ofChange spoiltSpec)

/-- ITS FALSE NEIGHBOUR: 'it returns false'. Refute it at one input. -/
def spoiltWrong : ChangeSpec := { name := "spoilt", fn := fun _ => fun
  | [d1, d2, d3, d4, d5] => { results := [.lit (.bool false)], args := [d1, d2, d3, d4, d5] }
  | _ => none }
def SpoiltWrongFalsely : Prop := spoiltRow.holds Try.pinned (OpenSpec.ofChange spoiltWrong)

/-- 'routeloglaw.Scans': WHATEVER THE INPUT: true; the input reads as it did. -/
def scansSpec : ChangeSpec := { name := "scans", fn := fun _ => fun
  | [d] => { results := [.lit (.bool true)], args := [d] }
  | _ => none }
def scansRow : OpenClaim := { program := "yteoacdkgicfomaa", sum := "8d39fcbe926109944ad4cb8d48fba3672e898213a63275abf6c6596ac46372fd", func := "routelog/routeloglaw.Scans", spec := "scans", inPlace := ["internal/abi.NoEscape", "internal/bytealg.MakeNoZero"], unfollowed := true, recurses := true, apart := false }
def ScansSaid : Prop := scansRow.holds Try.pinned (OpenSpec.ofChange scansSpec)

/-- ITS FALSE NEIGHBOUR: 'it returns false'. Refute it at one input. -/
def scansWrong : ChangeSpec := { name := "scans", fn := fun _ => fun
  | [d] => { results := [.lit (.bool false)], args := [d] }
  | _ => none }
def ScansWrongFalsely : Prop := scansRow.holds Try.pinned (OpenSpec.ofChange scansWrong)

/-- 'routelogkeep.Scanned': WHATEVER THE INPUT: true; the input reads as it did. -/
def scannedSpec : ChangeSpec := { name := "scanned", fn := fun _ => fun
  | [d1, d2, d3, d4, d5, d6] => { results := [.lit (.bool true)], args := [d1, d2, d3, d4, d5, d6] }
  | _ => none }
def scannedRow : OpenClaim := { program := "yteoacdkgicfomaa", sum := "8d39fcbe926109944ad4cb8d48fba3672e898213a63275abf6c6596ac46372fd", func := "routelog/routelogkeep.Scanned", spec := "scanned", inPlace := ["internal/abi.NoEscape", "internal/bytealg.MakeNoZero"], unfollowed := true, recurses := true, apart := false }
def ScannedSaid : Prop := scannedRow.holds Try.pinned (OpenSpec.ofChange scannedSpec)

/-- ITS FALSE NEIGHBOUR: 'it returns false'. Refute it at one input. -/
def scannedWrong : ChangeSpec := { name := "scanned", fn := fun _ => fun
  | [d1, d2, d3, d4, d5, d6] => { results := [.lit (.bool false)], args := [d1, d2, d3, d4, d5, d6] }
  | _ => none }
def ScannedWrongFalsely : Prop := scannedRow.holds Try.pinned (OpenSpec.ofChange scannedWrong)

/- THE SECOND FORM. 'bulk': how many values and letters a reading holds, each counted each time it is reached (what is shared counts as often as it is met; a slice's spare places count too). A statement '..UptoSaid' is the law's where the arguments, and the package variables that the reading takes, are together of bulk at most 1048576: NARROWER than '..Said'. Prove '..Said' where nothing that the law and all that it calls make is longer than what came in: it says more and counts as full. Else prove '..UptoSaid'. A law counts once. -/
mutual
def uptoBulk {H : Type} : DataW H → Nat
  | .lit (.string bytes) => bytes.length + 1
  | .lit _ => 1
  | .nil => 1
  | .ptr d => uptoBulk d + 1
  | .slice elems spare => uptoBulkAll elems + uptoBulkAll spare + 1
  | .agg parts => uptoBulkAll parts + 1
  | .iface _ d => uptoBulk d + 1
  | .map entries => uptoBulkEntries entries + 1
  | .held _ => 1
def uptoBulkAll {H : Type} : List (DataW H) → Nat
  | [] => 0
  | d :: r => uptoBulk d + uptoBulkAll r
def uptoBulkEntries {H : Type} : List (Lit × DataW H) → Nat
  | [] => 0
  | x :: r => uptoBulkEntry x + uptoBulkEntries r
def uptoBulkEntry {H : Type} : Lit × DataW H → Nat
  | (.string bytes, d) => bytes.length + uptoBulk d + 1
  | (_, d) => uptoBulk d + 1
 end
def uptoSmall : (H : Type) → List (DataW H) → Bool := fun _ ds => decide (uptoBulkAll ds ≤ 1048576)
def OpenSpec.upto (s : _root_.Go.ChangeSpec) : _root_.Go.OpenSpec := { _root_.Go.OpenSpec.ofChange s with cond := some uptoSmall }

/-- 'routeloglaw.Frames', WHERE WHAT IT READS IS OF BULK AT MOST 1048576: true; the input reads as it did. -/
def framesUptoRow : OpenClaim := { program := "yteoacdkgicfomaa", sum := "8d39fcbe926109944ad4cb8d48fba3672e898213a63275abf6c6596ac46372fd", func := "routelog/routeloglaw.Frames", spec := "frames", apart := false, narrowed := true }
def FramesUptoSaid : Prop := framesUptoRow.holds Try.pinned (OpenSpec.upto framesSpec)

/-- 'routeloglaw.Updates', WHERE WHAT IT READS IS OF BULK AT MOST 1048576: true; the input reads as it did. -/
def updatesUptoRow : OpenClaim := { program := "yteoacdkgicfomaa", sum := "8d39fcbe926109944ad4cb8d48fba3672e898213a63275abf6c6596ac46372fd", func := "routelog/routeloglaw.Updates", spec := "updates", inPlace := ["internal/abi.NoEscape", "internal/bytealg.MakeNoZero"], unfollowed := true, recurses := true, apart := false, narrowed := true }
def UpdatesUptoSaid : Prop := updatesUptoRow.holds Try.pinned (OpenSpec.upto updatesSpec)

/-- 'routeloglaw.Announces', WHERE WHAT IT READS IS OF BULK AT MOST 1048576: true; the input reads as it did. -/
def announcesUptoRow : OpenClaim := { program := "yteoacdkgicfomaa", sum := "8d39fcbe926109944ad4cb8d48fba3672e898213a63275abf6c6596ac46372fd", func := "routelog/routeloglaw.Announces", spec := "announces", inPlace := ["internal/abi.NoEscape", "internal/bytealg.MakeNoZero"], apart := false, narrowed := true }
def AnnouncesUptoSaid : Prop := announcesUptoRow.holds Try.pinned (OpenSpec.upto announcesSpec)

/-- 'routelogkeep.Told', WHERE WHAT IT READS IS OF BULK AT MOST 1048576: true; the input reads as it did. -/
def toldUptoRow : OpenClaim := { program := "yteoacdkgicfomaa", sum := "8d39fcbe926109944ad4cb8d48fba3672e898213a63275abf6c6596ac46372fd", func := "routelog/routelogkeep.Told", spec := "told", inPlace := ["internal/abi.NoEscape", "internal/bytealg.MakeNoZero"], unfollowed := true, recurses := true, apart := false, narrowed := true }
def ToldUptoSaid : Prop := toldUptoRow.holds Try.pinned (OpenSpec.upto toldSpec)

/-- 'routelogkeep.Spoilt', WHERE WHAT IT READS IS OF BULK AT MOST 1048576: true; the input reads as it did. -/
def spoiltUptoRow : OpenClaim := { program := "yteoacdkgicfomaa", sum := "8d39fcbe926109944ad4cb8d48fba3672e898213a63275abf6c6596ac46372fd", func := "routelog/routelogkeep.Spoilt", spec := "spoilt", inPlace := ["internal/abi.NoEscape", "internal/bytealg.MakeNoZero"], unfollowed := true, recurses := true, apart := false, narrowed := true }
def SpoiltUptoSaid : Prop := spoiltUptoRow.holds Try.pinned (OpenSpec.upto spoiltSpec)

/-- 'routeloglaw.Scans', WHERE WHAT IT READS IS OF BULK AT MOST 1048576: true; the input reads as it did. -/
def scansUptoRow : OpenClaim := { program := "yteoacdkgicfomaa", sum := "8d39fcbe926109944ad4cb8d48fba3672e898213a63275abf6c6596ac46372fd", func := "routelog/routeloglaw.Scans", spec := "scans", inPlace := ["internal/abi.NoEscape", "internal/bytealg.MakeNoZero"], unfollowed := true, recurses := true, apart := false, narrowed := true }
def ScansUptoSaid : Prop := scansUptoRow.holds Try.pinned (OpenSpec.upto scansSpec)

/-- 'routelogkeep.Scanned', WHERE WHAT IT READS IS OF BULK AT MOST 1048576: true; the input reads as it did. -/
def scannedUptoRow : OpenClaim := { program := "yteoacdkgicfomaa", sum := "8d39fcbe926109944ad4cb8d48fba3672e898213a63275abf6c6596ac46372fd", func := "routelog/routelogkeep.Scanned", spec := "scanned", inPlace := ["internal/abi.NoEscape", "internal/bytealg.MakeNoZero"], unfollowed := true, recurses := true, apart := false, narrowed := true }
def ScannedUptoSaid : Prop := scannedUptoRow.holds Try.pinned (OpenSpec.upto scannedSpec)

end Rows
end Go.Proofs.Yteoacdkgicfomaa
