/-
  What the row's cells say of the program: each by itself, so that the kernel gives its memory back behind it.
-/
import Derived.Test.YthcnkbeognkjgaaGreatDoorCards
import Derived.JoinedCond
import Derived.KernelRfl
namespace Go.Proofs.YthcnkbeognkjgaaGreatDoor
namespace GmLaw
set_option maxRecDepth 100000
noncomputable def loneRow : OpenClaim := { Rows.disksUptoRow with leaving := false }
theorem both {x y : Bool} (h : x = true) (g : y = true) : (x && y) = true := by rw [h, g]; rfl
theorem k0 : (loneRow.wf (OpenSpec.ofChange (Rows.OpenSpec.upto Rows.disksSpec).bare)) = true := by kernel_rfl
theorem k1 : (laidOutB Tryz.prog) = true := by kernel_rfl
theorem k2 : (mapsRowed Tryz.prog) = true := by kernel_rfl
theorem k3 : (Tryz.f3.params.all (Tryz.prog.readableRec ·)) = true := by kernel_rfl
theorem k4 : (namedTie Tryz.prog loneRow.named (Rows.OpenSpec.upto Rows.disksSpec).bare.vars) = true := by kernel_rfl
theorem k5 : (loneRow.stops == []) = true := by kernel_rfl
theorem k6 : (Tryz.prog.stops == []) = true := by kernel_rfl
theorem k7 : (loneRow.knobs == []) = true := by kernel_rfl
theorem k8 : (Tryz.prog.stopKnobs == []) = true := by kernel_rfl
theorem k9 : (loneRow.inPlace == Tryz.prog.inPlace 3) = true := by kernel_rfl
theorem k10 : (loneRow.unfollowed == Tryz.prog.unfollowed 3) = true := by kernel_rfl
theorem k11 : (loneRow.recurses == Tryz.prog.recurses 3) = true := by kernel_rfl
theorem k12 : (loneRow.named == Tryz.prog.varsNamed 3) = true := by kernel_rfl
theorem k13 : (loneRow.maps == (Tryz.f3.params.toList ++ (Rows.OpenSpec.upto Rows.disksSpec).bare.plain.varTypes Tryz.prog).any (Tryz.prog.mapsRec ·)) = true := by kernel_rfl
theorem k14 : (loneRow.ifaces == (Tryz.f3.params.toList ++ (Rows.OpenSpec.upto Rows.disksSpec).bare.plain.varTypes Tryz.prog).any (Tryz.prog.ifacesRec ·)) = true := by kernel_rfl
theorem k15 : (loneRow.mapsOut == Tryz.prog.mapsAmong Tryz.f3.resultTypes.toList) = true := by kernel_rfl
theorem k16 : (loneRow.loops == (Tryz.f3.params.toList ++ (Rows.OpenSpec.upto Rows.disksSpec).bare.plain.varTypes Tryz.prog).any (Tryz.prog.loopsFrom ·)) = true := by kernel_rfl
theorem k17 : (loneRow.wideKeys == (Tryz.f3.params.toList ++ (Rows.OpenSpec.upto Rows.disksSpec).bare.plain.varTypes Tryz.prog ++ Tryz.f3.resultTypes.toList).any (Tryz.prog.wideKeysFrom ·)) = true := by kernel_rfl
theorem k18 : ((Rows.OpenSpec.upto Rows.disksSpec).bare.vars.all (Tryz.prog.varReadable ·)) = true := by kernel_rfl
theorem k19 : (Tryz.f3.resultTypes.all (fun t => Tryz.prog.readableRec t && decide (t < Tryz.prog.types.size))) = true := by kernel_rfl
theorem k20 : (loneRow.ifacesOut == Tryz.f3.resultTypes.toList.any (Tryz.prog.ifacesRec ·)) = true := by kernel_rfl
theorem k21 : (loneRow.loopsOut == Tryz.f3.resultTypes.toList.any (Tryz.prog.loopsFrom ·)) = true := by kernel_rfl
theorem k22 : (loneRow.plainKeys == Tryz.prog.plainKeys) = true := by kernel_rfl
theorem k23 : (loneRow.shortTexts.isNone) = true := by kernel_rfl
theorem k24 : (Tryz.prog.stopsHeard) = true := by kernel_rfl
theorem k25 : (Tryz.prog.mayEnter) = true := by kernel_rfl
theorem k26 : (loneRow.lifted == Tryz.prog.liftsFinal) = true := by kernel_rfl
theorem k27 : (Tryz.prog.make == some loneRow.make) = true := by kernel_rfl
theorem k28 : (loneRow.kinds == (if loneRow.domain.isEmpty then [] else Tryz.f3.params.toList.map fun t => match Tryz.prog.underlying t with | some (.int k) => some k | _ => none)) = true := by kernel_rfl
theorem k29 : (loneRow.pinned == loneRow.pinnedBy) = true := by kernel_rfl
theorem k30 : (loneRow.veiled == (Tryz.f3.params.toList ++ (Rows.OpenSpec.upto Rows.disksSpec).bare.plain.varTypes Tryz.prog ++ Tryz.f3.resultTypes.toList).any (Tryz.prog.veiledRec ·)) = true := by kernel_rfl
theorem k31 : (loneRow.veiledFits Tryz.prog Tryz.f3.params.toList (Tryz.f3.params.toList ++ (Rows.OpenSpec.upto Rows.disksSpec).bare.plain.varTypes Tryz.prog ++ Tryz.f3.resultTypes.toList)) = true := by kernel_rfl
theorem facts : joinedFacts Tryz.prog 3 Tryz.f3 (Rows.OpenSpec.upto Rows.disksSpec).bare loneRow = true := by
  unfold joinedFacts
  exact both (both (both (both (both (both (both (both (both (both (both (both (both (both (both (both (both (both (both (both (both (both (both (both (both (both (both (both (both (both (both k0 k1) k2) k3) k4) k5) k6) k7) k8) k9) k10) k11) k12) k13) k14) k15) k16) k17) k18) k19) k20) k21) k22) k23) k24) k25) k26) k27) k28) k29) k30) k31
theorem goes : Rows.disksUptoRow.goesBy Tryz.pinned.checked.prog = true := by kernel_rfl

end GmLaw
end Go.Proofs.YthcnkbeognkjgaaGreatDoor
