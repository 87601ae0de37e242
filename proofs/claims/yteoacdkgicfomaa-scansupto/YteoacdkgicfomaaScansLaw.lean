/-
  Scans: of every text of bulk at most 1048576, the program's Scan and the document's answer the same records and the same number of bytes, twice; and the list that comes out is the caller's: what is written into it, and behind it, changes nothing of a later answer.
-/
import Derived.Test.YteoacdkgicfomaaRows
import Derived.Test.YteoacdkgicfomaaT2
import Derived.Test.YteoacdkgicfomaaT3
import Derived.Test.YteoacdkgicfomaaT4
import Derived.ProofKit
import Derived.OpenShut
import Derived.ShutString
import Derived.ChangeOld
import Derived.Below
import Derived.JoinedCond
namespace Go.Proofs.Yteoacdkgicfomaa
open Go.ChangeShapes Go.WideShapes Go.ChangeAt Go.RowKit
open Go.ChangeMaps (open_string shut_string)
open Rl

namespace ScansLaw

theorem own : ownKnob Try.prog.godebug = none := by kernel_rfl

theorem outer_any (b : ByteArray) (w : World) (hs : b.size ≤ 1048576) :
    Calls Try.prog 28 #[.string b] w fun e w' => Scanned b w e w' := by
  have h := fun wx => scan_of (fun s wx hs => first_any s wx hs) b wx (by omega)
  unfold Scanned at h ⊢
  go_enter Try.func28, Try.ntmps28
  go_wp2_with (go_at_call 48; refine (h _).mono ?_; rintro e w' ⟨v, rfl, ho, hb, h1, h2⟩)
  go_ret2
  exact ⟨v, rfl, ho, hb, h1, h2⟩

theorem walk (b : ByteArray) (w : World) (hs : b.size ≤ 1048576) :
    Calls Try.prog 8 #[.string b] w fun e w' => e = .returned (.bool true) ∧ Below w.heap.size w w' :=
  scans_walk b w hs (fun wx => outer_any b wx hs) (fun wx => scanRef_of (fun s wx hs => firstRef_any s wx hs) b wx (by omega))

set_option maxRecDepth 100000 in
theorem contract (H : Type) (enc : TypeId × Value → H) (W : World) (base : Nat) (args : Array Value) (ds gs : List (DataW H)) (before : List MemPlace)
    (hval0 : ∀ (j : Nat) t v, Try.f8.params[j]? = some t → args[j]? = some v → Value.okWide Try.prog W .any base t v)
    (hW : DataW.Whole enc Try.prog Try.f8.params.toList Rows.scansSpec.vars false W args.toList ds gs before) (hk : Rows.uptoSmall H (ds ++ gs) = true) :
    Calls Try.prog 8 args W fun e W' => ∃ v, e = .returned v ∧ Rows.scansSpec.post enc Try.prog Try.f8 false true false false W args v W' := by
  have hval : ∀ (j : Nat) t v, Try.f8.params[j]? = some t → args[j]? = some v → Value.okWide Try.prog W .any base t v := hval0
  have hW' := hW
  obtain ⟨p, q, hA0, hV, rfl, hfz, hnd⟩ := hW
  have hA : DataW.TrodAll enc Try.prog W 0 (fun _ => true) true Try.f8.params.toList args.toList ds p := hA0
  rw [Try.params8] at hA hval
  obtain ⟨v0, vs0, d0, ds0, p0, q0, hargs, rfl, rfl, h0, r0⟩ := trodAll_cons hA
  obtain ⟨rfl, rfl, rfl⟩ := trodAll_nil r0
  obtain rfl : args = #[v0] := by cases args; simp_all
  obtain ⟨rfl, rfl⟩ := trodVars_none hV
  obtain ⟨s, rfl, rfl, rfl, ws⟩ := open_string Try.underlying9 (hval 0 9 v0 rfl rfl) h0
  have hb := bulk_bound hk
  obtain ⟨hs, _⟩ := bulk_string _ _ hb
  have hs' : s.size ≤ 1048576 := by rw [len_data] at hs; exact hs
  clear hA0
  refine (walk s W hs').mono fun e W' ⟨he, bel⟩ => ?_
  subst he
  exact ⟨_, rfl, _, _, _, [], _, [], hW', trodAll_mk1 (shut_bool Try.underlying4 _), (trodAll_cons_mk (shut_string Try.underlying9 ws) trodAll_mk0), rfl, bel.frame _, fun h => by cases h⟩

set_option maxRecDepth 100000 in
theorem lifted (os : Os) (started : os.Started) (H : Type) (enc : TypeId × Value → H) (F : Stop.Interp) :
    ReturnsInHanded {} Try.checked os 8 .any ((Rows.OpenSpec.upto Rows.scansSpec).pre6 enc Try.prog Try.f8 Rows.scansUptoRow.domain false) (((Rows.OpenSpec.upto Rows.scansSpec).at F).post enc Try.prog Try.f8 false true false false) := by
  refine returnsInHanded_of_cond (C := Try.checked) (s := Rows.OpenSpec.upto Rows.scansSpec) (k := Rows.uptoSmall) rfl own started (by kernel_rfl) Try.func8
    (OpenSpec.witness (enc := enc) (C := Try.checked) (s := Rows.OpenSpec.upto Rows.scansSpec) (k := Rows.uptoSmall) rfl false ⟨#[], #[.string ByteArray.empty], []⟩ 8 (by kernel_rfl) (by kernel_rfl) (by kernel_rfl) (by kernel_rfl)
      (x := ([.lit (.string [])], [], [])) (by kernel_rfl) rfl (by kernel_rfl)) ?_
  intro W base args ds gs before hval hW _ hk _
  exact contract H enc W base args ds gs before hval hW hk

theorem over : Rows.scansUptoRow.holds Try.pinned (Rows.OpenSpec.upto Rows.scansSpec) :=
  OpenClaim.holds_of_cond 8 Try.f8 rfl rfl rfl rfl rfl rfl rfl ⟨rfl, rfl, rfl, rfl, rfl⟩ rfl rfl rfl rfl rfl (by kernel_rfl) Try.func8 (by kernel_rfl)
    (of_decide_eq_true (by kernel_rfl)) (by unfold Func.isWrapper; rw [if_neg (by decide +kernel)]; exact ⟨rfl, rfl⟩)
    (fun os started H enc _ F => lifted os started H enc F)

end ScansLaw

theorem scans_holds : Rows.ScansUptoSaid := ScansLaw.over
#print axioms scans_holds
end Go.Proofs.Yteoacdkgicfomaa
