/-
  Disks: every script of steps, of bulk at most 1048576, leaves the program's disk and the document's alike at each step: the answers, the errors, the texts, what every file holds and what of it is durable; and the script stays as it is.
-/
import Derived.Test.YthcnkbeognkjgaaGreatDoorT3
import Derived.Test.YthcnkbeognkjgaaGreatDoorGmFacts
import Derived.Test.YthcnkbeognkjgaaGreatDoorTie
import Derived.ProofKit
import Derived.OpenShut
import Derived.ChangeOld
import Derived.Below
import Derived.JoinedCond
import Derived.Deep.DeepHandedRow
import Derived.Deep.DeepWitnessRowRef
import Derived.Lib.LaidTab
namespace Go.Proofs.YthcnkbeognkjgaaGreatDoor
open Go.ChangeShapes Go.WideShapes Go.ChangeAt Go.RowKit
open Rl

namespace GmLaw

theorem own : ownKnob Tryz.prog.godebug = none := by kernel_rfl
theorem laidOut : laidOutB Tryz.prog = true := by kernel_rfl

set_option maxRecDepth 20000 in
theorem disks_any (w : World) (a : Option Addr) (c : Nat) (ops : List OpM) (hr : RowAt w (.slice a ops.length c) ops.length 7 (opCells ops)) (hgood : ∀ o ∈ ops, GoodOp w o) (hg : gSum ops ≤ 1048576) :
    Calls Tryz.prog 3 #[.slice a ops.length c] w fun e w' => e = .returned (.bool true) ∧ Below w.heap.size w w' := by
  have hcode : ops.length ≠ 0 → ∀ k, (Value.slice a ops.length c).ownBlock = some k → k < w.heap.size ∧ (11 : Nat) = 11 := by
    intro h0 k hk
    rcases hr.2 with ⟨_, _, _, e0⟩ | ⟨b, o, cap, e, _, hb, _⟩
    · exact absurd e0 h0
    · injection e with e1 e2 e3
      subst e1
      simp only [Value.ownBlock, Option.some.injEq] at hk
      subst hk
      exact ⟨hb, rfl⟩
  have hok : ∀ o ∈ ops, OkOp w (fun _ => 11) o := by
    intro o ho
    have h1 := gSum_mem ho
    have h2 := hgood o ho
    unfold gSize at h1
    refine ⟨by omega, by omega, h2.a0, h2.a1, h2.w0, h2.w1, h2.row, by omega, ?_⟩
    intro h0 k hk
    rcases h2.row.2 with ⟨_, _, _, e0⟩ | ⟨b, p, cap, e, _, hb, _⟩
    · exact absurd e0 h0
    · injection e with e1 e2 e3
      rw [e1] at hk
      simp only [Value.ownBlock, Option.some.injEq] at hk
      subst hk
      exact ⟨hb, rfl⟩
  have h1 := gSum_len ops
  have h2 := gSum_t ops
  have H := holds_any w (fun _ => 11) a c ops hr hcode (fun _ _ => rfl) hok (by omega) (by omega)
  go_enter Tryz.func3, Tryz.ntmps3
  go_wp2_with fail
  refine H.mono fun e w' ⟨he, hb⟩ => ?_
  subst he
  go_wp2_with fail
  all_goals go_ret
  all_goals exact ⟨rfl, hb⟩

set_option maxRecDepth 100000 in
theorem contract (H : Type) (enc : TypeId × Value → H) (W : World) (base : Nat) (args : Array Value) (ds gs : List (DataW H)) (before : List MemPlace)
    (hval0 : ∀ (j : Nat) t v, Tryz.f3.params[j]? = some t → args[j]? = some v → Value.okWide Tryz.prog W .any base t v)
    (hW : DataW.Whole enc Tryz.prog Tryz.f3.params.toList Rows.disksSpec.vars false W args.toList ds gs before) (hk : Rows.uptoSmall H (ds ++ gs) = true) :
    Calls Tryz.prog 3 args W fun e W' => ∃ v, e = .returned v ∧ Rows.disksSpec.post enc Tryz.prog Tryz.f3 false true false false W args v W' := by
  have hval : ∀ (j : Nat) t v, Tryz.f3.params[j]? = some t → args[j]? = some v → Value.okWide Tryz.prog W .any base t v := hval0
  have hW' := hW
  obtain ⟨p, q, hA0, hV, rfl, hfz, hnd⟩ := hW
  have hA : DataW.TrodAll enc Tryz.prog W 0 (fun _ => true) true Tryz.f3.params.toList args.toList ds p := hA0
  rw [Tryz.params3] at hA hval
  obtain ⟨v0, vs0, d0, ds0, p0, q0, hargs, rfl, rfl, h0, r0⟩ := trodAll_cons hA
  obtain ⟨rfl, rfl, rfl⟩ := trodAll_nil r0
  obtain rfl : args = #[v0] := by cases args; simp_all
  obtain ⟨rfl, rfl⟩ := trodVars_none hV
  obtain ⟨a, len, c, rfl⟩ := okWide_slice Tryz.underlying22 (hval 0 22 v0 rfl rfl)
  have k0 := h0
  have lt0 : ∀ x ∈ p0, x.block < W.heap.size := by obtain ⟨m, hm⟩ := k0; exact DataW.trod_lt m _ _ _ hm
  obtain ⟨fuel, hf⟩ := h0
  obtain ⟨ops, rfl, hr, hgood, hg⟩ := opened_ops hf
  have hb := of_decide_eq_true (show decide (Rows.uptoBulkAll _ ≤ 1048576) = true from hk)
  have hg' : gSum ops ≤ 1048576 := by
    simp only [List.append_nil, Rows.uptoBulkAll] at hb
    simp only at hg
    omega
  clear hA0
  refine (disks_any W a c ops hr hgood hg').mono fun e W' ⟨he, bel⟩ => ?_
  subst he
  exact ⟨_, rfl, _, _, _, [], _, [], hW', trodAll_mk1 (shut_bool Tryz.underlying4 _), (trodAll_cons_mk (Below.trod laidOut (by kernel_rfl) (of_decide_eq_true (by kernel_rfl)) k0 bel lt0) trodAll_mk0), rfl, bel.frame _, fun h => by cases h⟩

/-! ### One start that fits -/
abbrev rangeS : ByteArray := { data := #[118, 97, 108, 117, 101, 32, 111, 117, 116, 32, 111, 102, 32, 114, 97, 110, 103, 101] }
abbrev syntaxS : ByteArray := { data := #[105, 110, 118, 97, 108, 105, 100, 32, 115, 121, 110, 116, 97, 120] }
noncomputable def low : Nat := (World.holding Tryz.prog default ⟨#[], #[], []⟩).heap.size
def tab32 : Array Value := (#[0, 1, 28, 2, 29, 14, 24, 3, 30, 22, 20, 15, 25, 17, 4, 8, 31, 27, 13, 23, 21, 19, 16, 7, 26, 12, 18, 6, 11, 5, 10, 9] : Array Int).map (Value.int .u8)
def tab64 : Array Value := (#[0, 1, 56, 2, 57, 49, 28, 3, 61, 58, 42, 50, 38, 29, 17, 4, 62, 47, 59, 36, 45, 43, 51, 22, 53, 39, 33, 30, 24, 18, 12, 5, 63, 55, 48, 27, 60, 41, 37, 16, 46, 35, 44, 21, 52, 32, 23, 11, 54, 26, 40, 15, 34, 20, 31, 10, 25, 14, 19, 9, 13, 8, 7, 6] : Array Int).map (Value.int .u8)
def tab10 : Array Value := ((List.range 20).map fun i => Value.int .u64 (10 ^ i : Nat)).toArray
noncomputable def laidWorld (os : Os) : World :=
  let w0 := World.holding Tryz.prog os ⟨#[.cells #[.string rangeS] 374, .cells #[.string syntaxS] 374], #[], []⟩
  let put (h : Array Obj) (g : Nat) (cs : Array Value) : Array Obj := h.modify g fun
    | .cells _ t frozen => .cells cs t frozen
    | o => o
  { w0 with heap := put (put (put (put (put w0.heap 0 #[.iface 372 (.pointer (some ⟨low + 1, 0, none⟩))]) 1 #[.iface 372 (.pointer (some ⟨low, 0, none⟩))]) 3 tab10) 4 tab32) 5 tab64 }
theorem laid_met (os : Os) : laidMet Tryz.prog Rows.disksUptoRow.laid ((laidWorld os).forCall (fun _ _ => 0) ⟨#[], #[.slice none 0 0], []⟩).memory :=
  laidMet_of_run' 8 (by kernel_rfl) (by kernel_rfl)
theorem reads (os : Os) {H : Type} (enc : TypeId × Value → H) : ∃ places, DataW.whole enc Tryz.prog ((laidWorld os).forCall (fun _ _ => 0) ⟨#[], #[.slice none 0 0], []⟩).memory Tryz.f3.params.toList Rows.disksSpec.vars false #[Value.slice none 0 0].toList 8 = some ([.nil], [], places) :=
  ⟨[], by kernel_rfl⟩

set_option maxRecDepth 100000 in
theorem lifted (os : Os) (started : os.Started) (H : Type) (enc : TypeId × Value → H) (F : Stop.Interp) :
    ReturnsInHanded {} Tryz.checked os 3 .any ((Rows.OpenSpec.upto Rows.disksSpec).preRow enc Tryz.prog Tryz.f3 Rows.disksUptoRow.domain false Rows.disksUptoRow.laid) (((Rows.OpenSpec.upto Rows.disksSpec).at F).post enc Tryz.prog Tryz.f3 false true false false) := by
  obtain ⟨places, hx⟩ := reads os enc
  refine returnsInHanded_of_row (C := Tryz.checked) (s := Rows.OpenSpec.upto Rows.disksSpec) own started (by kernel_rfl) Tryz.func3
    (witness_row_at (enc := enc) (C := Tryz.checked) false (laidWorld os) #[.slice none 0 0] rfl (by kernel_rfl) (by kernel_rfl) (by kernel_rfl)
      (OpenSpec.preRow_of_cond 8 hx (by kernel_rfl) (fun k hk => by cases hk; kernel_rfl) (by kernel_rfl) (laid_met os))) ?_
  intro W base args ds gs before hval hW _ hcond _ _ _ _
  exact contract H enc W base args ds gs before hval hW (hcond _ rfl)

theorem inst : Tryz.f3.isInstance Tryz.prog loneRow.origin loneRow.targs := of_decide_eq_true (by kernel_rfl)
theorem wrap : Tryz.f3.isWrapper Tryz.prog loneRow.wrapper loneRow.mainSum := by unfold Func.isWrapper; first | (rw [if_pos (by decide +kernel)]; kernel_rfl) | (rw [if_neg (by decide +kernel)]; exact ⟨rfl, rfl⟩)
theorem pre_eq (H : Type) (enc : TypeId × Value → H) : loneRow.pre enc Tryz.prog Tryz.f3 (Rows.OpenSpec.upto Rows.disksSpec) = (Rows.OpenSpec.upto Rows.disksSpec).preRow enc Tryz.prog Tryz.f3 Rows.disksUptoRow.domain false Rows.disksUptoRow.laid := by
  rw [OpenClaim.pre_eq_preRow]; rfl
theorem named : Tryz.prog.funcNamed loneRow.func = some 3 := by kernel_rfl

theorem lone : loneRow.holds Tryz.pinned (Rows.OpenSpec.upto Rows.disksSpec) :=
  OpenClaim.holds_of_cond 3 Tryz.f3 rfl rfl rfl rfl rfl rfl rfl ⟨rfl, rfl, rfl, rfl, rfl⟩ rfl rfl rfl rfl rfl named Tryz.func3 facts
    inst wrap
    (fun os started H enc _ F => by show ReturnsInHanded {} _ _ _ _ (loneRow.pre enc Tryz.prog Tryz.f3 (Rows.OpenSpec.upto Rows.disksSpec)) _; rw [pre_eq]; exact lifted os started H enc F)

theorem wf : Rows.disksUptoRow.wf (Rows.OpenSpec.upto Rows.disksSpec) = true := by kernel_rfl
theorem saidUpto : Rows.DisksUptoSaid := leaving_of_lone rfl rfl rfl wf lone

theorem plain (f : FuncId) (fn : Func) (hf : Tryz.pinned.checked.prog.funcNamed "routelog/routeloglaw.Disks" = some f) (hfn : Tryz.pinned.checked.prog.funcs[f]? = some fn) :
    true = Tryz.pinned.checked.prog.looks [] ∧ ∀ (j : Nat) t, fn.params[j]? = some t → Tryz.pinned.checked.prog.wantsStandIn t = false := by
  obtain rfl : f = 3 := Option.some.inj ((show Tryz.prog.funcNamed "routelog/routeloglaw.Disks" = some 3 by kernel_rfl).symm.trans hf) |>.symm
  obtain rfl : fn = Tryz.f3 := (Option.some.inj (Tryz.func3.symm.trans hfn)).symm
  refine ⟨by kernel_rfl, fun j t ht => ?_⟩
  rw [Tryz.params3] at ht
  obtain rfl : t = 22 := by simpa using Array.mem_of_getElem? ht
  exact (show Tryz.prog.wantsStandIn 22 = false by kernel_rfl)

theorem card : Rows.DisksUptoCardSaid :=
  tied_goes .later _ _ _ _ saidUpto (by kernel_rfl) disksUpto_row_tie rfl ⟨rfl, rfl⟩ (by kernel_rfl) (by rfl) plain goes.symm

end GmLaw

theorem disks_holds : Rows.DisksUptoCardSaid := GmLaw.card
#print axioms disks_holds
end Go.Proofs.YthcnkbeognkjgaaGreatDoor
