/-
  Package routelog's disk: Crash.
-/
import Derived.Test.YthcnkbeognkjgaaGreatDoorDkNil
import Derived.Test.YthcnkbeognkjgaaGreatDoorDkCrash
namespace Go.Proofs.YthcnkbeognkjgaaGreatDoor
open Go.RowKit Go.Shelf Go.WideMaps Go.Maps
open Rl

set_option maxHeartbeats 1000000 in
theorem p_crash (w : World) (S : Nat → Prop) (q : Nat) (m : DiskM) (h : PDisk w S q m) (hm : m.files.length ≤ 4194304) (hu : usedF m.files ≤ 4194304) (kv : Value) (keep : List Int) (hk : RowAt w kv keep.length 1 (ints keep)) (hkl : keep.length ≤ 4194304) (hks : ∀ k, kv.ownBlock = some k → ¬ S k) :
    Calls Tryz.prog 39 #[.pointer (some ⟨q, 0, none⟩), kv] w fun e w' => e = .returned (.int .i64 0) ∧ PBecomes S w w' q (crashM m keep) := by
  obtain ⟨p, b, cv, c, hi⟩ := h.inner
  have hc := crash_any w _ p b cv m hi hm hu kv keep hk hkl (fun k hk x => hks k hk x.1)
  have HD := hide h
  have hf := files_any w q p c
  clear h hi
  go_enter Tryz.func39, Tryz.ntmps39
  go_wp2_with (first | (go_at_call 48; refine hf.mono ?_; rintro e w' ⟨rfl, hw⟩; rw [hw]; clear hw w') | (go_at_call 96; refine hc.mono ?_; rintro e w1 ⟨rfl, hbe⟩))
  go_ret
  exact ⟨rfl, pbecomes HD.out c hbe⟩

end Go.Proofs.YthcnkbeognkjgaaGreatDoor
