/-
  The program's disk, walked: a new one.
-/
import Derived.Test.YthcnkbeognkjgaaGreatDoorDkNames
namespace Go.Proofs.YthcnkbeognkjgaaGreatDoor
open Go.RowKit Go.Shelf Go.WideMaps Go.Maps
open Rl

set_option maxRecDepth 20000 in
set_option maxHeartbeats 4000000 in
theorem new_any (c : Int) (w : World) : Calls Tryz.prog 10 #[.int .i64 c] w fun e w' => ∃ p b, e = .returned (.pointer (some ⟨p, 0, none⟩)) ∧
    IDisk w' (fun k => w.heap.size ≤ k ∧ k < w'.heap.size) p b (fun _ => .slice none 0 0) ⟨max c 0, [], -1⟩ ∧ Below w.heap.size w w' := by
  have hmm := @run_makeMap Tryz.prog
  go_enter Tryz.func10, Tryz.ntmps10
  go_wp2
  have e : (w.alloc (.map #[] 0)).heap.size = w.heap.size + 1 := by simp
  have hbx := bx3_new (w.alloc (.map #[] 0)) (.int .i64 (max c 0)) (.map (some w.heap.size)) (.int .i64 (-1)) 86
  rw [e] at hbx
  have hmp := (World.ownsMap_made (H := Value) w Tryz.prog 9 RFile).alloc (.cells #[.int .i64 (max c 0), .map (some w.heap.size), .int .i64 (-1)] 86)
  go_ret
  refine ⟨_, w.heap.size, rfl, ⟨hbx, ⟨.map [], 0, hmp, fun _ _ => rfl⟩, (fun f hf => absurd hf (List.not_mem_nil)), ⟨by omega, by simp⟩, ⟨Nat.le_refl _, by simp; omega⟩, (fun f hf => absurd hf (List.not_mem_nil)), (fun f hf => absurd hf (List.not_mem_nil)), fun k hk => hk.2, List.Pairwise.nil, (fun f hf => absurd hf (List.not_mem_nil)), (fun f hf => absurd hf (List.not_mem_nil))⟩, ((Below.refl _ _).alloc (Nat.le_refl _) _).alloc (by rw [e]; omega) _⟩

end Go.Proofs.YthcnkbeognkjgaaGreatDoor
