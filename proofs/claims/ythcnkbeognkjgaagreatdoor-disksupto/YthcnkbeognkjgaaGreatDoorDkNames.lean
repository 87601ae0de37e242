/-
  The program's disk, walked: List.
-/
import Derived.Test.YthcnkbeognkjgaaGreatDoorDkLook
import Derived.Sort.OwnSorted
namespace Go.Proofs.YthcnkbeognkjgaaGreatDoor
open Go.RowKit Go.Shelf Go.WideMaps Go.Maps
open Rl
open Go.Proofs (encStr)

theorem sorted_names {l : List FileM} (ho : Ord l) {ss : List (List UInt8)} (h : ss.Perm (l.map fun f => f.name.data.toList)) : (ss.mergeSort fun x y => decide (x ≤ y)).map encStr = nms (l.map fun f => f.name) := by
  have e1 : (ss.mergeSort fun x y => decide (x ≤ y)) = (l.map fun f => f.name.data.toList).mergeSort fun x y => decide (x ≤ y) := mergeSort_of_perm h
  have e2 : ((l.map fun f => f.name.data.toList).mergeSort fun x y => decide (x ≤ y)) = l.map fun f => f.name.data.toList := by
    refine List.mergeSort_of_pairwise (List.pairwise_map.2 (ho.imp (fun {a b} hab => ?_)))
    rw [ltN_eq, decide_eq_true_eq] at hab
    simp only [decide_eq_true_eq]
    exact List.le_of_lt hab
  rw [e1, e2]
  unfold nms
  rw [List.map_map, List.map_map]
  rfl

theorem list_none (w : World) : Calls Tryz.prog 98 #[.pointer none] w fun e w' => e = .returned (.tuple #[.slice none 0 0, .int .i64 1]) ∧ Below w.heap.size w w' := by
  go_enter Tryz.func98, Tryz.ntmps98
  go_wp2
  go_ret2
  exact ⟨rfl, Below.refl _ _⟩

set_option maxRecDepth 20000 in
set_option maxHeartbeats 4000000 in
theorem list_any (w : World) (S : Nat → Prop) (p b : Nat) (cv : ByteArray → Value) (m : DiskM) (h : IDisk w S p b cv m) (hm : m.files.length ≤ 4194304) :
    Calls Tryz.prog 98 #[.pointer (some ⟨p, 0, none⟩)] w fun e w' => ∃ v, e = .returned (.tuple #[v, .int .i64 0]) ∧ w'.ownsRow w.heap.size 9 1 v m.files.length (nms (m.files.map fun f => f.name)) ∧ Below w.heap.size w w' := by
  obtain ⟨c0, c1, c2, f0, f1, f2, hl⟩ := h.box
  obtain ⟨D, n, hown, hD⟩ := h.map
  have hkeys := hD.keys h.ord hown
  have hcount := hD.count h.ord hown
  have HO := hide h.ord
  clear h hD
  have cK := fun mb W => (callsIn_wide (n := 5)).1 (Tryz.maps_Keys_148 mb W)
  have cS := (callsIn_wide (n := 5)).1 (Tryz.slices_Sorted_keys_147_148 b n D RFile w hown (by rw [hcount]; unfold maxLen; omega) (by rw [hcount]; omega))
  have HS := hide cS
  clear cS
  go_enter Tryz.func98, Tryz.ntmps98
  go_wp2_with (first
    | (go_at_call 148; refine (cK _ _).mono ?_; rintro e w' ⟨rfl, rfl⟩)
    | (go_at_call 147; refine HS.out.mono ?_; rintro e w' ⟨v, ss, rfl, hS, hrow, hnil, hb⟩))
  have hp := hS.trans hkeys.symm
  have hlen : ss.length = m.files.length := by rw [hp.length_eq, List.length_map]
  go_ret2
  refine ⟨v, rfl, ?_, ((Below.refl _ _).alloc (Nat.le_refl _) _).trans (hb.mono (by simp))⟩
  rw [← sorted_names HO.out hp, ← hlen]
  exact ownsRow_base_a hrow (by simp)

end Go.Proofs.YthcnkbeognkjgaaGreatDoor
