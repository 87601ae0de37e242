/-
  The program's disk, walked: Append.
-/
import Derived.Test.YthcnkbeognkjgaaGreatDoorDkMove
import Derived.Test.YthcnkbeognkjgaaGreatDoorDkAppend
namespace Go.Proofs.YthcnkbeognkjgaaGreatDoor
open Go.RowKit Go.Shelf Go.WideMaps
open Rl

theorem name_ok {a : ByteArray} (h : allOk [a] = true) : a.size ≤ 8 := by
  unfold allOk nameOk at h
  simp at h
  omega

set_option maxRecDepth 20000 in
set_option maxHeartbeats 4000000 in
theorem append_any (w : World) (S : Nat → Prop) (p b : Nat) (cv : ByteArray → Value) (m : DiskM) (h : IDisk w S p b cv m) (hm : m.files.length ≤ 4194304) (hu : usedF m.files ≤ 4194304) (hr0 : 0 ≤ m.room) (hr1 : m.room ≤ 9223372036854775807) (hl0 : -1 ≤ m.left) (hl1 : m.left ≤ 9223372036854775807)
    (name d : ByteArray) (hn : name.size ≤ 2097152) (hd : d.size ≤ 4194304) :
    Calls Tryz.prog 83 #[.pointer (some ⟨p, 0, none⟩), .string name, .string d] w fun e w' => e = .returned (.int .i64 (changeE m [name] (apE m d))) ∧ IBecomes S w w' p b (changeM m [name] (apE m d) (apM m name d)) := by
  obtain ⟨E, hE⟩ : ∃ E, E = changeE m [name] (apE m d) := ⟨_, rfl⟩
  obtain ⟨M, hM⟩ : ∃ M, M = changeM m [name] (apE m d) (apM m name d) := ⟨_, rfl⟩
  rw [← hE, ← hM]
  have HI := hide h
  have hS0 : ∀ j, w.heap.size ≤ j → ¬ S j := fun j hj hs => by have := h.lt j hs; omega
  clear h
  obtain ⟨c0, c1, c2, hz, hb0⟩ := three_vars w (.pointer (some ⟨p, 0, none⟩)) (.string name) (.string d) 53 9 9
  have hl2 : (apM m name d).left = m.left := by unfold apM; split <;> rfl
  have hen : Enters Tryz.prog 138 := enters_of Tryz.func138 (by kernel_rfl) rfl
  have hC : ∀ wx nv, Below (((w.alloc (.cells #[.pointer (some ⟨p, 0, none⟩)] 53)).alloc (.cells #[.string name] 9)).alloc (.cells #[.string d] 9)).heap.size (((w.alloc (.cells #[.pointer (some ⟨p, 0, none⟩)] 53)).alloc (.cells #[.string name] 9)).alloc (.cells #[.string d] 9)) wx → wx.ownsRow 0 9 1 nv [name].length (nms [name]) →
      Calls Tryz.prog 137 #[.pointer (some ⟨p, 0, none⟩), .func (.func 138) #[] #[.pointer (some ⟨w.heap.size + 1 + 1, 0, none⟩), .pointer (some ⟨w.heap.size, 0, none⟩), .pointer (some ⟨w.heap.size + 1, 0, none⟩)], nv] wx fun e w' => e = .returned (.int .i64 E) ∧ IBecomes S wx w' p b M := by
    intro wx nv hbx hnv
    have hbw := later_below hb0 hbx hb0.size
    rw [hE, hM]
    refine change_any wx S p b cv m (HI.out.later hbw) _ _ hen nv [name] (by simp) (rowAt_of_owns hnv) (fun s hs => by rw [List.mem_singleton] at hs; rw [hs]; exact hn) (apE m d) (apM m name d) hl2 hl0 hl1 (fun ha _ w1 hb1 => ?_)
    have hb01 := later_below hbx hb1 hbx.size
    exact append1_any w1 S p b cv m (HI.out.later (later_below hbw hb1 hbw.size)) hm hu hr0 hr1 name d (name_ok ha) hd _ _ _ ((hb01.cell (p := ⟨w.heap.size + 1 + 1, 0, none⟩) (by show w.heap.size + 1 + 1 < _; omega)).trans c2) ((hb01.cell (p := ⟨w.heap.size, 0, none⟩) (by show w.heap.size < _; omega)).trans c0) ((hb01.cell (p := ⟨w.heap.size + 1, 0, none⟩) (by show w.heap.size + 1 < _; omega)).trans c1) (by have := hb01.size; omega) (by have := hb01.size; omega) (by have := hb01.size; omega) (hS0 _ (by omega)) (hS0 _ (by omega)) (hS0 _ (by omega))
  clear hE hM
  have HC := hide hC
  clear hC
  go_enter Tryz.func83, Tryz.ntmps83
  have hro : ((((w.alloc (.cells #[.pointer (some ⟨p, 0, none⟩)] 53)).alloc (.cells #[.string name] 9)).alloc (.cells #[.string d] 9)).alloc (.cells #[.string name] 9)).ownsRow 0 9 1 (.slice (some ⟨w.heap.size + 1 + 1 + 1, 0, none⟩) 1 1) [name].length (nms [name]) := by
    have := one_name (((w.alloc (.cells #[.pointer (some ⟨p, 0, none⟩)] 53)).alloc (.cells #[.string name] 9)).alloc (.cells #[.string d] 9)) name
    rw [hz] at this
    exact this
  have hbn : Below (((w.alloc (.cells #[.pointer (some ⟨p, 0, none⟩)] 53)).alloc (.cells #[.string name] 9)).alloc (.cells #[.string d] 9)).heap.size (((w.alloc (.cells #[.pointer (some ⟨p, 0, none⟩)] 53)).alloc (.cells #[.string name] 9)).alloc (.cells #[.string d] 9)) ((((w.alloc (.cells #[.pointer (some ⟨p, 0, none⟩)] 53)).alloc (.cells #[.string name] 9)).alloc (.cells #[.string d] 9)).alloc (.cells #[.string name] 9)) := (Below.refl _ _).alloc (Nat.le_refl _) _
  go_wp2_with (go_at_call 137; refine (HC.out _ _ hbn hro).mono ?_; rintro e w6 ⟨rfl, hbe⟩)
  go_ret
  exact ⟨rfl, hbe.behind (later_below hb0 hbn hb0.size)⟩

end Go.Proofs.YthcnkbeognkjgaaGreatDoor
