/-
  The program's disk, walked: Rename.
-/
import Derived.Test.YthcnkbeognkjgaaGreatDoorDkSync
namespace Go.Proofs.YthcnkbeognkjgaaGreatDoor
open Go.RowKit Go.Shelf Go.WideMaps
open Rl


theorem renameM_some {m : DiskM} {name : ByteArray} {f : FileM} (tn : ByteArray) (h : lookF name m.files = some f) : ∃ k, ∃ hk : k < m.files.length, m.files[k] = f ∧ renameM m name tn = { m with files := setF (namedF f tn) (m.files.eraseIdx k) } := by
  cases hp : placeF name m.files with
  | none => rw [lookF_none hp] at h; cases h
  | some k =>
    obtain ⟨hk, h2, _⟩ := lookF_some hp
    rw [h] at h2
    injection h2 with h2
    exact ⟨k, hk, h2.symm, by unfold renameM; rw [hp, h]⟩

/-- a row of one name, as a call with one more argument lays it. -/
theorem one_name (w : World) (s : ByteArray) : (w.alloc (.cells #[.string s] 9)).ownsRow 0 9 1 (.slice (some ⟨w.heap.size, 0, none⟩) 1 1) [s].length (nms [s]) :=
  ⟨rfl, .inr ⟨w.heap.size, 1, #[.string s], rfl, Nat.zero_le _, heap_alloc_new w _, Nat.le_refl _, by decide, rfl, rfl⟩⟩

theorem names_ok {a b : ByteArray} (h : allOk ([a] ++ [b]) = true) : a.size ≤ 8 := by
  unfold allOk nameOk at h
  simp at h
  omega

set_option maxRecDepth 20000 in
set_option maxHeartbeats 4000000 in
theorem rename_any (w : World) (S : Nat → Prop) (p b : Nat) (cv : ByteArray → Value) (m : DiskM) (h : IDisk w S p b cv m) (hm : m.files.length ≤ 4194304) (_hu : usedF m.files ≤ 4194304) (hl0 : -1 ≤ m.left) (hl1 : m.left ≤ 9223372036854775807) (name tn : ByteArray) (hn : name.size ≤ 2097152) (ht : tn.size ≤ 2097152) :
    Calls Tryz.prog 90 #[.pointer (some ⟨p, 0, none⟩), .string name, .string tn] w fun e w' => e = .returned (.int .i64 (changeE m [tn, name] (fileE m name 0))) ∧ IBecomes S w w' p b (changeM m [tn, name] (fileE m name 0) (fileM m name (renameM m name tn))) := by
  obtain ⟨E, hE⟩ : ∃ E, E = changeE m [tn, name] (fileE m name 0) := ⟨_, rfl⟩
  obtain ⟨M, hM⟩ : ∃ M, M = changeM m [tn, name] (fileE m name 0) (fileM m name (renameM m name tn)) := ⟨_, rfl⟩
  rw [← hE, ← hM]
  have HI := hide h
  have hS0 : ∀ j, w.heap.size ≤ j → ¬ S j := fun j hj hs => by have := h.lt j hs; omega
  clear h
  obtain ⟨c0, c1, c2, hz, hb0⟩ := three_vars w (.pointer (some ⟨p, 0, none⟩)) (.string name) (.string tn) 53 9 9
  have hl2 : (renameM m name tn).left = m.left := by unfold renameM; split <;> rfl
  have hen : Enters Tryz.prog 143 := enters_of Tryz.func143 (by kernel_rfl) rfl
  have hC : ∀ wx nv, Below (((w.alloc (.cells #[.pointer (some ⟨p, 0, none⟩)] 53)).alloc (.cells #[.string name] 9)).alloc (.cells #[.string tn] 9)).heap.size (((w.alloc (.cells #[.pointer (some ⟨p, 0, none⟩)] 53)).alloc (.cells #[.string name] 9)).alloc (.cells #[.string tn] 9)) wx → wx.ownsRow 0 9 1 nv [tn].length (nms [tn]) → NoRoom nv [tn].length →
      Calls Tryz.prog 141 #[.pointer (some ⟨p, 0, none⟩), .func (.func 143) #[] #[.pointer (some ⟨w.heap.size, 0, none⟩), .pointer (some ⟨w.heap.size + 1, 0, none⟩), .pointer (some ⟨w.heap.size + 1 + 1, 0, none⟩)], .string name, nv] wx fun e w' => e = .returned (.int .i64 E) ∧ IBecomes S wx w' p b M := by
    intro wx nv hbx hnv hno
    have hbw := later_below hb0 hbx hb0.size
    rw [hE, hM]
    refine changeFile_any wx S p b cv m (HI.out.later hbw) name hn _ _ hen nv [tn] (by simp) hnv hno (fun s hs => by rw [List.mem_singleton] at hs; rw [hs]; exact ht) 0 (renameM m name tn) hl2 hl0 hl1 (fun ha f hf w1 hb1 => ?_)
    obtain ⟨k, hk, hkf, e⟩ := renameM_some tn hf
    have hb01 := later_below hbx hb1 hbx.size
    have hn8 := names_ok ha
    rw [e]
    subst hkf
    have hfn := (lookF_spec hf).2
    subst hfn
    exact rename1_any w1 S p b cv m (HI.out.later (later_below hbw hb1 hbw.size)) hm k hk tn hn8 _ _ _ ((hb01.cell (p := ⟨w.heap.size, 0, none⟩) (by show w.heap.size < _; omega)).trans c0) ((hb01.cell (p := ⟨w.heap.size + 1, 0, none⟩) (by show w.heap.size + 1 < _; omega)).trans c1) ((hb01.cell (p := ⟨w.heap.size + 1 + 1, 0, none⟩) (by show w.heap.size + 1 + 1 < _; omega)).trans c2) (by have := hb01.size; omega) (by have := hb01.size; omega) (by have := hb01.size; omega)
  clear hE hM
  have HC := hide hC
  clear hC
  go_enter Tryz.func90, Tryz.ntmps90
  have hro : ((((w.alloc (.cells #[.pointer (some ⟨p, 0, none⟩)] 53)).alloc (.cells #[.string name] 9)).alloc (.cells #[.string tn] 9)).alloc (.cells #[.string tn] 9)).ownsRow 0 9 1 (.slice (some ⟨w.heap.size + 1 + 1 + 1, 0, none⟩) 1 1) [tn].length (nms [tn]) := by
    have := one_name (((w.alloc (.cells #[.pointer (some ⟨p, 0, none⟩)] 53)).alloc (.cells #[.string name] 9)).alloc (.cells #[.string tn] 9)) tn
    rw [hz] at this
    exact this
  have hbn : Below (((w.alloc (.cells #[.pointer (some ⟨p, 0, none⟩)] 53)).alloc (.cells #[.string name] 9)).alloc (.cells #[.string tn] 9)).heap.size (((w.alloc (.cells #[.pointer (some ⟨p, 0, none⟩)] 53)).alloc (.cells #[.string name] 9)).alloc (.cells #[.string tn] 9)) ((((w.alloc (.cells #[.pointer (some ⟨p, 0, none⟩)] 53)).alloc (.cells #[.string name] 9)).alloc (.cells #[.string tn] 9)).alloc (.cells #[.string tn] 9)) := (Below.refl _ _).alloc (Nat.le_refl _) _
  go_wp2_with (go_at_call 141; refine (HC.out _ _ hbn hro (.inr ⟨_, rfl⟩)).mono ?_; rintro e w6 ⟨rfl, hbe⟩)
  go_ret
  exact ⟨rfl, hbe.behind (later_below hb0 hbn hb0.size)⟩

end Go.Proofs.YthcnkbeognkjgaaGreatDoor
