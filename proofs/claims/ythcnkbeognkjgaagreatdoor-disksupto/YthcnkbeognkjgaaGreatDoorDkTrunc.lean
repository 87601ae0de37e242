/-
  The program's disk, walked: Truncate.
-/
import Derived.Test.YthcnkbeognkjgaaGreatDoorDkSync
namespace Go.Proofs.YthcnkbeognkjgaaGreatDoor
open Go.RowKit Go.Shelf Go.WideMaps
open Rl


set_option maxRecDepth 20000 in
set_option maxHeartbeats 4000000 in
theorem truncate_any (w : World) (S : Nat → Prop) (p b : Nat) (cv : ByteArray → Value) (m : DiskM) (h : IDisk w S p b cv m) (hm : m.files.length ≤ 4194304) (hu : usedF m.files ≤ 4194304) (hl0 : -1 ≤ m.left) (hl1 : m.left ≤ 9223372036854775807) (name : ByteArray) (hn : name.size ≤ 2097152) (n : Int) :
    Calls Tryz.prog 94 #[.pointer (some ⟨p, 0, none⟩), .string name, .int .i64 n] w fun e w' => e = .returned (.int .i64 (changeE m [name] (fileE m name (truncE m name n)))) ∧ IBecomes S w w' p b (changeM m [name] (fileE m name (truncE m name n)) (fileM m name (truncM m name n))) := by
  obtain ⟨E, hE⟩ : ∃ E, E = changeE m [name] (fileE m name (truncE m name n)) := ⟨_, rfl⟩
  obtain ⟨M, hM⟩ : ∃ M, M = changeM m [name] (fileE m name (truncE m name n)) (fileM m name (truncM m name n)) := ⟨_, rfl⟩
  rw [← hE, ← hM]
  have HI := hide h
  have hS0 : ∀ j, w.heap.size ≤ j → ¬ S j := fun j hj hs => by have := h.lt j hs; omega
  clear h
  obtain ⟨c0, c1, c2, hz, hb0⟩ := three_vars w (.pointer (some ⟨p, 0, none⟩)) (.string name) (.int .i64 n) 53 9 3
  have hl2 : (truncM m name n).left = m.left := by unfold truncM; split; split <;> rfl; rfl
  have hen : Enters Tryz.prog 145 := enters_of Tryz.func145 (by kernel_rfl) rfl
  have hC : ∀ wx, Below (((w.alloc (.cells #[.pointer (some ⟨p, 0, none⟩)] 53)).alloc (.cells #[.string name] 9)).alloc (.cells #[.int .i64 n] 3)).heap.size (((w.alloc (.cells #[.pointer (some ⟨p, 0, none⟩)] 53)).alloc (.cells #[.string name] 9)).alloc (.cells #[.int .i64 n] 3)) wx →
      Calls Tryz.prog 141 #[.pointer (some ⟨p, 0, none⟩), .func (.func 145) #[] #[.pointer (some ⟨w.heap.size + 1 + 1, 0, none⟩), .pointer (some ⟨w.heap.size, 0, none⟩), .pointer (some ⟨w.heap.size + 1, 0, none⟩)], .string name, .slice none 0 0] wx fun e w' => e = .returned (.int .i64 E) ∧ IBecomes S wx w' p b M := by
    intro wx hbx
    have hbw := later_below hb0 hbx hb0.size
    rw [hE, hM]
    refine changeFile_any wx S p b cv m (HI.out.later hbw) name hn _ _ hen (.slice none 0 0) [] (by simp) (World.ownsRow_nil _ _ _ _) (.inl rfl) (fun _ hs => by cases hs) (truncE m name n) (truncM m name n) hl2 hl0 hl1 (fun _ f hf w1 hb1 => ?_)
    obtain ⟨hfm, hfn⟩ := lookF_spec hf
    have hb01 := later_below hbx hb1 hbx.size
    have e1 : truncE m name n = (if n < 0 ∨ (f.data.size : Int) < n then 5 else 0) := by unfold truncE; rw [hf]
    have e2 : truncM m name n = (if n < 0 ∨ (f.data.size : Int) < n then m else { m with files := setF (truncF f n.toNat) m.files }) := by unfold truncM; rw [hf]
    rw [e1, e2]
    subst hfn
    exact trunc1_any w1 S p b cv m (HI.out.later (later_below hbw hb1 hbw.size)) hm f hfm (Nat.le_trans (usedF_mem' hfm) hu) _ _ _ n ((hb01.cell (p := ⟨w.heap.size + 1 + 1, 0, none⟩) (by show w.heap.size + 1 + 1 < _; omega)).trans c2) ((hb01.cell (p := ⟨w.heap.size, 0, none⟩) (by show w.heap.size < _; omega)).trans c0) ((hb01.cell (p := ⟨w.heap.size + 1, 0, none⟩) (by show w.heap.size + 1 < _; omega)).trans c1) (by have := hb01.size; omega) (by have := hb01.size; omega) (by have := hb01.size; omega) (hS0 _ (by omega)) (hS0 _ (by omega)) (hS0 _ (by omega))
  clear hE hM
  have HC := hide hC
  clear hC
  go_enter Tryz.func94, Tryz.ntmps94
  go_wp2_with (go_at_call 141; refine (HC.out _ (Below.refl _ _)).mono ?_; rintro e w6 ⟨rfl, hbe⟩)
  go_ret
  exact ⟨rfl, hbe.behind hb0⟩


end Go.Proofs.YthcnkbeognkjgaaGreatDoor
