/-
  The program's disk, walked: Sync and Delete.
-/
import Derived.Test.YthcnkbeognkjgaaGreatDoorDkRename
namespace Go.Proofs.YthcnkbeognkjgaaGreatDoor
open Go.RowKit Go.Shelf Go.WideMaps
open Rl



theorem deleteM_some {m : DiskM} {name : ByteArray} {f : FileM} (h : lookF name m.files = some f) : ∃ k, ∃ hk : k < m.files.length, m.files[k].name = name ∧ deleteM m name = { m with files := m.files.eraseIdx k } := by
  cases hp : placeF name m.files with
  | none => rw [lookF_none hp] at h; cases h
  | some k =>
    obtain ⟨hk, _, hn⟩ := lookF_some hp
    exact ⟨k, hk, hn, by unfold deleteM; rw [hp]⟩

theorem usedF_mem' {l : List FileM} {f : FileM} (h : f ∈ l) : f.data.size ≤ usedF l := by
  induction l with
  | nil => cases h
  | cons a r ih =>
    unfold usedF
    rcases List.mem_cons.1 h with rfl | h
    · omega
    · have := ih h; omega

/-- two variables of one cell each, one behind the other. -/
theorem two_vars (w : World) (a b : Value) (T1 T2 : TypeId) :
    ((w.alloc (.cells #[a] T1)).alloc (.cells #[b] T2)).cell? ⟨w.heap.size, 0, none⟩ = some a ∧ ((w.alloc (.cells #[a] T1)).alloc (.cells #[b] T2)).cell? ⟨w.heap.size + 1, 0, none⟩ = some b ∧
      ((w.alloc (.cells #[a] T1)).alloc (.cells #[b] T2)).heap.size = w.heap.size + 1 + 1 ∧ Below w.heap.size w ((w.alloc (.cells #[a] T1)).alloc (.cells #[b] T2)) := by
  have s1 : (w.alloc (.cells #[a] T1)).heap.size = w.heap.size + 1 := by simp
  have h0 : (w.alloc (.cells #[a] T1)).cell? ⟨w.heap.size, 0, none⟩ = some a := by simp
  have h1 : ((w.alloc (.cells #[a] T1)).alloc (.cells #[b] T2)).cell? ⟨(w.alloc (.cells #[a] T1)).heap.size, 0, none⟩ = some b := new_cell _ _ _
  rw [s1] at h1
  have b1 : Below (w.alloc (.cells #[a] T1)).heap.size (w.alloc (.cells #[a] T1)) ((w.alloc (.cells #[a] T1)).alloc (.cells #[b] T2)) := (Below.refl _ _).alloc (Nat.le_refl _) _
  exact ⟨(b1.cell (p := ⟨w.heap.size, 0, none⟩) (by rw [s1]; exact Nat.lt_succ_self _)).trans h0, h1, by simp, ((Below.refl _ _).alloc (Nat.le_refl _) _).alloc (by rw [s1]; omega) _⟩

set_option maxRecDepth 20000 in
set_option maxHeartbeats 4000000 in
theorem sync_any (w : World) (S : Nat → Prop) (p b : Nat) (cv : ByteArray → Value) (m : DiskM) (h : IDisk w S p b cv m) (hm : m.files.length ≤ 4194304) (hu : usedF m.files ≤ 4194304) (hl0 : -1 ≤ m.left) (hl1 : m.left ≤ 9223372036854775807) (name : ByteArray) (hn : name.size ≤ 2097152) :
    Calls Tryz.prog 89 #[.pointer (some ⟨p, 0, none⟩), .string name] w fun e w' => e = .returned (.int .i64 (changeE m [name] (fileE m name 0))) ∧ IBecomes S w w' p b (changeM m [name] (fileE m name 0) (fileM m name (syncM m name))) := by
  obtain ⟨E, hE⟩ : ∃ E, E = changeE m [name] (fileE m name 0) := ⟨_, rfl⟩
  obtain ⟨M, hM⟩ : ∃ M, M = changeM m [name] (fileE m name 0) (fileM m name (syncM m name)) := ⟨_, rfl⟩
  rw [← hE, ← hM]
  have HI := hide h
  have hS0 : ∀ j, w.heap.size ≤ j → ¬ S j := fun j hj hs => by have := h.lt j hs; omega
  clear h
  obtain ⟨c0, c1, hz, hb0⟩ := two_vars w (.pointer (some ⟨p, 0, none⟩)) (.string name) 53 9
  have hl2 : (syncM m name).left = m.left := by unfold syncM; split <;> rfl
  have hen : Enters Tryz.prog 142 := enters_of Tryz.func142 (by kernel_rfl) rfl
  have hC : ∀ wx, Below ((w.alloc (.cells #[.pointer (some ⟨p, 0, none⟩)] 53)).alloc (.cells #[.string name] 9)).heap.size ((w.alloc (.cells #[.pointer (some ⟨p, 0, none⟩)] 53)).alloc (.cells #[.string name] 9)) wx →
      Calls Tryz.prog 141 #[.pointer (some ⟨p, 0, none⟩), .func (.func 142) #[] #[.pointer (some ⟨w.heap.size, 0, none⟩), .pointer (some ⟨w.heap.size + 1, 0, none⟩)], .string name, .slice none 0 0] wx fun e w' => e = .returned (.int .i64 E) ∧ IBecomes S wx w' p b M := by
    intro wx hbx
    have hbw := later_below hb0 hbx hb0.size
    rw [hE, hM]
    refine changeFile_any wx S p b cv m (HI.out.later hbw) name hn _ _ hen (.slice none 0 0) [] (by simp) (World.ownsRow_nil _ _ _ _) (.inl rfl) (fun _ hs => by cases hs) 0 (syncM m name) hl2 hl0 hl1 (fun _ f hf w1 hb1 => ?_)
    obtain ⟨hfm, hfn⟩ := lookF_spec hf
    have hb01 := later_below hbx hb1 hbx.size
    have e : syncM m name = { m with files := setF (syncF f) m.files } := by unfold syncM; rw [hf]
    rw [e]
    subst hfn
    exact sync1_any w1 S p b cv m (HI.out.later (later_below hbw hb1 hbw.size)) hm f hfm (Nat.le_trans (usedF_mem' hfm) hu) _ _ ((hb01.cell (p := ⟨w.heap.size, 0, none⟩) (by show w.heap.size < _; omega)).trans c0) ((hb01.cell (p := ⟨w.heap.size + 1, 0, none⟩) (by show w.heap.size + 1 < _; omega)).trans c1) (by have := hb01.size; omega) (by have := hb01.size; omega)
  clear hE hM
  have HC := hide hC
  clear hC
  go_enter Tryz.func89, Tryz.ntmps89
  go_wp2_with (go_at_call 141; refine (HC.out _ (Below.refl _ _)).mono ?_; rintro e w6 ⟨rfl, hbe⟩)
  go_ret
  exact ⟨rfl, hbe.behind hb0⟩

set_option maxRecDepth 20000 in
set_option maxHeartbeats 4000000 in
theorem delete_any (w : World) (S : Nat → Prop) (p b : Nat) (cv : ByteArray → Value) (m : DiskM) (h : IDisk w S p b cv m) (_hm : m.files.length ≤ 4194304) (_hu : usedF m.files ≤ 4194304) (hl0 : -1 ≤ m.left) (hl1 : m.left ≤ 9223372036854775807) (name : ByteArray) (hn : name.size ≤ 2097152) :
    Calls Tryz.prog 93 #[.pointer (some ⟨p, 0, none⟩), .string name] w fun e w' => e = .returned (.int .i64 (changeE m [name] (fileE m name 0))) ∧ IBecomes S w w' p b (changeM m [name] (fileE m name 0) (fileM m name (deleteM m name))) := by
  obtain ⟨E, hE⟩ : ∃ E, E = changeE m [name] (fileE m name 0) := ⟨_, rfl⟩
  obtain ⟨M, hM⟩ : ∃ M, M = changeM m [name] (fileE m name 0) (fileM m name (deleteM m name)) := ⟨_, rfl⟩
  rw [← hE, ← hM]
  have HI := hide h
  have hS0 : ∀ j, w.heap.size ≤ j → ¬ S j := fun j hj hs => by have := h.lt j hs; omega
  clear h
  obtain ⟨c0, c1, hz, hb0⟩ := two_vars w (.pointer (some ⟨p, 0, none⟩)) (.string name) 53 9
  have hl2 : (deleteM m name).left = m.left := by unfold deleteM; split <;> rfl
  have hen : Enters Tryz.prog 144 := enters_of Tryz.func144 (by kernel_rfl) rfl
  have hC : ∀ wx, Below ((w.alloc (.cells #[.pointer (some ⟨p, 0, none⟩)] 53)).alloc (.cells #[.string name] 9)).heap.size ((w.alloc (.cells #[.pointer (some ⟨p, 0, none⟩)] 53)).alloc (.cells #[.string name] 9)) wx →
      Calls Tryz.prog 141 #[.pointer (some ⟨p, 0, none⟩), .func (.func 144) #[] #[.pointer (some ⟨w.heap.size, 0, none⟩), .pointer (some ⟨w.heap.size + 1, 0, none⟩)], .string name, .slice none 0 0] wx fun e w' => e = .returned (.int .i64 E) ∧ IBecomes S wx w' p b M := by
    intro wx hbx
    have hbw := later_below hb0 hbx hb0.size
    rw [hE, hM]
    refine changeFile_any wx S p b cv m (HI.out.later hbw) name hn _ _ hen (.slice none 0 0) [] (by simp) (World.ownsRow_nil _ _ _ _) (.inl rfl) (fun _ hs => by cases hs) 0 (deleteM m name) hl2 hl0 hl1 (fun _ f hf w1 hb1 => ?_)
    obtain ⟨hfm, hfn⟩ := lookF_spec hf
    have hb01 := later_below hbx hb1 hbx.size
    obtain ⟨k, hk, hkn, e⟩ := deleteM_some hf
    rw [e]
    subst hfn
    obtain ⟨a, c, ev⟩ := slice_owned (HI.out.rows f hfm)
    rw [ev]
    exact delete1_any w1 S p b cv m (HI.out.later (later_below hbw hb1 hbw.size)) a f.data.size c _ k hk _ _ ((hb01.cell (p := ⟨w.heap.size, 0, none⟩) (by show w.heap.size < _; omega)).trans c0) (by rw [hkn]; exact (hb01.cell (p := ⟨w.heap.size + 1, 0, none⟩) (by show w.heap.size + 1 < _; omega)).trans c1) (by have := hb01.size; omega) (by have := hb01.size; omega)
  clear hE hM
  have HC := hide hC
  clear hC
  go_enter Tryz.func93, Tryz.ntmps93
  go_wp2_with (go_at_call 141; refine (HC.out _ (Below.refl _ _)).mono ?_; rintro e w6 ⟨rfl, hbe⟩)
  go_ret
  exact ⟨rfl, hbe.behind hb0⟩

end Go.Proofs.YthcnkbeognkjgaaGreatDoor
