/-
  A disk that is nil: each of its calls is refused, and nothing turns.
-/
import Derived.Test.YthcnkbeognkjgaaGreatDoorDkOuter
namespace Go.Proofs.YthcnkbeognkjgaaGreatDoor
open Go.RowKit Go.Shelf Go.WideMaps Go.Maps
open Rl

set_option maxRecDepth 20000 in
set_option maxHeartbeats 4000000 in
theorem changeFile_none (k : FuncId) (caps : Array Value) (w : World) (name : ByteArray) (nv : Value) (l : List ByteArray) (hx : l.length ≤ 1073741823) (hr : w.ownsRow 0 9 1 nv l.length (nms l)) (hno : NoRoom nv l.length) :
    Calls Tryz.prog 141 #[.pointer none, .func (.func k) #[] caps, .string name, nv] w fun e w' => e = .returned (.int .i64 1) ∧ Below w.heap.size w w' := by
  obtain ⟨c0, c1, c2, hz, hb0⟩ := three_vars w (.pointer none) (.func (.func k) #[] caps) (.string name) 53 198 9
  have hcn := fun fv nv wx => change_none fv nv wx
  go_enter Tryz.func141, Tryz.ntmps141
  go_wp2_with fail
  generalize (((w.alloc (.cells #[.pointer none] 53)).alloc (.cells #[.func (.func k) #[] caps] 198)).alloc (.cells #[.string name] 9)) = W0 at *
  have hr0 := owns_later hr hb0
  have hz2 : w.heap.size + 1 + 1 < W0.heap.size := by omega
  have hno2 := hide hno
  clear hno c1 hz
  go_region_held_law (fun w' => w'.cell? ⟨w.heap.size, 0, none⟩ = some (.pointer none) ∧ w'.cell? ⟨w.heap.size + 1 + 1, 0, none⟩ = some (.string name) ∧ w.heap.size + 1 + 1 < w'.heap.size)
    (first | assumption | (exact ⟨c0, c2, hz2⟩) | (exact keep3v (by assumption) (by assumption)) | (exact keep3v ⟨c0, c2, hz2⟩ ((Below.refl _ _).drew.alloc (Nat.le_refl _) _)))
    (first
      | (refine step_append_full rfl (.tmp 11) (.tmp 13) rfl nv l rfl (hr0.alloc _) hno2.out W0.heap.size name rfl (by simp) hx ?_; intro v5 w5 hown5 hb5)
      | (go_at_call 137; refine (hcn _ _ _).mono ?_; rintro e w6 ⟨rfl, hb6⟩))
  all_goals
    have hb05 : Below w.heap.size w w5 := later_below hb0 (((Below.refl _ _).drew.alloc (Nat.le_refl _) _).trans (hb5.mono (by simp))) hb0.size
    go_wp2
    go_ret
    exact ⟨rfl, later_below hb05 hb6 hb05.size⟩

theorem sync_none (name : ByteArray) (w : World) : Calls Tryz.prog 89 #[.pointer none, .string name] w fun e w' => e = .returned (.int .i64 1) ∧ Below w.heap.size w w' := by
  have hc := fun k caps wx => changeFile_none k caps wx name (.slice none 0 0) [] (by simp) (World.ownsRow_nil _ _ _ _) (.inl rfl)
  obtain ⟨_, _, _, hb0⟩ := two_vars w (.pointer none) (.string name) 53 9
  go_enter Tryz.func89, Tryz.ntmps89
  go_wp2_with (go_at_call 141; refine (hc _ _ _).mono ?_; rintro e w6 ⟨rfl, hb6⟩)
  go_ret
  exact ⟨rfl, later_below hb0 hb6 hb0.size⟩

theorem delete_none (name : ByteArray) (w : World) : Calls Tryz.prog 93 #[.pointer none, .string name] w fun e w' => e = .returned (.int .i64 1) ∧ Below w.heap.size w w' := by
  have hc := fun k caps wx => changeFile_none k caps wx name (.slice none 0 0) [] (by simp) (World.ownsRow_nil _ _ _ _) (.inl rfl)
  obtain ⟨_, _, _, hb0⟩ := two_vars w (.pointer none) (.string name) 53 9
  go_enter Tryz.func93, Tryz.ntmps93
  go_wp2_with (go_at_call 141; refine (hc _ _ _).mono ?_; rintro e w6 ⟨rfl, hb6⟩)
  go_ret
  exact ⟨rfl, later_below hb0 hb6 hb0.size⟩

theorem truncate_none (name : ByteArray) (n : Int) (w : World) : Calls Tryz.prog 94 #[.pointer none, .string name, .int .i64 n] w fun e w' => e = .returned (.int .i64 1) ∧ Below w.heap.size w w' := by
  have hc := fun k caps wx => changeFile_none k caps wx name (.slice none 0 0) [] (by simp) (World.ownsRow_nil _ _ _ _) (.inl rfl)
  obtain ⟨_, _, _, _, hb0⟩ := three_vars w (.pointer none) (.string name) (.int .i64 n) 53 9 3
  go_enter Tryz.func94, Tryz.ntmps94
  go_wp2_with (go_at_call 141; refine (hc _ _ _).mono ?_; rintro e w6 ⟨rfl, hb6⟩)
  go_ret
  exact ⟨rfl, later_below hb0 hb6 hb0.size⟩

theorem rename_none (name tn : ByteArray) (w : World) : Calls Tryz.prog 90 #[.pointer none, .string name, .string tn] w fun e w' => e = .returned (.int .i64 1) ∧ Below w.heap.size w w' := by
  have hc := fun k caps wx nv ho hn => changeFile_none k caps wx name nv [tn] (by simp) ho hn
  obtain ⟨_, _, _, hz, hb0⟩ := three_vars w (.pointer none) (.string name) (.string tn) 53 9 9
  have hro : ((((w.alloc (.cells #[.pointer none] 53)).alloc (.cells #[.string name] 9)).alloc (.cells #[.string tn] 9)).alloc (.cells #[.string tn] 9)).ownsRow 0 9 1 (.slice (some ⟨w.heap.size + 1 + 1 + 1, 0, none⟩) 1 1) [tn].length (nms [tn]) := by
    have := one_name (((w.alloc (.cells #[.pointer none] 53)).alloc (.cells #[.string name] 9)).alloc (.cells #[.string tn] 9)) tn
    rw [hz] at this
    exact this
  have hbn : Below (((w.alloc (.cells #[.pointer none] 53)).alloc (.cells #[.string name] 9)).alloc (.cells #[.string tn] 9)).heap.size (((w.alloc (.cells #[.pointer none] 53)).alloc (.cells #[.string name] 9)).alloc (.cells #[.string tn] 9)) ((((w.alloc (.cells #[.pointer none] 53)).alloc (.cells #[.string name] 9)).alloc (.cells #[.string tn] 9)).alloc (.cells #[.string tn] 9)) := (Below.refl _ _).alloc (Nat.le_refl _) _
  go_enter Tryz.func90, Tryz.ntmps90
  go_wp2_with (go_at_call 141; refine (hc _ _ _ _ hro (.inr ⟨_, rfl⟩)).mono ?_; rintro e w6 ⟨rfl, hb6⟩)
  go_ret
  have hb1 := later_below hb0 hbn hb0.size
  exact ⟨rfl, later_below hb1 hb6 hb1.size⟩

theorem append_none (name d : ByteArray) (w : World) : Calls Tryz.prog 83 #[.pointer none, .string name, .string d] w fun e w' => e = .returned (.int .i64 1) ∧ Below w.heap.size w w' := by
  have hc := fun fv nv wx => change_none fv nv wx
  obtain ⟨_, _, _, hz, hb0⟩ := three_vars w (.pointer none) (.string name) (.string d) 53 9 9
  go_enter Tryz.func83, Tryz.ntmps83
  go_wp2_with (go_at_call 137; refine (hc _ _ _).mono ?_; rintro e w6 ⟨rfl, hb6⟩)
  go_ret
  have hb1 := later_below hb0 ((Below.refl _ _).alloc (Nat.le_refl _) (.cells #[.string name] 9)) hb0.size
  exact ⟨rfl, later_below hb1 hb6 hb1.size⟩

theorem crash_none (kv : Value) (w : World) : Calls Tryz.prog 96 #[.pointer none, kv] w fun e w' => e = .returned (.int .i64 1) ∧ Below w.heap.size w w' := by
  have hc := fun wx => list_none wx
  go_enter Tryz.func96, Tryz.ntmps96
  go_wp2_with (go_at_call 98; refine (hc _).mono ?_; rintro e w6 ⟨rfl, hb6⟩)
  go_ret
  exact ⟨rfl, hb6⟩

theorem n_sync (name : ByteArray) (w : World) : Calls Tryz.prog 29 #[.pointer none, .string name] w fun e w' => e = .returned (.int .i64 1) ∧ Below w.heap.size w w' := by
  have hc := fun wx => sync_none name wx
  have hf := fun wx => files_none wx
  go_enter Tryz.func29, Tryz.ntmps29
  go_wp2_with (first | (go_at_call 48; refine (hf _).mono ?_; rintro e w' ⟨rfl, hw⟩; rw [hw]; clear hw w') | (go_at_call 89; refine (hc _).mono ?_; rintro e w1 ⟨rfl, hb1⟩))
  go_ret
  exact ⟨rfl, hb1⟩

theorem n_delete (name : ByteArray) (w : World) : Calls Tryz.prog 33 #[.pointer none, .string name] w fun e w' => e = .returned (.int .i64 1) ∧ Below w.heap.size w w' := by
  have hc := fun wx => delete_none name wx
  have hf := fun wx => files_none wx
  go_enter Tryz.func33, Tryz.ntmps33
  go_wp2_with (first | (go_at_call 48; refine (hf _).mono ?_; rintro e w' ⟨rfl, hw⟩; rw [hw]; clear hw w') | (go_at_call 93; refine (hc _).mono ?_; rintro e w1 ⟨rfl, hb1⟩))
  go_ret
  exact ⟨rfl, hb1⟩

theorem n_truncate (name : ByteArray) (n : Int) (w : World) : Calls Tryz.prog 35 #[.pointer none, .string name, .int .i64 n] w fun e w' => e = .returned (.int .i64 1) ∧ Below w.heap.size w w' := by
  have hc := fun wx => truncate_none name n wx
  have hf := fun wx => files_none wx
  go_enter Tryz.func35, Tryz.ntmps35
  go_wp2_with (first | (go_at_call 48; refine (hf _).mono ?_; rintro e w' ⟨rfl, hw⟩; rw [hw]; clear hw w') | (go_at_call 94; refine (hc _).mono ?_; rintro e w1 ⟨rfl, hb1⟩))
  go_ret
  exact ⟨rfl, hb1⟩

theorem n_rename (name tn : ByteArray) (w : World) : Calls Tryz.prog 31 #[.pointer none, .string name, .string tn] w fun e w' => e = .returned (.int .i64 1) ∧ Below w.heap.size w w' := by
  have hc := fun wx => rename_none name tn wx
  have hf := fun wx => files_none wx
  go_enter Tryz.func31, Tryz.ntmps31
  go_wp2_with (first | (go_at_call 48; refine (hf _).mono ?_; rintro e w' ⟨rfl, hw⟩; rw [hw]; clear hw w') | (go_at_call 90; refine (hc _).mono ?_; rintro e w1 ⟨rfl, hb1⟩))
  go_ret
  exact ⟨rfl, hb1⟩

theorem n_append (name d : ByteArray) (w : World) : Calls Tryz.prog 27 #[.pointer none, .string name, .string d] w fun e w' => e = .returned (.int .i64 1) ∧ Below w.heap.size w w' := by
  have hc := fun wx => append_none name d wx
  have hf := fun wx => files_none wx
  go_enter Tryz.func27, Tryz.ntmps27
  go_wp2_with (first | (go_at_call 48; refine (hf _).mono ?_; rintro e w' ⟨rfl, hw⟩; rw [hw]; clear hw w') | (go_at_call 83; refine (hc _).mono ?_; rintro e w1 ⟨rfl, hb1⟩))
  go_ret
  exact ⟨rfl, hb1⟩

theorem n_break (n : Int) (w : World) : Calls Tryz.prog 37 #[.pointer none, .int .i64 n] w fun e w' => e = .returned (.int .i64 1) ∧ Below w.heap.size w w' := by
  have hc := fun wx => break_none n wx
  have hf := fun wx => files_none wx
  go_enter Tryz.func37, Tryz.ntmps37
  go_wp2_with (first | (go_at_call 48; refine (hf _).mono ?_; rintro e w' ⟨rfl, hw⟩; rw [hw]; clear hw w') | (go_at_call 95; refine (hc _).mono ?_; rintro e w1 ⟨rfl, hb1⟩))
  go_ret
  exact ⟨rfl, hb1⟩

theorem n_crash (kv : Value) (w : World) : Calls Tryz.prog 39 #[.pointer none, kv] w fun e w' => e = .returned (.int .i64 1) ∧ Below w.heap.size w w' := by
  have hc := fun wx => crash_none kv wx
  have hf := fun wx => files_none wx
  go_enter Tryz.func39, Tryz.ntmps39
  go_wp2_with (first | (go_at_call 48; refine (hf _).mono ?_; rintro e w' ⟨rfl, hw⟩; rw [hw]; clear hw w') | (go_at_call 96; refine (hc _).mono ?_; rintro e w1 ⟨rfl, hb1⟩))
  go_ret
  exact ⟨rfl, hb1⟩

theorem n_read (s : ByteArray) (w : World) : Calls Tryz.prog 41 #[.pointer none, .string s] w fun e w' => e = .returned (.tuple #[.string ⟨#[]⟩, .int .i64 1]) ∧ Below w.heap.size w w' := by
  have hc := fun wx => read_none s wx
  have hf := fun wx => files_none wx
  go_enter Tryz.func41, Tryz.ntmps41
  go_wp2_with (first | (go_at_call 48; refine (hf _).mono ?_; rintro e w' ⟨rfl, hw⟩; rw [hw]; clear hw w') | (go_at_call 97; refine (hc _).mono ?_; rintro e w1 ⟨rfl, hb1⟩))
  go_ret2
  exact ⟨rfl, hb1⟩

theorem n_used  (w : World) : Calls Tryz.prog 45 #[.pointer none] w fun e w' => e = .returned (.tuple #[.int .i64 0, .int .i64 1]) ∧ Below w.heap.size w w' := by
  have hc := fun wx => usedM_none wx
  have hf := fun wx => files_none wx
  go_enter Tryz.func45, Tryz.ntmps45
  go_wp2_with (first | (go_at_call 48; refine (hf _).mono ?_; rintro e w' ⟨rfl, hw⟩; rw [hw]; clear hw w') | (go_at_call 99; refine (hc _).mono ?_; rintro e w1 ⟨rfl, hb1⟩))
  go_ret2
  exact ⟨rfl, hb1⟩

theorem n_list  (w : World) : Calls Tryz.prog 43 #[.pointer none] w fun e w' => e = .returned (.tuple #[.slice none 0 0, .int .i64 1]) ∧ Below w.heap.size w w' := by
  have hc := fun wx => list_none wx
  have hf := fun wx => files_none wx
  go_enter Tryz.func43, Tryz.ntmps43
  go_wp2_with (first | (go_at_call 48; refine (hf _).mono ?_; rintro e w' ⟨rfl, hw⟩; rw [hw]; clear hw w') | (go_at_call 98; refine (hc _).mono ?_; rintro e w1 ⟨rfl, hb1⟩))
  go_ret2
  exact ⟨rfl, hb1⟩

end Go.Proofs.YthcnkbeognkjgaaGreatDoor
