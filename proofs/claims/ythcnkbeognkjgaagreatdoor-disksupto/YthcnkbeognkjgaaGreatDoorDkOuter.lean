/-
  Package routelog's disk: a box about the program's disk; its calls hand on.
-/
import Derived.Test.YthcnkbeognkjgaaGreatDoorDkNew
import Derived.Test.YthcnkbeognkjgaaGreatDoorDkTrunc
import Derived.Test.YthcnkbeognkjgaaGreatDoorDkApp
namespace Go.Proofs.YthcnkbeognkjgaaGreatDoor
open Go.RowKit Go.Shelf Go.WideMaps Go.Maps
open Rl

namespace Rl
/-- A DISK OF PACKAGE routelog at block q, the program's disk in it; S: the blocks that it may turn. -/
structure PDisk (w : World) (S : Nat → Prop) (q : Nat) (m : DiskM) : Prop where
  own : S q
  lt : ∀ k, S k → k < w.heap.size
  inner : ∃ p b cv, w.cell? ⟨q, 0, none⟩ = some (.pointer (some ⟨p, 0, none⟩)) ∧ IDisk w (fun k => S k ∧ k ≠ q) p b cv m

theorem PDisk.touch {w w' : World} {S T : Nat → Prop} {q : Nat} {m : DiskM} (h : PDisk w S q m) (ht : Tch T w w') (hd : ∀ k, S k → ¬ T k) : PDisk w' S q m := by
  obtain ⟨p, b, cv, c, hi⟩ := h.inner
  exact ⟨h.own, fun k hk => Nat.lt_of_lt_of_le (h.lt k hk) ht.size, p, b, cv, (ht.cell (p := ⟨q, 0, none⟩) (h.lt q h.own) (hd q h.own)).trans c, hi.touch ht (fun k hk => hd k hk.1)⟩

theorem PDisk.later {w w' : World} {S : Nat → Prop} {q : Nat} {m : DiskM} (h : PDisk w S q m) (hb : Below w.heap.size w w') : PDisk w' S q m := h.touch (Tch.ofBelow (S := fun _ => False) hb) (fun _ _ x => x)

def PBecomes (S : Nat → Prop) (w w' : World) (q : Nat) (m : DiskM) : Prop := ∃ S', PDisk w' S' q m ∧ (∀ k, S' k → S k ∨ w.heap.size ≤ k) ∧ Tch S w w'

theorem pbecomes {w w' : World} {S : Nat → Prop} {q p b : Nat} {m0 m : DiskM} (h : PDisk w S q m0) (hc : w.cell? ⟨q, 0, none⟩ = some (.pointer (some ⟨p, 0, none⟩))) (hi : IBecomes (fun k => S k ∧ k ≠ q) w w' p b m) : PBecomes S w w' q m := by
  obtain ⟨S', cv', h1, h2, h3⟩ := hi
  have hq := h.lt q h.own
  have hne : ∀ k, S' k → k ≠ q := fun k hk e => by
    rcases h2 k hk with x | x
    · exact x.2 e
    · omega
  refine ⟨fun k => k = q ∨ S' k, ⟨.inl rfl, fun k hk => ?_, p, b, cv', (h3.cell (p := ⟨q, 0, none⟩) hq (fun x => x.2 rfl)).trans hc, h1.mono (fun k hk => ⟨.inr hk, hne k hk⟩) (fun k hk => ?_)⟩, fun k hk => ?_, h3.mono (fun _ x => x.1)⟩
  · rcases hk with rfl | hk
    · exact Nat.lt_of_lt_of_le hq h3.size
    · exact h1.lt k hk
  · rcases hk.1 with e | hk2
    · exact absurd e hk.2
    · exact h1.lt k hk2
  · rcases hk with rfl | hk
    · exact .inl h.own
    · exact (h2 k hk).imp And.left id
end Rl

theorem files_none (w : World) : Calls Tryz.prog 48 #[.pointer none] w fun e w' => e = .returned (.pointer none) ∧ w' = w := by
  go_enter Tryz.func48, Tryz.ntmps48
  go_wp2
  go_ret
  exact ⟨rfl, rfl⟩

theorem files_any (w : World) (q p : Nat) (c : w.cell? ⟨q, 0, none⟩ = some (.pointer (some ⟨p, 0, none⟩))) : Calls Tryz.prog 48 #[.pointer (some ⟨q, 0, none⟩)] w fun e w' => e = .returned (.pointer (some ⟨p, 0, none⟩)) ∧ w' = w := by
  go_enter Tryz.func48, Tryz.ntmps48
  go_wp2
  go_ret
  exact ⟨rfl, rfl⟩

theorem newDisk_any (c : Int) (w : World) : Calls Tryz.prog 5 #[.int .i64 c] w fun e w' => ∃ q, e = .returned (.pointer (some ⟨q, 0, none⟩)) ∧ PDisk w' (fun k => w.heap.size ≤ k ∧ k < w'.heap.size) q ⟨max c 0, [], -1⟩ ∧ Below w.heap.size w w' := by
  have hc := new_any c w
  go_enter Tryz.func5, Tryz.ntmps5
  go_wp2_with (go_at_call 10; refine hc.mono ?_; rintro e w1 ⟨p, b, rfl, hi, hb⟩)
  go_ret
  have hb2 : Below w1.heap.size w1 (w1.alloc (.cells #[.pointer (some ⟨p, 0, none⟩)] 56)) := (Below.refl _ _).alloc (Nat.le_refl _) _
  refine ⟨_, rfl, ⟨⟨hb.size, by simp⟩, fun k hk => hk.2, p, b, _, by simp, (hi.later hb2).mono (fun k hk => ⟨⟨hk.1, by have := hk.2; simp; omega⟩, by have := hk.2; omega⟩) (fun k hk => hk.1.2)⟩, later_below hb hb2 hb.size⟩

set_option maxHeartbeats 1000000 in
theorem p_sync (w : World) (S : Nat → Prop) (q : Nat) (m : DiskM) (h : PDisk w S q m) (hm : m.files.length ≤ 4194304) (hu : usedF m.files ≤ 4194304) (hl0 : -1 ≤ m.left) (hl1 : m.left ≤ 9223372036854775807) (name : ByteArray) (hn : name.size ≤ 2097152) :
    Calls Tryz.prog 29 #[.pointer (some ⟨q, 0, none⟩), .string name] w fun e w' => e = .returned (.int .i64 (changeE m [name] (fileE m name 0))) ∧ PBecomes S w w' q (changeM m [name] (fileE m name 0) (fileM m name (syncM m name))) := by
  obtain ⟨p, b, cv, c, hi⟩ := h.inner
  have hc := sync_any w _ p b cv m hi hm hu hl0 hl1 name hn
  have HD := hide h
  have hf := files_any w q p c
  clear h hi
  go_enter Tryz.func29, Tryz.ntmps29
  go_wp2_with (first | (go_at_call 48; refine hf.mono ?_; rintro e w' ⟨rfl, hw⟩; rw [hw]; clear hw w') | (go_at_call 89; refine hc.mono ?_; rintro e w1 ⟨rfl, hbe⟩))
  go_ret
  exact ⟨rfl, pbecomes HD.out c hbe⟩

set_option maxHeartbeats 1000000 in
theorem p_delete (w : World) (S : Nat → Prop) (q : Nat) (m : DiskM) (h : PDisk w S q m) (hm : m.files.length ≤ 4194304) (hu : usedF m.files ≤ 4194304) (hl0 : -1 ≤ m.left) (hl1 : m.left ≤ 9223372036854775807) (name : ByteArray) (hn : name.size ≤ 2097152) :
    Calls Tryz.prog 33 #[.pointer (some ⟨q, 0, none⟩), .string name] w fun e w' => e = .returned (.int .i64 (changeE m [name] (fileE m name 0))) ∧ PBecomes S w w' q (changeM m [name] (fileE m name 0) (fileM m name (deleteM m name))) := by
  obtain ⟨p, b, cv, c, hi⟩ := h.inner
  have hc := delete_any w _ p b cv m hi hm hu hl0 hl1 name hn
  have HD := hide h
  have hf := files_any w q p c
  clear h hi
  go_enter Tryz.func33, Tryz.ntmps33
  go_wp2_with (first | (go_at_call 48; refine hf.mono ?_; rintro e w' ⟨rfl, hw⟩; rw [hw]; clear hw w') | (go_at_call 93; refine hc.mono ?_; rintro e w1 ⟨rfl, hbe⟩))
  go_ret
  exact ⟨rfl, pbecomes HD.out c hbe⟩

set_option maxHeartbeats 1000000 in
theorem p_truncate (w : World) (S : Nat → Prop) (q : Nat) (m : DiskM) (h : PDisk w S q m) (hm : m.files.length ≤ 4194304) (hu : usedF m.files ≤ 4194304) (hl0 : -1 ≤ m.left) (hl1 : m.left ≤ 9223372036854775807) (name : ByteArray) (hn : name.size ≤ 2097152) (n : Int) :
    Calls Tryz.prog 35 #[.pointer (some ⟨q, 0, none⟩), .string name, .int .i64 n] w fun e w' => e = .returned (.int .i64 (changeE m [name] (fileE m name (truncE m name n)))) ∧ PBecomes S w w' q (changeM m [name] (fileE m name (truncE m name n)) (fileM m name (truncM m name n))) := by
  obtain ⟨p, b, cv, c, hi⟩ := h.inner
  have hc := truncate_any w _ p b cv m hi hm hu hl0 hl1 name hn n
  have HD := hide h
  have hf := files_any w q p c
  clear h hi
  go_enter Tryz.func35, Tryz.ntmps35
  go_wp2_with (first | (go_at_call 48; refine hf.mono ?_; rintro e w' ⟨rfl, hw⟩; rw [hw]; clear hw w') | (go_at_call 94; refine hc.mono ?_; rintro e w1 ⟨rfl, hbe⟩))
  go_ret
  exact ⟨rfl, pbecomes HD.out c hbe⟩

set_option maxHeartbeats 1000000 in
theorem p_rename (w : World) (S : Nat → Prop) (q : Nat) (m : DiskM) (h : PDisk w S q m) (hm : m.files.length ≤ 4194304) (hu : usedF m.files ≤ 4194304) (hl0 : -1 ≤ m.left) (hl1 : m.left ≤ 9223372036854775807) (name tn : ByteArray) (hn : name.size ≤ 2097152) (ht : tn.size ≤ 2097152) :
    Calls Tryz.prog 31 #[.pointer (some ⟨q, 0, none⟩), .string name, .string tn] w fun e w' => e = .returned (.int .i64 (changeE m [tn, name] (fileE m name 0))) ∧ PBecomes S w w' q (changeM m [tn, name] (fileE m name 0) (fileM m name (renameM m name tn))) := by
  obtain ⟨p, b, cv, c, hi⟩ := h.inner
  have hc := rename_any w _ p b cv m hi hm hu hl0 hl1 name tn hn ht
  have HD := hide h
  have hf := files_any w q p c
  clear h hi
  go_enter Tryz.func31, Tryz.ntmps31
  go_wp2_with (first | (go_at_call 48; refine hf.mono ?_; rintro e w' ⟨rfl, hw⟩; rw [hw]; clear hw w') | (go_at_call 90; refine hc.mono ?_; rintro e w1 ⟨rfl, hbe⟩))
  go_ret
  exact ⟨rfl, pbecomes HD.out c hbe⟩

set_option maxHeartbeats 1000000 in
theorem p_append (w : World) (S : Nat → Prop) (q : Nat) (m : DiskM) (h : PDisk w S q m) (hm : m.files.length ≤ 4194304) (hu : usedF m.files ≤ 4194304) (hl0 : -1 ≤ m.left) (hl1 : m.left ≤ 9223372036854775807) (hr0 : 0 ≤ m.room) (hr1 : m.room ≤ 9223372036854775807) (name d : ByteArray) (hn : name.size ≤ 2097152) (hd : d.size ≤ 4194304) :
    Calls Tryz.prog 27 #[.pointer (some ⟨q, 0, none⟩), .string name, .string d] w fun e w' => e = .returned (.int .i64 (changeE m [name] (apE m d))) ∧ PBecomes S w w' q (changeM m [name] (apE m d) (apM m name d)) := by
  obtain ⟨p, b, cv, c, hi⟩ := h.inner
  have hc := append_any w _ p b cv m hi hm hu hr0 hr1 hl0 hl1 name d hn hd
  have HD := hide h
  have hf := files_any w q p c
  clear h hi
  go_enter Tryz.func27, Tryz.ntmps27
  go_wp2_with (first | (go_at_call 48; refine hf.mono ?_; rintro e w' ⟨rfl, hw⟩; rw [hw]; clear hw w') | (go_at_call 83; refine hc.mono ?_; rintro e w1 ⟨rfl, hbe⟩))
  go_ret
  exact ⟨rfl, pbecomes HD.out c hbe⟩

set_option maxHeartbeats 1000000 in
theorem p_break (w : World) (S : Nat → Prop) (q : Nat) (m : DiskM) (h : PDisk w S q m) (n : Int) :
    Calls Tryz.prog 37 #[.pointer (some ⟨q, 0, none⟩), .int .i64 n] w fun e w' => e = .returned (.int .i64 (if n < 0 then 5 else 0)) ∧ PBecomes S w w' q (if n < 0 then m else { m with left := n }) := by
  obtain ⟨p, b, cv, c, hi⟩ := h.inner
  have hc := break_any w _ p b cv m hi n
  generalize (if n < 0 then (5 : Int) else 0) = E at *
  generalize (if n < 0 then m else { m with left := n }) = M at *
  have HD := hide h
  have hf := files_any w q p c
  clear h hi
  go_enter Tryz.func37, Tryz.ntmps37
  go_wp2_with (first | (go_at_call 48; refine hf.mono ?_; rintro e w' ⟨rfl, hw⟩; rw [hw]; clear hw w') | (go_at_call 95; refine hc.mono ?_; rintro e w1 ⟨rfl, hbe⟩))
  go_ret
  have hp := pbecomes HD.out c hbe
  exact ⟨rfl, hp⟩

set_option maxHeartbeats 1000000 in
theorem p_read (w : World) (S : Nat → Prop) (q : Nat) (m : DiskM) (h : PDisk w S q m) (s : ByteArray) (hs : s.size ≤ 2097152) :
    Calls Tryz.prog 41 #[.pointer (some ⟨q, 0, none⟩), .string s] w fun e w' => e = .returned (.tuple #[.string (readS m s), .int .i64 (readE m s)]) ∧ Below w.heap.size w w' := by
  obtain ⟨p, b, cv, c, hi⟩ := h.inner
  have hc := read_any w _ p b cv m hi s hs
  have HD := hide h
  have hf := files_any w q p c
  clear h hi
  go_enter Tryz.func41, Tryz.ntmps41
  go_wp2_with (first | (go_at_call 48; refine hf.mono ?_; rintro e w' ⟨rfl, hw⟩; rw [hw]; clear hw w') | (go_at_call 97; refine hc.mono ?_; rintro e w1 ⟨rfl, hbe⟩))
  go_ret2
  exact ⟨rfl, hbe⟩

set_option maxHeartbeats 1000000 in
theorem p_used (w : World) (S : Nat → Prop) (q : Nat) (m : DiskM) (h : PDisk w S q m) (hu : usedF m.files ≤ 4194304) :
    Calls Tryz.prog 45 #[.pointer (some ⟨q, 0, none⟩)] w fun e w' => e = .returned (.tuple #[.int .i64 (usedF m.files : Int), .int .i64 0]) ∧ Below w.heap.size w w' := by
  obtain ⟨p, b, cv, c, hi⟩ := h.inner
  have hc := usedM_any w _ p b cv m hi hu
  have HD := hide h
  have hf := files_any w q p c
  clear h hi
  go_enter Tryz.func45, Tryz.ntmps45
  go_wp2_with (first | (go_at_call 48; refine hf.mono ?_; rintro e w' ⟨rfl, hw⟩; rw [hw]; clear hw w') | (go_at_call 99; refine hc.mono ?_; rintro e w1 ⟨rfl, hbe⟩))
  go_ret2
  exact ⟨rfl, hbe⟩

set_option maxHeartbeats 1000000 in
theorem p_list (w : World) (S : Nat → Prop) (q : Nat) (m : DiskM) (h : PDisk w S q m) (hm : m.files.length ≤ 4194304) :
    Calls Tryz.prog 43 #[.pointer (some ⟨q, 0, none⟩)] w fun e w' => ∃ v, e = .returned (.tuple #[v, .int .i64 0]) ∧ w'.ownsRow w.heap.size 9 1 v m.files.length (nms (m.files.map fun f => f.name)) ∧ Below w.heap.size w w' := by
  obtain ⟨p, b, cv, c, hi⟩ := h.inner
  have hc := list_any w _ p b cv m hi hm
  have hf := files_any w q p c
  clear h hi
  go_enter Tryz.func43, Tryz.ntmps43
  go_wp2_with (first | (go_at_call 48; refine hf.mono ?_; rintro e w' ⟨rfl, hw⟩; rw [hw]; clear hw w') | (go_at_call 98; refine hc.mono ?_; rintro e w1 ⟨v, rfl, hrow, hbe⟩))
  go_ret2
  exact ⟨v, rfl, hrow, hbe⟩

end Go.Proofs.YthcnkbeognkjgaaGreatDoor
