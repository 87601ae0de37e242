/-
  The program's disk, walked: what looks at it; a disk made; one that is to break.
-/
import Derived.Test.YthcnkbeognkjgaaGreatDoorDkMove
import Derived.Test.YthcnkbeognkjgaaGreatDoorStepLaws
import Derived.Test.YthcnkbeognkjgaaGreatDoorIterShelf
namespace Go.Proofs.YthcnkbeognkjgaaGreatDoor
open Go.RowKit Go.Shelf Go.WideMaps
open Rl

theorem break_none (n : Int) (w : World) : Calls Tryz.prog 95 #[.pointer none, .int .i64 n] w fun e w' => e = .returned (.int .i64 1) ∧ Below w.heap.size w w' := by
  go_enter Tryz.func95, Tryz.ntmps95
  go_wp2
  go_ret
  exact ⟨rfl, Below.refl _ _⟩

theorem break_any (w : World) (S : Nat → Prop) (p b : Nat) (cv : ByteArray → Value) (m : DiskM) (h : IDisk w S p b cv m) (n : Int) :
    Calls Tryz.prog 95 #[.pointer (some ⟨p, 0, none⟩), .int .i64 n] w fun e w' => e = .returned (.int .i64 (if n < 0 then 5 else 0)) ∧ IBecomes S w w' p b (if n < 0 then m else { m with left := n }) := by
  obtain ⟨c0, c1, c2, f0, f1, f2, hl⟩ := h.box
  have HI := hide h
  clear h
  by_cases hn : n < 0
  · rw [if_pos hn, if_pos hn]
    have hd : decide (n < 0) = true := decide_eq_true hn
    go_enter Tryz.func95, Tryz.ntmps95
    go_wp2
    go_ret
    exact ⟨rfl, HI.out.becomes (Below.refl _ _)⟩
  · rw [if_neg hn, if_neg hn]
    have hd : decide (n < 0) = false := decide_eq_false hn
    go_enter Tryz.func95, Tryz.ntmps95
    go_wp2
    go_ret
    exact ⟨rfl, S, cv, HI.out.setLeft n, fun _ hk => .inl hk, touch_set _ HI.out.own⟩

theorem usedM_none (w : World) : Calls Tryz.prog 99 #[.pointer none] w fun e w' => e = .returned (.tuple #[.int .i64 0, .int .i64 1]) ∧ Below w.heap.size w w' := by
  go_enter Tryz.func99, Tryz.ntmps99
  go_wp2
  go_ret2
  exact ⟨rfl, Below.refl _ _⟩

theorem usedM_any (w : World) (S : Nat → Prop) (p b : Nat) (cv : ByteArray → Value) (m : DiskM) (h : IDisk w S p b cv m) (hu : usedF m.files ≤ 4194304) :
    Calls Tryz.prog 99 #[.pointer (some ⟨p, 0, none⟩)] w fun e w' => e = .returned (.tuple #[.int .i64 (usedF m.files : Int), .int .i64 0]) ∧ Below w.heap.size w w' := by
  have hc := used_any w S p b cv m h hu
  go_enter Tryz.func99, Tryz.ntmps99
  go_wp2_with (go_at_call 139; refine hc.mono ?_; rintro e w1 ⟨rfl, hb1⟩)
  go_ret2
  exact ⟨rfl, hb1⟩

theorem read_none (s : ByteArray) (w : World) : Calls Tryz.prog 97 #[.pointer none, .string s] w fun e w' => e = .returned (.tuple #[.string ⟨#[]⟩, .int .i64 1]) ∧ Below w.heap.size w w' := by
  have hc := fun v wx => check_none v wx
  go_enter Tryz.func97, Tryz.ntmps97
  go_wp2_with (go_at_call 146; refine (hc _ _).mono ?_; rintro e w1 ⟨rfl, hb1⟩)
  go_ret2
  exact ⟨rfl, by first | exact hb1 | exact (((Below.refl _ _).alloc (Nat.le_refl _) _)).trans (hb1.mono (by simp))⟩


set_option maxRecDepth 20000 in
set_option maxHeartbeats 4000000 in
theorem read_any (w : World) (S : Nat → Prop) (p b : Nat) (cv : ByteArray → Value) (m : DiskM) (h : IDisk w S p b cv m) (s : ByteArray) (hs : s.size ≤ 2097152) :
    Calls Tryz.prog 97 #[.pointer (some ⟨p, 0, none⟩), .string s] w fun e w' => e = .returned (.tuple #[.string (readS m s), .int .i64 (readE m s)]) ∧ Below w.heap.size w w' := by
  have HI := hide h
  have hc := fun v wx hr => check_any ⟨p, 0, none⟩ v [s] wx (by simp) hr (fun x hx => by rw [List.mem_singleton] at hx; rw [hx]; exact hs)
  have hall : allOk [s] = nameOk s := by simp [allOk]
  rw [hall] at hc
  have hb0 : Below w.heap.size w (w.alloc (.cells #[.string s] 9)) := (Below.refl _ _).alloc (Nat.le_refl _) _
  have hro := hide (rowAt_of_owns (one_name w s))
  have d0 := (hb0.cell (p := ⟨p, 1, none⟩) h.box.lt).trans h.box.c1
  clear h hall
  cases hok : nameOk s with
  | false =>
    have e1 : readS m s = ⟨#[]⟩ := by unfold readS; rw [hok]; rfl
    have e2 : readE m s = 6 := by unfold readE; rw [hok]; rfl
    rw [e1, e2]
    rw [hok] at hc
    go_enter Tryz.func97, Tryz.ntmps97
    go_wp2_with (go_at_call 146; refine (hc _ _ hro.out).mono ?_; rintro e w1 ⟨rfl, hb1⟩)
    go_ret2
    exact ⟨rfl, later_below hb0 hb1 hb0.size⟩
  | true =>
    rw [hok, if_pos rfl] at hc
    have hmx : s.size ≤ maxLen := by unfold maxLen; omega
    have hfind := hide (fun wx (hx : IDisk wx S p b cv m) => (disk_find hx s hmx).1)
    cases hl : lookF s m.files with
    | none =>
      have e1 : readS m s = ⟨#[]⟩ := by unfold readS; rw [hok, hl]; rfl
      have e2 : readE m s = 7 := by unfold readE; rw [hok, hl]; rfl
      rw [e1, e2]
      rw [hl] at hfind
      simp only [Option.isSome_none] at hfind
      clear e1 e2
      go_enter Tryz.func97, Tryz.ntmps97
      go_wp2_with (go_at_call 146; refine (hc _ _ hro.out).mono ?_; rintro e w1 ⟨rfl, hb1⟩; have hbw := later_below hb0 hb1 hb0.size; have d1 := (HI.out.later hbw).box.c1; have hf1 := hfind.out w1 (HI.out.later hbw))
      go_ret2
      exact ⟨rfl, by first | exact hbw | exact hbw.drew | exact hbw.alloc hbw.size _ | exact (hbw.alloc hbw.size _).drew⟩
    | some f =>
      have e1 : readS m s = f.data := by unfold readS; rw [hok, hl]; rfl
      have e2 : readE m s = 0 := by unfold readE; rw [hok, hl]; rfl
      rw [e1, e2]
      rw [hl] at hfind
      simp only [Option.isSome_some] at hfind
      obtain ⟨hf, _⟩ := lookF_spec hl
      obtain ⟨a, c, ev⟩ := slice_owned (HI.out.rows f hf)
      have hrow := HI.out.rows f hf
      rw [ev] at hfind hrow
      have hcv := hide (fun (wx : World) (ho : wx.ownsRow 0 5 1 (.slice a f.data.size c) f.data.size (u8s f.data.data.toList)) => run_convert_own (P := Tryz.prog) 144 9 Tryz.underlying144 Tryz.underlying5 Tryz.underlying9 ho)
      have HR := hide hrow
      clear e1 e2 hrow
      go_enter Tryz.func97, Tryz.ntmps97
      go_wp2_with (go_at_call 146; refine (hc _ _ hro.out).mono ?_; rintro e w1 ⟨rfl, hb1⟩; have hbw := later_below hb0 hb1 hb0.size; have d1 := (HI.out.later hbw).box.c1; have hf1 := hfind.out w1 (HI.out.later hbw); have hcv1 := hcv.out _ ((owns_later HR.out hbw).alloc (.cells #[.slice a f.data.size c, .int .i64 (f.sync : Int)] 195)))
      go_ret2
      exact ⟨rfl, by first | exact hbw | exact hbw.drew | exact hbw.alloc hbw.size _ | exact (hbw.alloc hbw.size _).drew⟩

end Go.Proofs.YthcnkbeognkjgaaGreatDoor
