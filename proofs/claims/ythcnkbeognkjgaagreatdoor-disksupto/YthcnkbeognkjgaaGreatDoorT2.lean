/-
  A step of a world, walked over what its call does.
-/
import Derived.Test.YthcnkbeognkjgaaGreatDoorT1
namespace Go.Proofs.YthcnkbeognkjgaaGreatDoor
open Go.RowKit
open Rl

namespace Rl
/-- the world's flag is written. -/
theorem WorldC.has {w : World} {ow : Nat → Nat} {i B : Nat} {xv dv : Value} {om : Option DiskM} (h : WorldC w ow i B xv dv om) (b : Bool) : WorldC (w.setCell ⟨B, 4, none⟩ (.bool b)) ow i B xv dv om ∧ Fr (fun c => c = 20 + 3 * i) w ow (w.setCell ⟨B, 4, none⟩ (.bool b)) ow := by
  have hf := fr_set w ow ⟨B, 4, none⟩ (.bool b) (c := 20 + 3 * i) h.own
  obtain ⟨v, h4⟩ := h.c4
  refine ⟨⟨h.own, by simpa using h.lt, ?_, ?_, ?_, ?_, ⟨b, World.cell?_setCell_same _ _ _ h4⟩, fun j hj => by simpa using h.fz j hj, h.disks.frame hf (by omega) (by omega)⟩, hf⟩
  · rw [cell_other _ _ _ _ _ (by omega)]; exact h.c0
  · rw [cell_other _ _ _ _ _ (by omega)]; exact h.c1
  · rw [cell_other _ _ _ _ _ (by omega)]; exact h.c2
  · rw [cell_other _ _ _ _ _ (by omega)]; exact h.c3

/-- the world's collectors are nil, again. -/
theorem WorldC.nobody {w : World} {ow : Nat → Nat} {i B : Nat} {xv dv : Value} {om : Option DiskM} (h : WorldC w ow i B xv dv om) :
    WorldC (((w.setCell ⟨B, 2, none⟩ (.pointer none)).setCell ⟨B, 3, none⟩ (.pointer none)).setCell ⟨B, 4, none⟩ (.bool true)) ow i B xv dv om ∧ Fr (fun c => c = 20 + 3 * i) w ow (((w.setCell ⟨B, 2, none⟩ (.pointer none)).setCell ⟨B, 3, none⟩ (.pointer none)).setCell ⟨B, 4, none⟩ (.bool true)) ow := by
  have hf1 := fr_set w ow ⟨B, 2, none⟩ (.pointer none) (c := 20 + 3 * i) h.own
  have h1 : WorldC (w.setCell ⟨B, 2, none⟩ (.pointer none)) ow i B xv dv om := by
    obtain ⟨v, h4⟩ := h.c4
    refine ⟨h.own, by simpa using h.lt, ?_, ?_, World.cell?_setCell_same _ _ _ h.c2, ?_, ⟨v, ?_⟩, fun j hj => by simpa using h.fz j hj, h.disks.frame hf1 (by omega) (by omega)⟩
    · rw [cell_other _ _ _ _ _ (by omega)]; exact h.c0
    · rw [cell_other _ _ _ _ _ (by omega)]; exact h.c1
    · rw [cell_other _ _ _ _ _ (by omega)]; exact h.c3
    · rw [cell_other _ _ _ _ _ (by omega)]; exact h4
  have hf2 := fr_set (w.setCell ⟨B, 2, none⟩ (.pointer none)) ow ⟨B, 3, none⟩ (.pointer none) (c := 20 + 3 * i) h.own
  have h2 : WorldC ((w.setCell ⟨B, 2, none⟩ (.pointer none)).setCell ⟨B, 3, none⟩ (.pointer none)) ow i B xv dv om := by
    obtain ⟨v, h4⟩ := h1.c4
    refine ⟨h.own, by simpa using h.lt, ?_, ?_, ?_, World.cell?_setCell_same _ _ _ h1.c3, ⟨v, ?_⟩, fun j hj => by simpa using h.fz j hj, h1.disks.frame hf2 (by omega) (by omega)⟩
    · rw [cell_other _ _ _ _ _ (by omega)]; exact h1.c0
    · rw [cell_other _ _ _ _ _ (by omega)]; exact h1.c1
    · rw [cell_other _ _ _ _ _ (by omega)]; exact h1.c2
    · rw [cell_other _ _ _ _ _ (by omega)]; exact h4
  obtain ⟨h3, hf3⟩ := h2.has true
  exact ⟨h3, (hf1.trans hf2 (fun _ x => x)).trans hf3 (fun _ x => x)⟩
end Rl

set_option maxRecDepth 20000 in
set_option maxHeartbeats 1000000 in
theorem doesWrites (w : World) (ow : Nat → Nat) (i B G : Nat) (xv dv : Value) (om om' : Option DiskM) (k W A C : Int) (S T : ByteArray) (la : Option Addr) (ln lc : Nat) (h : WorldC w ow i B xv dv om) (hk : 3 ≤ k ∧ k ≤ 8)
    (hw : ∀ w1 ow1, WorldC w1 ow1 i B xv dv om → Fr (fun c => c = 20 + 3 * i) w ow w1 ow1 → Calls Tryz.prog 11 #[.pointer (some ⟨B, 0, none⟩), opV k W A C S T la ln lc] w1 fun e w' => e = .returned (.bool true) ∧ ∃ ow', WorldC w' ow' i B xv dv om' ∧ Fr (fun c => c = 20 + 3 * i ∨ c = 21 + 3 * i ∨ c = 22 + 3 * i) w1 ow1 w' ow') :
    Calls Tryz.prog 7 #[.pointer (some ⟨G, 0, none⟩), .pointer (some ⟨B, 0, none⟩), opV k W A C S T la ln lc] w fun e w' => e = .returned (.tuple #[.bool true, .int .i64 1]) ∧ ∃ ow', WorldC w' ow' i B xv dv om' ∧ Fr (fun c => c = 20 + 3 * i ∨ c = 21 + 3 * i ∨ c = 22 + 3 * i) w ow w' ow' := by
  have bx := bx7_new w (.int .i64 k) (.int .i64 W) (.int .i64 A) (.int .i64 C) (.string S) (.string T) (.slice la ln lc) 39
  have f0 := Fr.ofBelow ow ((Below.refl _ w).alloc (Nat.le_refl _) (.cells #[.int .i64 k, .int .i64 W, .int .i64 A, .int .i64 C, .string S, .string T, .slice la ln lc] 39)) (fun _ => False) 0
  have h0 := h.frame f0 (fun x => x) (fun x => x) (fun x => x)
  obtain ⟨h1, f1⟩ := h0.has false
  have F1 := (f0.mono (fun _ x => (x.elim : _ = 20 + 3 * i))).trans f1 (fun _ x => x)
  have HW := hide (hw _ _ h1 F1)
  have HF := hide F1
  have k3 : decide (3 ≤ k) = true := decide_eq_true hk.1
  have k8 : decide (k ≤ 8) = true := decide_eq_true hk.2
  have z4 := h0.fz 4 (by omega)
  obtain ⟨v4, y4⟩ := h0.c4
  have hl0 := h0.lt
  obtain ⟨b0, b1, b2, b3, b4, b5, b6, bl⟩ := bx
  have hne : w.heap.size ≠ B := Nat.ne_of_gt h.lt
  clear h hw h1 f1 h0 f0 F1
  unfold opV at *
  go_enter Tryz.func7, Tryz.ntmps7
  go_wp2_with (go_at_call 11; refine HW.out.mono ?_; rintro e w2 ⟨rfl, ow2, h2, f2⟩)
  go_ret2
  exact ⟨rfl, ow2, h2, (HF.out.mono (fun _ x => Or.inl x)).trans f2 (fun _ x => x)⟩

set_option maxRecDepth 20000 in
set_option maxHeartbeats 1000000 in
theorem doesBreak (w : World) (ow : Nat → Nat) (i B G : Nat) (xv dv : Value) (om om' : Option DiskM) (W A C : Int) (S T : ByteArray) (la : Option Addr) (ln lc : Nat) (h : WorldC w ow i B xv dv om)
    (hw : ∀ w1 ow1, WorldC w1 ow1 i B xv dv om → Fr (fun c => c = 20 + 3 * i) w ow w1 ow1 → Calls Tryz.prog 11 #[.pointer (some ⟨B, 0, none⟩), opV 24 W A C S T la ln lc] w1 fun e w' => e = .returned (.bool true) ∧ ∃ ow', WorldC w' ow' i B xv dv om' ∧ Fr (fun c => c = 20 + 3 * i ∨ c = 21 + 3 * i ∨ c = 22 + 3 * i) w1 ow1 w' ow') :
    Calls Tryz.prog 7 #[.pointer (some ⟨G, 0, none⟩), .pointer (some ⟨B, 0, none⟩), opV 24 W A C S T la ln lc] w fun e w' => e = .returned (.tuple #[.bool true, .int .i64 1]) ∧ ∃ ow', WorldC w' ow' i B xv dv om' ∧ Fr (fun c => c = 20 + 3 * i ∨ c = 21 + 3 * i ∨ c = 22 + 3 * i) w ow w' ow' := by
  have bx := bx7_new w (.int .i64 24) (.int .i64 W) (.int .i64 A) (.int .i64 C) (.string S) (.string T) (.slice la ln lc) 39
  have f0 := Fr.ofBelow ow ((Below.refl _ w).alloc (Nat.le_refl _) (.cells #[.int .i64 24, .int .i64 W, .int .i64 A, .int .i64 C, .string S, .string T, .slice la ln lc] 39)) (fun _ => False) 0
  have h0 := h.frame f0 (fun x => x) (fun x => x) (fun x => x)
  obtain ⟨h1, f1⟩ := h0.has false
  have F1 := (f0.mono (fun _ x => (x.elim : _ = 20 + 3 * i))).trans f1 (fun _ x => x)
  have HW := hide (hw _ _ h1 F1)
  have HF := hide F1
  have z4 := h0.fz 4 (by omega)
  obtain ⟨v4, y4⟩ := h0.c4
  have hl0 := h0.lt
  obtain ⟨b0, b1, b2, b3, b4, b5, b6, bl⟩ := bx
  have hne : w.heap.size ≠ B := Nat.ne_of_gt h.lt
  clear h hw h1 f1 h0 f0 F1
  unfold opV at *
  go_enter Tryz.func7, Tryz.ntmps7
  go_wp2_with (go_at_call 11; refine HW.out.mono ?_; rintro e w2 ⟨rfl, ow2, h2, f2⟩)
  go_ret2
  exact ⟨rfl, ow2, h2, (HF.out.mono (fun _ x => Or.inl x)).trans f2 (fun _ x => x)⟩

set_option maxRecDepth 20000 in
set_option maxHeartbeats 1000000 in
theorem doesLooks (w : World) (ow : Nat → Nat) (i B G : Nat) (xv dv : Value) (om : Option DiskM) (k W A C : Int) (S T : ByteArray) (la : Option Addr) (ln lc : Nat) (P : World → Prop) (h : WorldC w ow i B xv dv om) (hk : 9 ≤ k ∧ k ≤ 11)
    (hw : ∀ w1, Fr (fun _ => False) w ow w1 (ext w ow 0) → WorldC w1 (ext w ow 0) i B xv dv om → Calls Tryz.prog 12 #[.pointer (some ⟨G, 0, none⟩), .pointer (some ⟨B, 0, none⟩), opV k W A C S T la ln lc] w1 fun e w' => e = .returned (.bool true) ∧ P w') :
    Calls Tryz.prog 7 #[.pointer (some ⟨G, 0, none⟩), .pointer (some ⟨B, 0, none⟩), opV k W A C S T la ln lc] w fun e w' => e = .returned (.tuple #[.bool true, .int .i64 1]) ∧ P w' := by
  have bx := bx7_new w (.int .i64 k) (.int .i64 W) (.int .i64 A) (.int .i64 C) (.string S) (.string T) (.slice la ln lc) 39
  have f0 := Fr.ofBelow ow ((Below.refl _ w).alloc (Nat.le_refl _) (.cells #[.int .i64 k, .int .i64 W, .int .i64 A, .int .i64 C, .string S, .string T, .slice la ln lc] 39)) (fun _ => False) 0
  have h0 := h.frame f0 (fun x => x) (fun x => x) (fun x => x)
  have HW := hide (hw _ f0 h0)
  have k3 : decide (3 ≤ k) = true := decide_eq_true (by omega)
  have k8 : decide (k ≤ 8) = false := decide_eq_false (by omega)
  have k24 : (k == 24) = false := by rw [beq_eq_false_iff_ne]; omega
  have k9 : decide (9 ≤ k) = true := decide_eq_true hk.1
  have k11 : decide (k ≤ 11) = true := decide_eq_true hk.2
  obtain ⟨b0, b1, b2, b3, b4, b5, b6, bl⟩ := bx
  clear h hw h0 f0
  unfold opV at *
  go_enter Tryz.func7, Tryz.ntmps7
  go_wp2_with (go_at_call 12; refine HW.out.mono ?_; rintro e w2 ⟨rfl, h2⟩)
  go_ret2
  exact ⟨rfl, h2⟩

set_option maxRecDepth 20000 in
set_option maxHeartbeats 1000000 in
theorem doesNobody (w : World) (ow : Nat → Nat) (i B G : Nat) (xv dv : Value) (om : Option DiskM) (W A C : Int) (S T : ByteArray) (la : Option Addr) (ln lc : Nat) (h : WorldC w ow i B xv dv om) :
    Calls Tryz.prog 7 #[.pointer (some ⟨G, 0, none⟩), .pointer (some ⟨B, 0, none⟩), opV 23 W A C S T la ln lc] w fun e w' => e = .returned (.tuple #[.bool true, .int .i64 0]) ∧ ∃ ow', WorldC w' ow' i B xv dv om ∧ Fr (fun c => c = 20 + 3 * i) w ow w' ow' := by
  have bx := bx7_new w (.int .i64 23) (.int .i64 W) (.int .i64 A) (.int .i64 C) (.string S) (.string T) (.slice la ln lc) 39
  have f0 := Fr.ofBelow ow ((Below.refl _ w).alloc (Nat.le_refl _) (.cells #[.int .i64 23, .int .i64 W, .int .i64 A, .int .i64 C, .string S, .string T, .slice la ln lc] 39)) (fun _ => False) 0
  have h0 := h.frame f0 (fun x => x) (fun x => x) (fun x => x)
  obtain ⟨h1, f1⟩ := h0.nobody
  have HE := hide h1
  have HF := hide ((f0.mono (fun _ x => (x.elim : _ = 20 + 3 * i))).trans f1 (fun _ x => x))
  have z2 := h0.fz 2 (by omega)
  have z3 := h0.fz 3 (by omega)
  have z4 := h0.fz 4 (by omega)
  have y2 := h0.c2
  have y3 := h0.c3
  obtain ⟨v4, y4⟩ := h0.c4
  have hl0 := h0.lt
  obtain ⟨b0, b1, b2, b3, b4, b5, b6, bl⟩ := bx
  have hne : w.heap.size ≠ B := Nat.ne_of_gt h.lt
  clear h h1 f1 h0 f0
  unfold opV
  go_enter Tryz.func7, Tryz.ntmps7
  go_wp2_with fail
  go_ret2
  exact ⟨rfl, _, HE.out, HF.out⟩

set_option maxRecDepth 20000 in
set_option maxHeartbeats 1000000 in
theorem doesElse (w : World) (ow : Nat → Nat) (i B G : Nat) (xv dv : Value) (om : Option DiskM) (k W A C : Int) (S T : ByteArray) (la : Option Addr) (ln lc : Nat) (h : WorldC w ow i B xv dv om) (hk : k ≤ 2 ∨ 25 ≤ k) :
    Calls Tryz.prog 7 #[.pointer (some ⟨G, 0, none⟩), .pointer (some ⟨B, 0, none⟩), opV k W A C S T la ln lc] w fun e w' => e = .returned (.tuple #[.bool true, .int .i64 0]) ∧ Below w.heap.size w w' := by
  have bx := bx7_new w (.int .i64 k) (.int .i64 W) (.int .i64 A) (.int .i64 C) (.string S) (.string T) (.slice la ln lc) 39
  have f0 := Fr.ofBelow ow ((Below.refl _ w).alloc (Nat.le_refl _) (.cells #[.int .i64 k, .int .i64 W, .int .i64 A, .int .i64 C, .string S, .string T, .slice la ln lc] 39)) (fun _ => False) 0
  have h0 := h.frame f0 (fun x => x) (fun x => x) (fun x => x)
  have k24 : (k == 24) = false := by rw [beq_eq_false_iff_ne]; omega
  have k12 : (k == 12) = false := by rw [beq_eq_false_iff_ne]; omega
  have k22 : (k == 22) = false := by rw [beq_eq_false_iff_ne]; omega
  have k13 : (k == 13) = false := by rw [beq_eq_false_iff_ne]; omega
  have k23 : (k == 23) = false := by rw [beq_eq_false_iff_ne]; omega
  have k17 : (k == 17) = false := by rw [beq_eq_false_iff_ne]; omega
  have k18 : (k == 18) = false := by rw [beq_eq_false_iff_ne]; omega
  obtain ⟨v4, y4⟩ := h0.c4
  have hl0 := h0.lt
  obtain ⟨b0, b1, b2, b3, b4, b5, b6, bl⟩ := bx
  clear h h0 f0
  unfold opV
  rcases hk with hk | hk
  · have k3 : decide (3 ≤ k) = false := decide_eq_false (by omega)
    have k9 : decide (9 ≤ k) = false := decide_eq_false (by omega)
    have k14 : decide (14 ≤ k) = false := decide_eq_false (by omega)
    cases v4 with
    | true =>
      go_enter Tryz.func7, Tryz.ntmps7
      go_wp2_with fail
      go_ret2
      exact ⟨rfl, (Below.refl _ _).alloc (Nat.le_refl _) _⟩
    | false =>
      go_enter Tryz.func7, Tryz.ntmps7
      go_wp2_with fail
      go_ret2
      exact ⟨rfl, (Below.refl _ _).alloc (Nat.le_refl _) _⟩
  · have k3 : decide (3 ≤ k) = true := decide_eq_true (by omega)
    have k8 : decide (k ≤ 8) = false := decide_eq_false (by omega)
    have k9 : decide (9 ≤ k) = true := decide_eq_true (by omega)
    have k11 : decide (k ≤ 11) = false := decide_eq_false (by omega)
    have k14 : decide (14 ≤ k) = true := decide_eq_true (by omega)
    have k21 : decide (k ≤ 21) = false := decide_eq_false (by omega)
    cases v4 with
    | true =>
      go_enter Tryz.func7, Tryz.ntmps7
      go_wp2_with fail
      go_ret2
      exact ⟨rfl, (Below.refl _ _).alloc (Nat.le_refl _) _⟩
    | false =>
      go_enter Tryz.func7, Tryz.ntmps7
      go_wp2_with fail
      go_ret2
      exact ⟨rfl, (Below.refl _ _).alloc (Nat.le_refl _) _⟩

end Go.Proofs.YthcnkbeognkjgaaGreatDoor
