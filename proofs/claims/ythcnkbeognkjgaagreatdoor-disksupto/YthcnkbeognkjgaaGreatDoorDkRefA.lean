/-
  The document's disk, walked: what looks at it; and the two that write how many calls are left.
-/
import Derived.Test.YthcnkbeognkjgaaGreatDoorDkHeap
import Derived.Deep.CutBlock
namespace Go.Proofs.YthcnkbeognkjgaaGreatDoor
open Go.RowKit
open Rl

theorem ret_b {a b : Bool} (h : a = b) : Ending.returned (.bool a) = .returned (.bool b) := by rw [h]

def brokenC (m : DiskM) (s : ByteArray) : Bool := decide (m.left = 0) && nameOk s

set_option maxHeartbeats 4000000 in
theorem refBroken_any (w : World) (S : Nat → Prop) (p : Nat) (fv : Value) (m : DiskM) (s : ByteArray) (h : RDisk w S p fv m) (_hs : s.size ≤ 2097152) :
    Calls Tryz.prog 84 #[.pointer (some ⟨p, 0, none⟩), .string s] w fun e w' => e = .returned (.bool (brokenC m s)) ∧ Below w.heap.size w w' := by
  obtain ⟨c0, c1, c2, f0, f1, f2, hl⟩ := h.box
  have HB : Hid (brokenC m s = (decide (m.left = 0) && (decide (1 ≤ s.size) && decide (s.size ≤ 8)))) := by unfold brokenC nameOk Hid; rw [Bool.decide_and]
  generalize brokenC m s = r at *
  clear h
  go_enter Tryz.func84, Tryz.ntmps84
  go_wp2
  all_goals
    go_ret
    refine ⟨ret_b ?_, Below.refl _ _⟩
    rw [HB.out]
    first
      | (rename_i a b; rw [decide_eq_true a, decide_eq_true (by omega : 1 ≤ s.size), Bool.true_and, Bool.true_and, decide_eq_decide]; omega)
      | (rename_i a b; rw [decide_eq_true a, decide_eq_false (by omega : ¬ 1 ≤ s.size)]; rfl)
      | (rename_i a; rw [decide_eq_false a]; rfl)

set_option maxHeartbeats 4000000 in
theorem refCounts_any (w : World) (S : Nat → Prop) (p : Nat) (fv : Value) (m : DiskM) (h : RDisk w S p fv m) (hm : m.left ≤ 9223372036854775807) :
    Calls Tryz.prog 88 #[.pointer (some ⟨p, 0, none⟩)] w fun e w' => e = .returned (.tuple #[]) ∧ RDisk w' S p fv { m with left := lessC m.left } ∧ Tch S w w' := by
  obtain ⟨c0, c1, c2, f0, f1, f2, hl⟩ := h.box
  have H := hide h
  have HP := hide h.own
  clear h
  by_cases hc : 0 < m.left
  · have e : lessC m.left = m.left - 1 := by unfold lessC; rw [if_pos hc]
    rw [e]
    clear e
    go_enter Tryz.func88, Tryz.ntmps88
    go_wp2
    refine bodyPost_end (results_none rfl _ _ _) rfl ?_
    exact ⟨rfl, H.out.setLeft _, touch_set _ HP.out⟩
  · have e : lessC m.left = m.left := by unfold lessC; rw [if_neg hc]
    rw [e]
    clear e
    go_enter Tryz.func88, Tryz.ntmps88
    go_wp2
    refine bodyPost_end (results_none rfl _ _ _) rfl ?_
    exact ⟨rfl, H.out, Tch.refl _ _⟩

set_option maxHeartbeats 4000000 in
theorem refUsed_any (w : World) (S : Nat → Prop) (p : Nat) (fv : Value) (m : DiskM) (h : RDisk w S p fv m) (hu : usedF m.files ≤ 4194304) (hn : m.files.length ≤ 4194304) :
    Calls Tryz.prog 86 #[.pointer (some ⟨p, 0, none⟩)] w fun e w' => e = .returned (.int .i64 (usedF m.files : Int)) ∧ Below w.heap.size w w' := by
  obtain ⟨c0, c1, c2, f0, f1, f2, hl⟩ := h.box
  have hr := rowAt_of_owns h.row
  have ho := h.row
  clear h
  obtain ⟨av, cv, rfl⟩ := slice_owned ho
  clear ho
  generalize m.files = l at *
  go_enter Tryz.func86, Tryz.ntmps86
  go_wp2
  go_loopw [3, 4] (fun x i wr => ∃ k : Nat, k ≤ l.length ∧ i = .int .i64 k ∧ x = .int .i64 (usedF (l.take k) : Int) ∧ Below w.heap.size w wr) (fun _ i _ => l.length - (intOf i).toNat)
  case atStart => exact ⟨0, Nat.zero_le _, rfl, rfl, Below.refl _ _⟩
  case round =>
    obtain ⟨k, hk, rfl, rfl, hb⟩ := hrel
    by_cases hlt : k < l.length
    · rcases (hr.later hb).2 with ⟨_, _, _, h0⟩ | ⟨g, o, cap, e, _, hbk, hc⟩
      · omega
      · cases e
        obtain ⟨g1, g2, g3⟩ := fileCells_get l k hlt
        have q2 : wr.cell? ⟨g, o + k * 3 + 1, none⟩ = _ := hc _ _ g2
        have d0 := (hb.cell (p := ⟨p, 0, none⟩) hl).trans c0
        have d1 := (hb.cell (p := ⟨p, 1, none⟩) hl).trans c1
        have ht := usedF_take l k hlt
        have hle := usedF_le l (k + 1)
        have HT := hide ht
        rw [ht] at hle
        generalize usedF (l.take k) = u at *
        generalize l[k].data = dt at *
        clear hc g1 g2 g3 hr ht c0 c1 c2 f0 f1 f2
        have hx : (k : Int) < (l.length : Int) := by omega
        have hk0 : (0 : Int) ≤ (k : Int) := by omega
        go_wp2
        exact ⟨⟨k + 1, by omega, by go_num, by rw [HT.out]; go_num, hb⟩, by simp [intOf]; omega⟩
    · have e : k = l.length := by omega
      subst e
      have d0 := (hb.cell (p := ⟨p, 0, none⟩) hl).trans c0
      have d1 := (hb.cell (p := ⟨p, 1, none⟩) hl).trans c1
      clear c0 c1 c2 f0 f1 f2 hr
      rw [List.take_length]
      go_wp2
      go_ret
      exact ⟨rfl, hb⟩

/-- what 'refuses' answers: the place, or below 0; the error. -/
def refPlace (m : DiskM) (s : ByteArray) : Int := if nameOk s = true then (match placeF s m.files with | some k => (k : Int) | none => -1) else -1
def refErr (m : DiskM) (s : ByteArray) (there : Bool) : Int := if nameOk s = true then (match placeF s m.files with | some _ => 0 | none => if there then 7 else 0) else 6

theorem ret_2 {a b c d : Int} (h1 : a = c) (h2 : b = d) : Ending.returned (.tuple #[.int .i64 a, .int .i64 b]) = .returned (.tuple #[.int .i64 c, .int .i64 d]) := by rw [h1, h2]

theorem nameOk_no {s : ByteArray} (h : s.size < 1 ∨ 8 < s.size) : nameOk s = false := by unfold nameOk; rw [decide_eq_false_iff_not]; omega
theorem nameOk_yes {s : ByteArray} (h1 : 1 ≤ s.size) (h2 : s.size ≤ 8) : nameOk s = true := by unfold nameOk; rw [decide_eq_true_iff]; exact ⟨h1, h2⟩

set_option maxHeartbeats 4000000 in
theorem refRefuses_any (w : World) (S : Nat → Prop) (p : Nat) (fv : Value) (m : DiskM) (s : ByteArray) (there : Bool) (h : RDisk w S p fv m) (_hs : s.size ≤ 2097152) (hn : m.files.length ≤ 4194304) :
    Calls Tryz.prog 85 #[.pointer (some ⟨p, 0, none⟩), .string s, .bool there] w fun e w' => e = .returned (.tuple #[.int .i64 (refPlace m s), .int .i64 (refErr m s there)]) ∧ Below w.heap.size w w' := by
  obtain ⟨c0, c1, c2, f0, f1, f2, hl⟩ := h.box
  have hr := rowAt_of_owns h.row
  obtain ⟨av, cv, rfl⟩ := slice_owned h.row
  clear h
  have HP : Hid (refPlace m s = if nameOk s = true then (match placeF s m.files with | some k => (k : Int) | none => -1) else -1) := rfl
  have HE : Hid (refErr m s there = if nameOk s = true then (match placeF s m.files with | some _ => 0 | none => if there then 7 else 0) else 6) := rfl
  generalize refPlace m s = rp at *
  generalize refErr m s there = re at *
  generalize m.files = l at *
  by_cases h1 : s.size < 1
  · have g1 : (s.size : Int) < 1 := by omega
    have e1 : rp = -1 := by rw [HP.out, if_neg (by rw [nameOk_no (.inl h1)]; simp)]
    have e2 : re = 6 := by rw [HE.out, if_neg (by rw [nameOk_no (.inl h1)]; simp)]
    rw [e1, e2]
    clear HP HE e1 e2
    go_enter Tryz.func85, Tryz.ntmps85
    go_wp2
    go_ret2
    exact ⟨rfl, Below.refl _ _⟩
  · by_cases h2 : 8 < s.size
    · have g1 : ¬ (s.size : Int) < 1 := by omega
      have g2 : 8 < (s.size : Int) := by omega
      have e1 : rp = -1 := by rw [HP.out, if_neg (by rw [nameOk_no (.inr h2)]; simp)]
      have e2 : re = 6 := by rw [HE.out, if_neg (by rw [nameOk_no (.inr h2)]; simp)]
      rw [e1, e2]
      clear HP HE e1 e2
      go_enter Tryz.func85, Tryz.ntmps85
      go_wp2
      go_ret2
      exact ⟨rfl, Below.refl _ _⟩
    · have g1 : ¬ (s.size : Int) < 1 := by omega
      have g2 : ¬ 8 < (s.size : Int) := by omega
      have hok := nameOk_yes (s := s) (by omega) (by omega)
      have KP : Hid (rp = match placeF s l with | some k => (k : Int) | none => -1) := by rw [Hid, HP.out, if_pos hok]
      have KE : Hid (re = match placeF s l with | some _ => 0 | none => if there then 7 else 0) := by rw [Hid, HE.out, if_pos hok]
      clear HP HE hok
      have n1 : decide ((s.size : Int) < 1) = false := decide_eq_false g1
      have n2 : decide (8 < (s.size : Int)) = false := decide_eq_false g2
      have n3 : decide (s.size < 1) = false := decide_eq_false h1
      have n4 : decide (8 < s.size) = false := decide_eq_false h2
      go_enter Tryz.func85, Tryz.ntmps85
      go_wp2
      go_loopw [8] (fun i wr => ∃ k : Nat, k ≤ l.length ∧ i = .int .i64 k ∧ (∀ j (hj : j < l.length), j < k → l[j].name ≠ s) ∧ wr = w) (fun i _ => l.length - (intOf i).toNat)
      case atStart => exact ⟨0, Nat.zero_le _, rfl, fun j _ hj => by omega, rfl⟩
      case round =>
        obtain ⟨k, hk, rfl, hno, rfl⟩ := hrel
        by_cases hlt : k < l.length
        · rcases hr.2 with ⟨_, _, _, h0⟩ | ⟨g, o, cap, e, _, hbk, hc⟩
          · omega
          · cases e
            obtain ⟨q1, q2, q3⟩ := fileCells_get l k hlt
            have c3 : wr.cell? ⟨g, o + k * 3, none⟩ = _ := hc _ _ q1
            have hx : (k : Int) < (l.length : Int) := by omega
            have hk0 : (0 : Int) ≤ (k : Int) := by omega
            have HN := hide (fun h => placeF_at (name := s) hno hlt h)
            have HM : Hid (l[k].name ≠ s → ∀ j (hj : j < l.length), j < k + 1 → l[j].name ≠ s) := fun hne j hj hjk => by
              by_cases hjk2 : j < k
              · exact hno j hj hjk2
              · have : j = k := by omega
                subst this; exact hne
            clear hc q1 q2 q3 hr hno
            generalize l[k].name = nm at *
            by_cases hs : nm = s
            · have KN := hide (HN.out hs)
              rw [KN.out] at KP KE
              subst hs
              clear HM HN
              go_wp2
              go_ret2
              exact ⟨ret_2 KP.out.symm KE.out.symm, Below.refl _ _⟩
            · have KM := hide (HM.out hs)
              have hs2 := str_ne hs
              clear HM HN
              go_wp2
              exact ⟨⟨k + 1, by omega, by go_num, KM.out, trivial⟩, by simp [intOf]; omega⟩
        · have KN := hide (placeF_no (name := s) (l := l) (fun j hj => hno j hj (by omega)))
          clear hr hno
          rw [KN.out] at KP KE
          have hx : ¬ (k : Int) < (l.length : Int) := by omega
          cases there with
          | true =>
            go_wp2
            go_ret2
            exact ⟨ret_2 KP.out.symm KE.out.symm, Below.refl _ _⟩
          | false =>
            go_wp2
            go_ret2
            exact ⟨ret_2 KP.out.symm KE.out.symm, Below.refl _ _⟩

end Go.Proofs.YthcnkbeognkjgaaGreatDoor
