/-
  The program's disk, walked: what every call goes through that changes files.
-/
import Derived.Test.YthcnkbeognkjgaaGreatDoorDkPut
import Derived.Shelf.Abstract
namespace Go.Proofs.YthcnkbeognkjgaaGreatDoor
open Go.RowKit Go.Shelf
open Rl

/-- what a call answers that changes files of these names, and what it makes of the disk: er, m2: what would be done. -/

theorem change_none (fv nv : Value) (w : World) : Calls Tryz.prog 137 #[.pointer none, fv, nv] w fun e w' => e = .returned (.int .i64 1) ∧ Below w.heap.size w w' := by
  have hc := fun wx => check_none nv wx
  go_enter Tryz.func137, Tryz.ntmps137
  go_wp2_with (go_at_call 146; refine (hc _).mono ?_; rintro e w1 ⟨rfl, hb1⟩)
  go_ret
  exact ⟨rfl, hb1⟩

set_option maxHeartbeats 4000000 in
theorem change_any (w : World) (S : Nat → Prop) (p b : Nat) (cv : ByteArray → Value) (m : DiskM) (h : IDisk w S p b cv m) (k : FuncId) (caps : Array Value) (hk : Enters Tryz.prog k) (nv : Value) (l : List ByteArray)
    (hx : l.length ≤ 1073741824) (hr : RowAt w nv l.length 1 (nms l)) (hs : ∀ s ∈ l, s.size ≤ 2097152) (er : Int) (m2 : DiskM) (hl2 : m2.left = m.left) (hm : -1 ≤ m.left) (hm2 : m.left ≤ 9223372036854775807)
    (hdo : allOk l = true → m.left ≠ 0 → ∀ w1, Below w.heap.size w w1 → Calls Tryz.prog k caps w1 fun e w2 => e = .returned (.int .i64 er) ∧ IBecomes S w1 w2 p b m2) :
    Calls Tryz.prog 137 #[.pointer (some ⟨p, 0, none⟩), .func (.func k) #[] caps, nv] w fun e w' => e = .returned (.int .i64 (changeE m l er)) ∧ IBecomes S w w' p b (changeM m l er m2) := by
  have hc := fun wx hb => check_any ⟨p, 0, none⟩ nv l wx hx (hr.later (w' := wx) hb) hs
  obtain ⟨c0, c1, c2, f0, f1, f2, hlt⟩ := h.box
  have HI := hide h
  clear h hr
  have ek : ∀ args w, (callFunc k args).run Tryz.prog w = .ok (.enter k args) w := hk
  by_cases ha : allOk l = true
  · rw [if_pos ha] at hc
    by_cases h0 : m.left = 0
    · have e1 : changeE m l er = 0 := by unfold changeE; rw [if_pos ha, if_pos h0]
      have e2 : changeM m l er m2 = m := by unfold changeM; rw [if_neg (fun x => x.2 h0)]
      rw [e1, e2]
      rw [h0] at c2
      clear e1 e2 hdo
      go_enter Tryz.func137, Tryz.ntmps137
      go_wp2_with (go_at_call 146; refine (hc _ (Below.refl _ _)).mono ?_; rintro e w1 ⟨rfl, hb1⟩; have d2 := (hb1.cell (p := ⟨p, 2, none⟩) hlt).trans c2)
      go_ret
      exact ⟨rfl, HI.out.becomes hb1⟩
    · have hdo2 := hide (hdo ha h0)
      have e1 : changeE m l er = er := by unfold changeE; rw [if_pos ha, if_neg h0]
      have e2 : changeM m l er m2 = (if er = 0 then { m2 with left := lessC m.left } else m2) := by unfold changeM; rw [if_pos ⟨ha, h0⟩]
      rw [e1, e2]
      clear e1 e2 hdo
      by_cases hr0 : er = 0
      · subst hr0
        rw [if_pos rfl]
        by_cases h1 : m.left = -1
        · have e3 : lessC m.left = m.left := by unfold lessC; rw [if_neg (by omega)]
          rw [e3, ← hl2]
          rw [h1] at c2
          go_enter Tryz.func137, Tryz.ntmps137
          go_wp2_with (first | (go_at_call 146; refine (hc _ (Below.refl _ _)).mono ?_; rintro e w1 ⟨rfl, hb1⟩; have d2 := (hb1.cell (p := ⟨p, 2, none⟩) hlt).trans c2) | (go_at_fn k; refine (hdo2.out _ hb1).mono ?_; rintro e w2 ⟨rfl, hbe⟩; obtain ⟨S', cv', hi2, hs2, ht2⟩ := id hbe; have c22 := hi2.box.c2; rw [hl2, h1] at c22))
          go_ret
          exact ⟨rfl, hbe.behind hb1⟩
        · have e3 : lessC m.left = m.left - 1 := by unfold lessC; rw [if_pos (by omega)]
          rw [e3]
          go_enter Tryz.func137, Tryz.ntmps137
          go_wp2_with (first | (go_at_call 146; refine (hc _ (Below.refl _ _)).mono ?_; rintro e w1 ⟨rfl, hb1⟩; have d2 := (hb1.cell (p := ⟨p, 2, none⟩) hlt).trans c2) | (go_at_fn k; refine (hdo2.out _ hb1).mono ?_; rintro e w2 ⟨rfl, hbe⟩; obtain ⟨S', cv', hi2, hs2, ht2⟩ := id hbe; have c22 := hi2.box.c2; rw [hl2] at c22; have f22 := hi2.box.f2))
          go_ret
          exact ⟨rfl, IBecomes.behind hb1 ⟨S', cv', hi2.setLeft _, hs2, ht2.set _ (hs2 p hi2.own)⟩⟩
      · rw [if_neg hr0]
        go_enter Tryz.func137, Tryz.ntmps137
        go_wp2_with (first | (go_at_call 146; refine (hc _ (Below.refl _ _)).mono ?_; rintro e w1 ⟨rfl, hb1⟩; have d2 := (hb1.cell (p := ⟨p, 2, none⟩) hlt).trans c2) | (go_at_fn k; refine (hdo2.out _ hb1).mono ?_; rintro e w2 ⟨rfl, hbe⟩))
        go_ret
        exact ⟨rfl, hbe.behind hb1⟩
  · rw [if_neg ha] at hc
    have e1 : changeE m l er = 6 := by unfold changeE; rw [if_neg ha]
    have e2 : changeM m l er m2 = m := by unfold changeM; rw [if_neg (fun x => ha x.1)]
    rw [e1, e2]
    clear e1 e2 hdo
    go_enter Tryz.func137, Tryz.ntmps137
    go_wp2_with (go_at_call 146; refine (hc _ (Below.refl _ _)).mono ?_; rintro e w1 ⟨rfl, hb1⟩)
    go_ret
    exact ⟨rfl, HI.out.becomes hb1⟩

end Go.Proofs.YthcnkbeognkjgaaGreatDoor
