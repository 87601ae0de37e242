/-
  The document's disk, walked: Rename.
-/
import Derived.Test.YthcnkbeognkjgaaGreatDoorDkRefE
namespace Go.Proofs.YthcnkbeognkjgaaGreatDoor
open Go.RowKit
open Rl

namespace Rl
theorem allOk_two (a b : ByteArray) : allOk [a, b] = (nameOk a && nameOk b) := by simp [allOk]

theorem Bx3.becomes {w w' : World} {S : Nat → Prop} {n : Nat} {a b c : Value} (h : Bx3 w n a b c) (ht : Tch S w w') (hn : ¬ S n) : Bx3 w' n a b c := h.touch ht hn

theorem RDisk.box_set {w : World} {S : Nat → Prop} {p N : Nat} {fv : Value} {m : DiskM} (h : RDisk w S p fv m) (hn : ¬ S N) (i : Nat) (u : Value) : RDisk (w.setCell ⟨N, i, none⟩ u) S p fv m :=
  h.touch (touch_set (S := fun k => k = N) (p := ⟨N, i, none⟩) u rfl) (fun k hk e => hn (by rw [← e]; exact hk))

theorem not_new {w : World} {o : Obj} {S S5 : Nat → Prop} (hs : ∀ k, S5 k → S k ∨ (w.alloc o).heap.size ≤ k) (hn : ¬ S w.heap.size) : ¬ S5 w.heap.size := by
  intro h
  rcases hs _ h with x | x
  · exact hn x
  · simp at x; omega

theorem not_new2 {w : World} {N : Nat} {S S5 : Nat → Prop} (hs : ∀ k, S5 k → S k ∨ w.heap.size ≤ k) (hn : ¬ S N) (hl : N < w.heap.size) : ¬ S5 N := by
  intro h
  rcases hs _ h with x | x
  · exact hn x
  · omega

theorem ren_a {S : Nat → Prop} {w w4 w5 : World} {o : Obj} (hd : Below w.heap.size w w4) (ht : Tch S (w4.alloc o) w5) : Tch S w w5 :=
  (Tch.ofBelow (S := S) (hd.alloc hd.size o)).trans ht (fun _ h => .inl h)

/-- the end of a Rename: w5 behind the first drop, w7 ahead of the name's store. -/
theorem ren_end {S S5 S7 S8 T : Nat → Prop} {w w4 w5 w7 w8 w9 : World} {o : Obj} {p : Nat} {fv8 : Value} {m2 : DiskM} {u : Value} (tA : Tch S w w5) (hs5 : ∀ k, S5 k → S k ∨ (w4.alloc o).heap.size ≤ k)
    (t7 : Tch T w5 w7) (hT : ∀ k, T k → S5 k) (hs7 : ∀ k, S7 k → S5 k ∨ w5.heap.size ≤ k) (h4 : w.heap.size ≤ w4.heap.size)
    (hs8 : ∀ k, S8 k → S7 k ∨ (w7.setCell ⟨w4.heap.size, 0, none⟩ u).heap.size ≤ k) (t8 : Tch S7 (w7.setCell ⟨w4.heap.size, 0, none⟩ u) w8) (hd9 : RDisk w9 S8 p fv8 m2) (t9 : Tch S8 w8 w9) : Becomes S w w9 p m2 := by
  have hz : w.heap.size ≤ (w4.alloc o).heap.size := by simp; omega
  have h5 : ∀ k, S5 k → S k ∨ w.heap.size ≤ k := fun k hk => (hs5 k hk).imp id (fun x => Nat.le_trans hz x)
  have h7 : ∀ k, S7 k → S k ∨ w.heap.size ≤ k := fun k hk => by
    rcases hs7 k hk with x | x
    · exact h5 k x
    · exact .inr (Nat.le_trans tA.size x)
  have tB := tA.trans t7 (fun k hk => h5 k (hT k hk))
  have tC : Tch S w (w7.setCell ⟨w4.heap.size, 0, none⟩ u) := tB.set (p := ⟨w4.heap.size, 0, none⟩) u (.inr h4)
  have h8 : ∀ k, S8 k → S k ∨ w.heap.size ≤ k := fun k hk => by
    rcases hs8 k hk with x | x
    · exact h7 k x
    · exact .inr (Nat.le_trans tC.size x)
  exact ⟨S8, fv8, hd9, h8, (tC.trans t8 h7).trans t9 h8⟩

/-- a file of the document's disk put behind another one's going. -/
theorem put_over {l : List FileM} (ho : Ord l) (f : FileM) {k : Nat} (hp : placeF f.name l = some k) : putF f (l.eraseIdx k) = setF f l := by
  obtain ⟨hk, _, hn⟩ := lookF_some hp
  rw [setF_at hp, putF_erase ho hk hn]
end Rl

set_option maxRecDepth 20000 in
set_option maxHeartbeats 4000000 in
theorem refRename_any (w : World) (S : Nat → Prop) (p : Nat) (fv : Value) (m : DiskM) (h : RDisk w S p fv m) (ho : Ord m.files) (hn : m.files.length ≤ 4194304) (hl1 : m.left ≤ 9223372036854775807) (s t : ByteArray) (hs : s.size ≤ 2097152) (ht : t.size ≤ 2097152) :
    Calls Tryz.prog 32 #[.pointer (some ⟨p, 0, none⟩), .string s, .string t] w fun e w' => e = .returned (.int .i64 (changeE m [t, s] (fileE m s 0))) ∧ Becomes S w w' p (changeM m [t, s] (fileE m s 0) (fileM m s (renameM m s t))) := by
  have HI := hide h
  have hB : ∀ wx r, Below w.heap.size w wx → brokenC m s = r → Calls Tryz.prog 84 #[.pointer (some ⟨p, 0, none⟩), .string s] wx fun e w' => e = .returned (.bool r) ∧ Below wx.heap.size wx w' := fun wx r hb e => by rw [← e]; exact refBroken_any wx S p fv m s (HI.out.later hb) hs
  have hR : ∀ wx x y a b, x.size ≤ 2097152 → Below w.heap.size w wx → refPlace m x = a → refErr m x y = b → Calls Tryz.prog 85 #[.pointer (some ⟨p, 0, none⟩), .string x, .bool y] wx fun e w' => e = .returned (.tuple #[.int .i64 a, .int .i64 b]) ∧ Below wx.heap.size wx w' := fun wx x y a b hx hb e1 e2 => by rw [← e1, ← e2]; exact refRefuses_any wx S p fv m x y (HI.out.later hb) hx hn
  obtain ⟨pa, hpa⟩ : ∃ a, refPlace m s = a := ⟨_, rfl⟩
  obtain ⟨pb, hpb⟩ : ∃ a, refPlace m t = a := ⟨_, rfl⟩
  by_cases hok : nameOk s = true
  · have e1 : refErr m s false = 0 := by unfold refErr; rw [if_pos hok]; cases placeF s m.files <;> rfl
    have hR1 := fun wx hb => hR wx s false _ _ hs hb hpa e1
    by_cases hokt : nameOk t = true
    · have e2 : refErr m t false = 0 := by unfold refErr; rw [if_pos hokt]; cases placeF t m.files <;> rfl
      have hR2 := fun wx hb => hR wx t false _ _ ht hb hpb e2
      have hall : allOk [t, s] = true := by rw [allOk_two, hok, hokt]; rfl
      by_cases hl : m.left = 0
      · have eE : changeE m [t, s] (fileE m s 0) = 0 := by unfold changeE; rw [if_pos hall, if_pos hl]
        have eM : changeM m [t, s] (fileE m s 0) (fileM m s (renameM m s t)) = m := by unfold changeM; rw [if_neg (fun h => h.2 hl)]
        rw [eE, eM]
        have hB1 := fun wx hb => hB wx true hb (name_broken hok hl)
        clear hB hR eE eM h
        go_enter Tryz.func32, Tryz.ntmps32
        go_wp2_with (first
          | (go_at_call_of 85 (s); refine (hR1 w (Below.refl _ _)).mono ?_; rintro e w1 ⟨rfl, hb1⟩)
          | (go_at_call_of 85 (t); refine (hR2 w1 hb1).mono ?_; rintro e w2 ⟨rfl, hb2⟩; have hb := later_below hb1 hb2 hb1.size)
          | (go_at_call 84; refine (hB1 w2 hb).mono ?_; rintro e w3 ⟨rfl, hb3⟩))
        go_ret
        exact ⟨rfl, HI.out.becomes (later_below hb hb3 hb.size)⟩
      · have hB1 := fun wx hb => hB wx false hb (name_whole hl)
        cases hp : placeF s m.files with
        | none =>
          have eF : fileE m s 0 = 7 := by unfold fileE; rw [lookF_none hp]; rfl
          have eE : changeE m [t, s] (fileE m s 0) = 7 := by unfold changeE; rw [if_pos hall, if_neg hl, eF]
          have eM : changeM m [t, s] (fileE m s 0) (fileM m s (renameM m s t)) = m := by unfold changeM fileM; rw [if_pos ⟨hall, hl⟩, eF, if_neg (by decide), lookF_none hp]; rfl
          rw [eE, eM]
          have hR3 := fun wx hb => hR wx s true _ _ hs hb (name_none hok hp).1 (name_none hok hp).2.1
          clear hB hR eE eM h
          go_enter Tryz.func32, Tryz.ntmps32
          go_wp2_with (first
            | (go_at_call_of 85 (t); refine (hR2 w1 hb1).mono ?_; rintro e w2 ⟨rfl, hb2⟩; have hb := later_below hb1 hb2 hb1.size)
            | (go_at_call 84; refine (hB1 w2 hb).mono ?_; rintro e w3 ⟨rfl, hb3⟩; have hc := later_below hb hb3 hb.size)
            | (go_at_call_of 85 (true); refine (hR3 w3 hc).mono ?_; rintro e w4 ⟨rfl, hb4⟩)
            | (go_at_call_of 85 (s); refine (hR1 w (Below.refl _ _)).mono ?_; rintro e w1 ⟨rfl, hb1⟩))
          go_ret
          exact ⟨rfl, HI.out.becomes (later_below hc hb4 hc.size)⟩
        | some k =>
          obtain ⟨hk, hlk, hkn⟩ := lookF_some hp
          obtain ⟨g, c, rfl⟩ := h.block (by omega)
          have eF : fileE m s 0 = 0 := by unfold fileE; rw [hlk]; rfl
          have eE : changeE m [t, s] (fileE m s 0) = 0 := by unfold changeE; rw [if_pos hall, if_neg hl, eF]
          have eM : changeM m [t, s] (fileE m s 0) (fileM m s (renameM m s t)) = { m with files := setF (namedF m.files[k] t) (m.files.eraseIdx k), left := lessC m.left } := by
            unfold changeM fileM renameM; rw [if_pos ⟨hall, hl⟩, eF, if_pos rfl, hlk, hp]; rfl
          rw [eE, eM]
          have hR3 := fun wx hb => hR wx s true _ _ hs hb (name_some hok hp).1 ((name_some hok hp).2 true)
          have hD := fun wx hb => refDrop_any wx S p _ m k (HI.out.later hb) hn hk
          have hx : (k : Int) < (m.files.length : Int) := by omega
          have hk0 : (0 : Int) ≤ (k : Int) := by omega
          have HAT := hide (fun wx hb => (HI.out.later (w' := wx) hb).at hk)
          have HBX := hide (fun wx hb => (HI.out.later (w' := wx) hb).box)
          have HLT := hide (fun wx (hb : Below w.heap.size w wx) => (HI.out.later (w' := wx) hb).lt)
          have hne : (m.files.eraseIdx k).length ≤ 4194304 := Nat.le_trans (List.length_eraseIdx_le _ _) hn
          have hoe : Ord (m.files.eraseIdx k) := ord_erase k ho
          clear hB hR eE eM h hlk hkn
          generalize m.files[k] = f at *
          generalize m.files.eraseIdx k = l at *
          have HNS : Hid (∀ j, w.heap.size ≤ j → ¬ S j) := fun j hj hs => by have := HLT.out w (Below.refl _ _) j hs; omega
          clear HLT
          cases hq : placeF t l with
          | none =>
            have hq2 : setF (namedF f t) l = putF (namedF f t) l := setF_new (f := namedF f t) hq
            rw [hq2]
            have hR4 : ∀ wx S2 fv2, RDisk wx S2 p fv2 { m with files := l } → Calls Tryz.prog 85 #[.pointer (some ⟨p, 0, none⟩), .string t, .bool false] wx fun e w' => e = .returned (.tuple #[.int .i64 (-1), .int .i64 0]) ∧ Below wx.heap.size wx w' := fun wx S2 fv2 hd => by
              have := refRefuses_any wx S2 p fv2 _ t false hd ht hne
              rwa [(name_none (m := { m with files := l }) hokt hq).1, (name_none (m := { m with files := l }) hokt hq).2.2] at this
            clear hq2 hq hoe
            go_enter Tryz.func32, Tryz.ntmps32
            go_wp2_with (first
              | (go_at_call 84; refine (hB1 w2 hb).mono ?_; rintro e w3 ⟨rfl, hb3⟩; have hc := later_below hb hb3 hb.size)
              | (go_at_call_of 85 (true); refine (hR3 w3 hc).mono ?_; rintro e w4 ⟨rfl, hb4⟩; have hd := later_below hc hb4 hc.size; obtain ⟨q0, q1, q2, qf, ql⟩ := HAT.out w4 hd; obtain ⟨d0, d1, d2, f0, f1, f2, dl⟩ := HBX.out w4 hd; clear qf)
              | (go_at_call_of 85 (t); refine (hR2 w1 hb1).mono ?_; rintro e w2 ⟨rfl, hb2⟩; have hb := later_below hb1 hb2 hb1.size)
              | (go_at_call_of 85 (s); refine (hR1 w (Below.refl _ _)).mono ?_; rintro e w1 ⟨rfl, hb1⟩)
              | (go_at_call_of 85 (t); refine (hR4 w5 S5 fv5 hd5).mono ?_; rintro e w6 ⟨rfl, hb6⟩; have hd6 := hd5.later hb6; have bx6 := bx5.later hb6; obtain ⟨x0, x1, x2, y0, y1, y2, xl⟩ := bx6)
              | (go_at_call_of 92 (k); refine (hD _ (hd.alloc hd.size _)).mono ?_; rintro e w5 ⟨rfl, S5, fv5, hd5, hs5, ht5⟩; have bx5 := (bx3_new w4 (.string f.name) (.string f.data) (.int .i64 (f.sync : Int)) 127).touch ht5 (HNS.out _ hd.size); have hn5 := not_new hs5 (HNS.out _ hd.size); have tA := ren_a (S := S) hd ht5; clear q0 q1 q2 ql d0 d1 d2 f0 f1 f2 dl)
              | (go_at_call 87; refine (refPut_any _ S5 p fv5 { m with files := l } (namedF f t) (hd6.box_set hn5 _ _) hne).mono ?_; rintro e w8 ⟨rfl, S8, fv8, hd8, hs8, ht8⟩)
              | (go_at_call 88; refine (refCounts_any w8 S8 p fv8 _ hd8 hl1).mono ?_; rintro e w9 ⟨rfl, hd9, ht9⟩))
            go_ret
            exact ⟨rfl, ren_end tA hs5 (Tch.ofBelow (S := fun _ => False) hb6) (fun _ x => x.elim) (fun k h => .inl h) hd.size hs8 ht8 hd9 ht9⟩
          | some k2 =>
            have hq2 : setF (namedF f t) l = putF (namedF f t) (l.eraseIdx k2) := (put_over hoe (namedF f t) hq).symm
            rw [hq2]
            have hR4 : ∀ wx S2 fv2, RDisk wx S2 p fv2 { m with files := l } → Calls Tryz.prog 85 #[.pointer (some ⟨p, 0, none⟩), .string t, .bool false] wx fun e w' => e = .returned (.tuple #[.int .i64 (k2 : Int), .int .i64 0]) ∧ Below wx.heap.size wx w' := fun wx S2 fv2 hd => by
              have := refRefuses_any wx S2 p fv2 _ t false hd ht hne
              rwa [(name_some (m := { m with files := l }) hokt hq).1, (name_some (m := { m with files := l }) hokt hq).2 false] at this
            obtain ⟨hk2, _, _⟩ := lookF_some hq
            have hD2 := fun wx S2 fv2 (hd : RDisk wx S2 p fv2 { m with files := l }) => refDrop_any wx S2 p fv2 _ k2 hd hne hk2
            have hne2 : (l.eraseIdx k2).length ≤ 4194304 := Nat.le_trans (List.length_eraseIdx_le _ _) hne
            have hk20 : decide ((0 : Int) ≤ (k2 : Int)) = true := decide_eq_true (by omega)
            have hk21 : decide ((k2 : Int) ≥ (0 : Int)) = true := decide_eq_true (by omega)
            clear hq2 hq hoe
            generalize l.eraseIdx k2 = l2 at *
            go_enter Tryz.func32, Tryz.ntmps32
            go_wp2_with (first
              | (go_at_call 84; refine (hB1 w2 hb).mono ?_; rintro e w3 ⟨rfl, hb3⟩; have hc := later_below hb hb3 hb.size)
              | (go_at_call_of 85 (true); refine (hR3 w3 hc).mono ?_; rintro e w4 ⟨rfl, hb4⟩; have hd := later_below hc hb4 hc.size; obtain ⟨q0, q1, q2, qf, ql⟩ := HAT.out w4 hd; obtain ⟨d0, d1, d2, f0, f1, f2, dl⟩ := HBX.out w4 hd; clear qf)
              | (go_at_call_of 85 (t); refine (hR2 w1 hb1).mono ?_; rintro e w2 ⟨rfl, hb2⟩; have hb := later_below hb1 hb2 hb1.size)
              | (go_at_call_of 85 (s); refine (hR1 w (Below.refl _ _)).mono ?_; rintro e w1 ⟨rfl, hb1⟩)
              | (go_at_call_of 85 (t); refine (hR4 w5 S5 fv5 hd5).mono ?_; rintro e w6 ⟨rfl, hb6⟩; have hd6 := hd5.later hb6; have bx6 := bx5.later hb6; obtain ⟨x0, x1, x2, y0, y1, y2, xl⟩ := bx6)
              | (go_at_call_of 92 (k); refine (hD _ (hd.alloc hd.size _)).mono ?_; rintro e w5 ⟨rfl, S5, fv5, hd5, hs5, ht5⟩; have bx5 := (bx3_new w4 (.string f.name) (.string f.data) (.int .i64 (f.sync : Int)) 127).touch ht5 (HNS.out _ hd.size); have hn5 := not_new hs5 (HNS.out _ hd.size); have tA := ren_a (S := S) hd ht5; clear q0 q1 q2 ql d0 d1 d2 f0 f1 f2 dl)
              | (go_at_call_of 92 (k2); refine (hD2 _ S5 fv5 hd6).mono ?_; rintro e w7 ⟨rfl, S7, fv7, hd7, hs7, ht7⟩; have bx7 := (Bx3.mk x0 x1 x2 y0 y1 y2 xl).touch ht7 hn5; have hn7 := not_new2 hs7 hn5 xl; clear x0 x1 x2 y0 y1 y2 xl; obtain ⟨x0, x1, x2, y0, y1, y2, xl⟩ := bx7)
              | (go_at_call 87; refine (refPut_any _ S7 p fv7 { m with files := l2 } (namedF f t) (hd7.box_set hn7 _ _) hne2).mono ?_; rintro e w8 ⟨rfl, S8, fv8, hd8, hs8, ht8⟩)
              | (go_at_call 88; refine (refCounts_any w8 S8 p fv8 _ hd8 hl1).mono ?_; rintro e w9 ⟨rfl, hd9, ht9⟩))
            go_ret
            exact ⟨rfl, ren_end tA hs5 ((Tch.ofBelow (S := S5) hb6).trans ht7 (fun _ h => .inl h)) (fun _ x => x) (fun k h => (hs7 k h).imp id (fun x => Nat.le_trans hb6.size x)) hd.size hs8 ht8 hd9 ht9⟩
    · have hokt' : nameOk t = false := by simpa using hokt
      have hall : allOk [t, s] = false := by rw [allOk_two, hokt']; rfl
      have eE : changeE m [t, s] (fileE m s 0) = 6 := by unfold changeE; rw [if_neg (by rw [hall]; simp)]
      have eM : changeM m [t, s] (fileE m s 0) (fileM m s (renameM m s t)) = m := by unfold changeM; rw [if_neg (fun h => by rw [hall] at h; simp at h)]
      rw [eE, eM]
      have hR2 := fun wx hb => hR wx t false _ _ ht hb hpb ((name_no hokt').2.2 false)
      clear hB hR eE eM h
      go_enter Tryz.func32, Tryz.ntmps32
      go_wp2_with (first
        | (go_at_call_of 85 (t); refine (hR2 w1 hb1).mono ?_; rintro e w2 ⟨rfl, hb2⟩; have hb := later_below hb1 hb2 hb1.size)
        | (go_at_call_of 85 (s); refine (hR1 w (Below.refl _ _)).mono ?_; rintro e w1 ⟨rfl, hb1⟩)
        | (go_at_call 91; refine (least_any _ _ _).mono ?_; rintro e w3 ⟨rfl, rfl⟩))
      go_ret
      exact ⟨rfl, HI.out.becomes hb⟩
  · have hok' : nameOk s = false := by simpa using hok
    have hall : allOk [t, s] = false := by rw [allOk_two, hok']; simp
    have eE : changeE m [t, s] (fileE m s 0) = 6 := by unfold changeE; rw [if_neg (by rw [hall]; simp)]
    have eM : changeM m [t, s] (fileE m s 0) (fileM m s (renameM m s t)) = m := by unfold changeM; rw [if_neg (fun h => by rw [hall] at h; simp at h)]
    rw [eE, eM]
    have hR1 := fun wx hb => hR wx s false _ _ hs hb hpa ((name_no hok').2.2 false)
    obtain ⟨eb, heb⟩ : ∃ b, refErr m t false = b := ⟨_, rfl⟩
    have hR2 := fun wx hb => hR wx t false _ _ ht hb hpb heb
    clear hB hR eE eM h heb
    go_enter Tryz.func32, Tryz.ntmps32
    go_wp2_with (first
      | (go_at_call_of 85 (t); refine (hR2 w1 hb1).mono ?_; rintro e w2 ⟨rfl, hb2⟩; have hb := later_below hb1 hb2 hb1.size)
      | (go_at_call_of 85 (s); refine (hR1 w (Below.refl _ _)).mono ?_; rintro e w1 ⟨rfl, hb1⟩)
      | (go_at_call 91; refine (least_any _ _ _).mono ?_; rintro e w3 ⟨rfl, rfl⟩))
    go_ret
    exact ⟨rfl, HI.out.becomes hb⟩

end Go.Proofs.YthcnkbeognkjgaaGreatDoor
