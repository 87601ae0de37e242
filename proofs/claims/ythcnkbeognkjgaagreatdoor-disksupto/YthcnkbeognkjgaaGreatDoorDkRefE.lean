/-
  The document's disk, walked: Read, Used, Break, List, a new disk; what a nil disk answers.
-/
import Derived.Test.YthcnkbeognkjgaaGreatDoorDkRefD
namespace Go.Proofs.YthcnkbeognkjgaaGreatDoor
open Go.RowKit
open Rl

theorem refNew_any (c : Int) (w : World) : Calls Tryz.prog 6 #[.int .i64 c] w fun e w' => ∃ p, e = .returned (.pointer (some ⟨p, 0, none⟩)) ∧ RDisk w' (fun k => w.heap.size ≤ k ∧ k < w'.heap.size) p (.slice none 0 0) ⟨max c 0, [], -1⟩ ∧ Below w.heap.size w w' := by
  by_cases hc : c < 0
  · have hd : decide (c < 0) = true := decide_eq_true hc
    rw [show max c 0 = 0 by omega]
    go_enter Tryz.func6, Tryz.ntmps6
    go_wp2
    go_ret
    exact ⟨_, rfl, ⟨bx3_new w _ _ _ _, World.ownsRow_nil _ _ _ _, ⟨Nat.le_refl _, by simp⟩, fun k hk => (by cases hk), fun k hk => hk.2⟩, (Below.refl _ _).alloc (Nat.le_refl _) _⟩
  · have hd : decide (c < 0) = false := decide_eq_false hc
    rw [show max c 0 = c by omega]
    go_enter Tryz.func6, Tryz.ntmps6
    go_wp2
    go_ret
    exact ⟨_, rfl, ⟨bx3_new w _ _ _ _, World.ownsRow_nil _ _ _ _, ⟨Nat.le_refl _, by simp⟩, fun k hk => (by cases hk), fun k hk => hk.2⟩, (Below.refl _ _).alloc (Nat.le_refl _) _⟩

theorem refBreak_any (w : World) (S : Nat → Prop) (p : Nat) (fv : Value) (m : DiskM) (h : RDisk w S p fv m) (n : Int) :
    Calls Tryz.prog 38 #[.pointer (some ⟨p, 0, none⟩), .int .i64 n] w fun e w' => e = .returned (.int .i64 (if n < 0 then 5 else 0)) ∧ Becomes S w w' p (if n < 0 then m else { m with left := n }) := by
  obtain ⟨c0, c1, c2, f0, f1, f2, hl⟩ := h.box
  have HI := hide h
  clear h
  by_cases hn : n < 0
  · rw [if_pos hn, if_pos hn]
    have hd : decide (n < 0) = true := decide_eq_true hn
    go_enter Tryz.func38, Tryz.ntmps38
    go_wp2
    go_ret
    exact ⟨rfl, HI.out.becomes (Below.refl _ _)⟩
  · rw [if_neg hn, if_neg hn]
    have hd : decide (n < 0) = false := decide_eq_false hn
    go_enter Tryz.func38, Tryz.ntmps38
    go_wp2
    go_ret
    exact ⟨rfl, S, fv, HI.out.setLeft n, fun _ hk => .inl hk, touch_set _ HI.out.own⟩

theorem refUsedM_any (w : World) (S : Nat → Prop) (p : Nat) (fv : Value) (m : DiskM) (h : RDisk w S p fv m) (hu : usedF m.files ≤ 4194304) (hn : m.files.length ≤ 4194304) :
    Calls Tryz.prog 46 #[.pointer (some ⟨p, 0, none⟩)] w fun e w' => e = .returned (.tuple #[.int .i64 (usedF m.files : Int), .int .i64 0]) ∧ Below w.heap.size w w' := by
  have hc := refUsed_any w S p fv m h hu hn
  go_enter Tryz.func46, Tryz.ntmps46
  go_wp2_with (go_at_call 86; refine hc.mono ?_; rintro e w1 ⟨rfl, hb1⟩)
  go_ret2
  exact ⟨rfl, hb1⟩

set_option maxRecDepth 20000 in
set_option maxHeartbeats 2000000 in
theorem refRead_any (w : World) (S : Nat → Prop) (p : Nat) (fv : Value) (m : DiskM) (h : RDisk w S p fv m) (hn : m.files.length ≤ 4194304) (s : ByteArray) (hs : s.size ≤ 2097152) :
    Calls Tryz.prog 42 #[.pointer (some ⟨p, 0, none⟩), .string s] w fun e w' => e = .returned (.tuple #[.string (readS m s), .int .i64 (readE m s)]) ∧ Below w.heap.size w w' := by
  have HI := hide h
  have hR : ∀ a b, refPlace m s = a → refErr m s true = b → Calls Tryz.prog 85 #[.pointer (some ⟨p, 0, none⟩), .string s, .bool true] w fun e w' => e = .returned (.tuple #[.int .i64 a, .int .i64 b]) ∧ Below w.heap.size w w' := fun a b e1 e2 => by rw [← e1, ← e2]; exact refRefuses_any w S p fv m s true h hs hn
  by_cases hok : nameOk s = true
  · cases hp : placeF s m.files with
    | none =>
      have eS : readS m s = ⟨#[]⟩ := by unfold readS; rw [if_pos hok, lookF_none hp]
      have eE : readE m s = 7 := by unfold readE; rw [if_pos hok, lookF_none hp]
      rw [eS, eE]
      have hR1 := hR _ _ (name_none hok hp).1 (name_none hok hp).2.1
      clear hR h
      go_enter Tryz.func42, Tryz.ntmps42
      go_wp2_with (go_at_call 85; refine hR1.mono ?_; rintro e w1 ⟨rfl, hb1⟩)
      go_ret2
      exact ⟨rfl, hb1⟩
    | some k =>
      obtain ⟨hk, hlk, hkn⟩ := lookF_some hp
      obtain ⟨g, c, rfl⟩ := h.block (by omega)
      have eS : readS m s = m.files[k].data := by unfold readS; rw [if_pos hok, hlk]
      have eE : readE m s = 0 := by unfold readE; rw [if_pos hok, hlk]
      rw [eS, eE]
      have hR1 := hR _ _ (name_some hok hp).1 ((name_some hok hp).2 true)
      have hx : (k : Int) < (m.files.length : Int) := by omega
      have hk0 : (0 : Int) ≤ (k : Int) := by omega
      have HAT := hide (fun wx hb => (HI.out.later (w' := wx) hb).at hk)
      have HBX := hide (fun wx hb => (HI.out.later (w' := wx) hb).box)
      clear hR h eS eE hlk hkn hp
      generalize m.files[k] = f at *
      go_enter Tryz.func42, Tryz.ntmps42
      go_wp2_with (go_at_call 85; refine hR1.mono ?_; rintro e w1 ⟨rfl, hb1⟩; obtain ⟨q0, q1, q2, qf, ql⟩ := HAT.out w1 hb1; obtain ⟨d0, d1, d2, f0, f1, f2, dl⟩ := HBX.out w1 hb1; clear qf)
      go_ret2
      exact ⟨rfl, hb1⟩
  · have hok' : nameOk s = false := by simpa using hok
    have eS : readS m s = ⟨#[]⟩ := by unfold readS; rw [if_neg hok]
    have eE : readE m s = 6 := by unfold readE; rw [if_neg hok]
    rw [eS, eE]
    have hR1 := hR _ _ (name_no hok').2.1 ((name_no hok').2.2 true)
    clear hR h
    go_enter Tryz.func42, Tryz.ntmps42
    go_wp2_with (go_at_call 85; refine hR1.mono ?_; rintro e w1 ⟨rfl, hb1⟩)
    go_ret2
    exact ⟨rfl, hb1⟩

theorem nms_app (a : List ByteArray) (s : ByteArray) : nms (a ++ [s]) = nms a ++ [.string s] := by simp [nms]

theorem one_str (s : ByteArray) : ∀ u ∈ [Value.string s], u.oneCell' = true := by
  intro u hu; simp at hu; rcases hu with rfl; rfl

theorem info_str : (Tryz.prog.info? 9).map (fun i => (i.zero, i.size, i.bytes)) = some (some (.string ⟨#[]⟩), 1, 16) := by kernel_rfl

set_option maxRecDepth 20000 in
set_option maxHeartbeats 4000000 in
theorem refList_any (w : World) (S : Nat → Prop) (p : Nat) (fv : Value) (m : DiskM) (h : RDisk w S p fv m) (hn : m.files.length ≤ 4194304) :
    Calls Tryz.prog 44 #[.pointer (some ⟨p, 0, none⟩)] w fun e w' => ∃ v, e = .returned (.tuple #[v, .int .i64 0]) ∧ w'.ownsRow w.heap.size 9 1 v m.files.length (nms (m.files.map fun f => f.name)) ∧ Below w.heap.size w w' := by
  obtain ⟨i0, hi, hz0, hz1, hz2⟩ := info_parts info_str
  obtain ⟨c0, c1, c2, f0, f1, f2, hl⟩ := h.box
  have hr := rowAt_of_owns h.row
  obtain ⟨av, cv, rfl⟩ := slice_owned h.row
  clear h
  generalize m.files = l at *
  go_enter Tryz.func44, Tryz.ntmps44
  go_wp2
  go_loopw [4, 5] (fun x i wr => ∃ (k : Nat) (lv : Value), lv = x ∧ k ≤ l.length ∧ i = .int .i64 k ∧ wr.ownsRow w.heap.size 9 1 lv k (nms ((l.take k).map fun f => f.name)) ∧ Below w.heap.size w wr) (fun _ i _ => l.length - (intOf i).toNat)
  case atStart => exact ⟨0, _, rfl, Nat.zero_le _, rfl, World.ownsRow_nil _ _ _ _, Below.refl _ _⟩
  case round =>
    obtain ⟨k, lv, rfl, hk, rfl, hown, hb⟩ := hrel
    by_cases hlt : k < l.length
    · rcases (hr.later hb).2 with ⟨_, _, _, h0⟩ | ⟨g, o, cap, e, _, hbk, hc⟩
      · omega
      · cases e
        obtain ⟨g1, g2, g3⟩ := fileCells_get l k hlt
        have q0 : wr.cell? ⟨g, o + k * 3, none⟩ = _ := hc _ _ g1
        have d0 := (hb.cell (p := ⟨p, 0, none⟩) hl).trans c0
        have d1 := (hb.cell (p := ⟨p, 1, none⟩) hl).trans c1
        have HS : Hid (nms ((l.take (k + 1)).map fun f => f.name) = nms ((l.take k).map fun f => f.name) ++ [.string l[k].name]) := by
          unfold Hid; rw [List.take_succ_eq_append_getElem hlt, List.map_append, List.map_singleton, nms_app]
        clear hc g1 g2 g3 hr c0 c1 c2 f0 f1 f2
        have hx : (k : Int) < (l.length : Int) := by omega
        have hk0 : (0 : Int) ≤ (k : Int) := by omega
        generalize l[k].name = nm at *
        go_wp2_with (at_builtin; refine wpList_append_own _ rfl _ _ 28 rfl w.heap.size 9 i0 (.string ⟨#[]⟩) 1 16 Tryz.underlying28 hi hz0 hz1 hz2 rfl (by decide) _ _ _ rfl (hown.alloc _) ⟨wr.heap.size, 0, none⟩ 1 1 [.string nm] rfl rfl (cells_new _ _ _) (one_str nm) (by unfold maxLen; omega) (by omega) (Nat.le_trans hb.size (by simp)) ?_; intro v5 w5 hown5 hgrow5 _)
        exact ⟨⟨k + 1, v5, rfl, by omega, by go_num, by rw [HS.out]; exact hown5, below_app hb hb.size hown hgrow5⟩, by simp [intOf]; omega⟩
    · have e : k = l.length := by omega
      subst e
      have d0 := (hb.cell (p := ⟨p, 0, none⟩) hl).trans c0
      have d1 := (hb.cell (p := ⟨p, 1, none⟩) hl).trans c1
      have HO := hide hown
      clear hr c0 c1 c2 f0 f1 f2
      go_wp2
      go_ret2
      have ho := HO.out
      rw [List.take_length] at ho
      exact ⟨_, rfl, ho, hb⟩

theorem refAppend_none (s d : ByteArray) (w : World) : Calls Tryz.prog 28 #[.pointer none, .string s, .string d] w fun e w' => e = .returned (.int .i64 1) ∧ Below w.heap.size w w' := by
  go_enter Tryz.func28, Tryz.ntmps28
  go_wp2_with (first
    | (go_at_call 84; refine (refBroken_none _ _).mono ?_; rintro e w1 ⟨rfl, hb1⟩)
    | (go_at_call 85; refine (refRefuses_none _ _ _).mono ?_; rintro e w2 ⟨rfl, hb2⟩))
  go_ret
  exact ⟨rfl, later_below hb1 hb2 hb1.size⟩

theorem refSync_none (s : ByteArray) (w : World) : Calls Tryz.prog 30 #[.pointer none, .string s] w fun e w' => e = .returned (.int .i64 1) ∧ Below w.heap.size w w' := by
  go_enter Tryz.func30, Tryz.ntmps30
  go_wp2_with (first
    | (go_at_call 84; refine (refBroken_none _ _).mono ?_; rintro e w1 ⟨rfl, hb1⟩)
    | (go_at_call 85; refine (refRefuses_none _ _ _).mono ?_; rintro e w2 ⟨rfl, hb2⟩))
  go_ret
  exact ⟨rfl, later_below hb1 hb2 hb1.size⟩

theorem refDelete_none (s : ByteArray) (w : World) : Calls Tryz.prog 34 #[.pointer none, .string s] w fun e w' => e = .returned (.int .i64 1) ∧ Below w.heap.size w w' := by
  go_enter Tryz.func34, Tryz.ntmps34
  go_wp2_with (first
    | (go_at_call 84; refine (refBroken_none _ _).mono ?_; rintro e w1 ⟨rfl, hb1⟩)
    | (go_at_call 85; refine (refRefuses_none _ _ _).mono ?_; rintro e w2 ⟨rfl, hb2⟩))
  go_ret
  exact ⟨rfl, later_below hb1 hb2 hb1.size⟩

theorem refTruncate_none (s : ByteArray) (n : Int) (w : World) : Calls Tryz.prog 36 #[.pointer none, .string s, .int .i64 n] w fun e w' => e = .returned (.int .i64 1) ∧ Below w.heap.size w w' := by
  go_enter Tryz.func36, Tryz.ntmps36
  go_wp2_with (first
    | (go_at_call 84; refine (refBroken_none _ _).mono ?_; rintro e w1 ⟨rfl, hb1⟩)
    | (go_at_call 85; refine (refRefuses_none _ _ _).mono ?_; rintro e w2 ⟨rfl, hb2⟩))
  go_ret
  exact ⟨rfl, later_below hb1 hb2 hb1.size⟩

theorem refBreak_none (n : Int) (w : World) : Calls Tryz.prog 38 #[.pointer none, .int .i64 n] w fun e w' => e = .returned (.int .i64 1) ∧ Below w.heap.size w w' := by
  go_enter Tryz.func38, Tryz.ntmps38
  go_wp2
  go_ret
  exact ⟨rfl, Below.refl _ _⟩

theorem refCrash_none (kv : Value) (w : World) : Calls Tryz.prog 40 #[.pointer none, kv] w fun e w' => e = .returned (.int .i64 1) ∧ Below w.heap.size w w' := by
  go_enter Tryz.func40, Tryz.ntmps40
  go_wp2
  go_ret
  exact ⟨rfl, Below.refl _ _⟩

theorem refList_none (w : World) : Calls Tryz.prog 44 #[.pointer none] w fun e w' => e = .returned (.tuple #[.slice none 0 0, .int .i64 1]) ∧ Below w.heap.size w w' := by
  go_enter Tryz.func44, Tryz.ntmps44
  go_wp2
  go_ret2
  exact ⟨rfl, Below.refl _ _⟩

theorem refUsed_none (w : World) : Calls Tryz.prog 46 #[.pointer none] w fun e w' => e = .returned (.tuple #[.int .i64 0, .int .i64 1]) ∧ Below w.heap.size w w' := by
  go_enter Tryz.func46, Tryz.ntmps46
  go_wp2
  go_ret2
  exact ⟨rfl, Below.refl _ _⟩

theorem refRead_none (s : ByteArray) (w : World) : Calls Tryz.prog 42 #[.pointer none, .string s] w fun e w' => e = .returned (.tuple #[.string ⟨#[]⟩, .int .i64 1]) ∧ Below w.heap.size w w' := by
  go_enter Tryz.func42, Tryz.ntmps42
  go_wp2_with (go_at_call 85; refine (refRefuses_none _ _ _).mono ?_; rintro e w2 ⟨rfl, hb2⟩)
  go_ret2
  exact ⟨rfl, hb2⟩

theorem least_any (e f : Int) (w : World) : Calls Tryz.prog 91 #[.int .i64 e, .int .i64 f] w fun r w' => r = .returned (.int .i64 (if e = 0 then f else e)) ∧ w' = w := by
  by_cases he : e = 0
  · subst he
    go_enter Tryz.func91, Tryz.ntmps91
    go_wp2
    go_ret
    exact ⟨rfl, rfl⟩
  · rw [if_neg he]
    have hd : (e != 0) = true := by simpa using he
    go_enter Tryz.func91, Tryz.ntmps91
    go_wp2
    go_ret
    exact ⟨rfl, rfl⟩

theorem refRename_none (s t : ByteArray) (w : World) : Calls Tryz.prog 32 #[.pointer none, .string s, .string t] w fun e w' => e = .returned (.int .i64 1) ∧ Below w.heap.size w w' := by
  go_enter Tryz.func32, Tryz.ntmps32
  go_wp2_with (first
    | (go_at_call_of 85 (s); refine (refRefuses_none _ _ _).mono ?_; rintro e w1 ⟨rfl, hb1⟩)
    | (go_at_call_of 85 (t); refine (refRefuses_none _ _ _).mono ?_; rintro e w2 ⟨rfl, hb2⟩)
    | (go_at_call 91; refine (least_any _ _ _).mono ?_; rintro e w3 ⟨rfl, rfl⟩))
  go_ret
  exact ⟨rfl, later_below hb1 hb2 hb1.size⟩

end Go.Proofs.YthcnkbeognkjgaaGreatDoor
