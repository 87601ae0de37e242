/-
  The document's disk, walked: Delete, Truncate, Append.
-/
import Derived.Test.YthcnkbeognkjgaaGreatDoorDkRefC
namespace Go.Proofs.YthcnkbeognkjgaaGreatDoor
open Go.RowKit
open Rl

theorem wrap_fits {n : Int} (h0 : -9223372036854775808 ≤ n) (h1 : n ≤ 9223372036854775807) : IntKind.i64.wrap n = n := by rw [IntKind.wrap_i64]; omega

set_option maxRecDepth 20000 in
set_option maxHeartbeats 4000000 in
theorem refDelete_any (w : World) (S : Nat → Prop) (p : Nat) (fv : Value) (m : DiskM) (h : RDisk w S p fv m) (hn : m.files.length ≤ 4194304) (_hu : usedF m.files ≤ 4194304) (hl1 : m.left ≤ 9223372036854775807) (s : ByteArray) (hs : s.size ≤ 2097152) :
    Calls Tryz.prog 34 #[.pointer (some ⟨p, 0, none⟩), .string s] w fun e w' => e = .returned (.int .i64 (changeE m [s] (fileE m s 0))) ∧ Becomes S w w' p (changeM m [s] (fileE m s 0) (fileM m s (deleteM m s))) := by
  have HI := hide h
  have hB : ∀ r, brokenC m s = r → Calls Tryz.prog 84 #[.pointer (some ⟨p, 0, none⟩), .string s] w fun e w' => e = .returned (.bool r) ∧ Below w.heap.size w w' := fun r e => by rw [← e]; exact refBroken_any w S p fv m s h hs
  have hR : ∀ wx a b, Below w.heap.size w wx → refPlace m s = a → refErr m s true = b → Calls Tryz.prog 85 #[.pointer (some ⟨p, 0, none⟩), .string s, .bool true] wx fun e w' => e = .returned (.tuple #[.int .i64 a, .int .i64 b]) ∧ Below wx.heap.size wx w' := fun wx a b hb e1 e2 => by rw [← e1, ← e2]; exact refRefuses_any wx S p fv m s true (HI.out.later hb) hs hn
  by_cases hok : nameOk s = true
  · by_cases hl : m.left = 0
    · have eE : changeE m [s] (fileE m s 0) = 0 := by unfold changeE; rw [allOk_one, if_pos hok, if_pos hl]
      have eM : changeM m [s] (fileE m s 0) (fileM m s (deleteM m s)) = m := by unfold changeM; rw [if_neg (fun h => h.2 hl)]
      rw [eE, eM]
      have hB1 := hB true (name_broken hok hl)
      clear hB hR eE eM h
      go_enter Tryz.func34, Tryz.ntmps34
      go_wp2_with (go_at_call 84; refine hB1.mono ?_; rintro e w1 ⟨rfl, hb1⟩)
      go_ret
      exact ⟨rfl, HI.out.becomes hb1⟩
    · have hB1 := hB false (name_whole hl)
      cases hp : placeF s m.files with
      | none =>
        have eF : fileE m s 0 = 7 := by unfold fileE; rw [lookF_none hp]; rfl
        have eE : changeE m [s] (fileE m s 0) = 7 := by unfold changeE; rw [allOk_one, if_pos hok, if_neg hl, eF]
        have eM : changeM m [s] (fileE m s 0) (fileM m s (deleteM m s)) = m := by unfold changeM fileM; rw [allOk_one, if_pos ⟨hok, hl⟩, eF, if_neg (by decide), lookF_none hp]; rfl
        rw [eE, eM]
        have hR1 := fun wx hb => hR wx _ _ hb (name_none hok hp).1 (name_none hok hp).2.1
        clear hB hR eE eM h
        go_enter Tryz.func34, Tryz.ntmps34
        go_wp2_with (first
          | (go_at_call 84; refine hB1.mono ?_; rintro e w1 ⟨rfl, hb1⟩)
          | (go_at_call 85; refine (hR1 w1 hb1).mono ?_; rintro e w2 ⟨rfl, hb2⟩; have hb := later_below hb1 hb2 hb1.size))
        go_ret
        exact ⟨rfl, HI.out.becomes hb⟩
      | some k =>
        obtain ⟨hk, hlk, hkn⟩ := lookF_some hp
        have eF : fileE m s 0 = 0 := by unfold fileE; rw [hlk]; rfl
        have eE : changeE m [s] (fileE m s 0) = 0 := by unfold changeE; rw [allOk_one, if_pos hok, if_neg hl, eF]
        have eM : changeM m [s] (fileE m s 0) (fileM m s (deleteM m s)) = { m with files := m.files.eraseIdx k, left := lessC m.left } := by
          unfold changeM fileM deleteM; rw [allOk_one, if_pos ⟨hok, hl⟩, eF, if_pos rfl, hlk, hp]; rfl
        rw [eE, eM]
        have hR1 := fun wx hb => hR wx _ _ hb (name_some hok hp).1 ((name_some hok hp).2 true)
        have hD := fun wx hb => refDrop_any wx S p fv m k (HI.out.later hb) hn hk
        clear hB hR eE eM h hlk hkn hp
        go_enter Tryz.func34, Tryz.ntmps34
        go_wp2_with (first
          | (go_at_call 84; refine hB1.mono ?_; rintro e w1 ⟨rfl, hb1⟩)
          | (go_at_call 85; refine (hR1 w1 hb1).mono ?_; rintro e w2 ⟨rfl, hb2⟩; have hb := later_below hb1 hb2 hb1.size)
          | (go_at_call 92; refine (hD w2 hb).mono ?_; rintro e w3 ⟨rfl, S3, fv3, hd3, hs3, ht3⟩)
          | (go_at_call 88; refine (refCounts_any w3 S3 p fv3 _ hd3 hl1).mono ?_; rintro e w4 ⟨rfl, hd4, ht4⟩))
        go_ret
        exact ⟨rfl, Becomes.behind hb (Becomes.andThen hs3 ht3 ⟨S3, fv3, hd4, fun _ h => .inl h, ht4⟩)⟩
  · have hok' : nameOk s = false := by simpa using hok
    have eE : changeE m [s] (fileE m s 0) = 6 := by unfold changeE; rw [allOk_one, if_neg hok]
    have eM : changeM m [s] (fileE m s 0) (fileM m s (deleteM m s)) = m := by unfold changeM; rw [allOk_one, if_neg (fun h => hok h.1)]
    rw [eE, eM]
    have hB1 := hB false (name_no hok').1
    have hR1 := fun wx hb => hR wx _ _ hb (name_no hok').2.1 ((name_no hok').2.2 true)
    clear hB hR eE eM h
    go_enter Tryz.func34, Tryz.ntmps34
    go_wp2_with (first
      | (go_at_call 84; refine hB1.mono ?_; rintro e w1 ⟨rfl, hb1⟩)
      | (go_at_call 85; refine (hR1 w1 hb1).mono ?_; rintro e w2 ⟨rfl, hb2⟩))
    go_ret
    exact ⟨rfl, HI.out.becomes (later_below hb1 hb2 hb1.size)⟩

set_option maxRecDepth 20000 in
set_option maxHeartbeats 4000000 in
theorem refTruncate_any (w : World) (S : Nat → Prop) (p : Nat) (fv : Value) (m : DiskM) (h : RDisk w S p fv m) (hn : m.files.length ≤ 4194304) (hu : usedF m.files ≤ 4194304) (hl1 : m.left ≤ 9223372036854775807) (s : ByteArray) (hs : s.size ≤ 2097152) (n : Int) :
    Calls Tryz.prog 36 #[.pointer (some ⟨p, 0, none⟩), .string s, .int .i64 n] w fun e w' => e = .returned (.int .i64 (changeE m [s] (fileE m s (truncE m s n)))) ∧ Becomes S w w' p (changeM m [s] (fileE m s (truncE m s n)) (fileM m s (truncM m s n))) := by
  have HI := hide h
  have hB : ∀ r, brokenC m s = r → Calls Tryz.prog 84 #[.pointer (some ⟨p, 0, none⟩), .string s] w fun e w' => e = .returned (.bool r) ∧ Below w.heap.size w w' := fun r e => by rw [← e]; exact refBroken_any w S p fv m s h hs
  have hR : ∀ wx a b, Below w.heap.size w wx → refPlace m s = a → refErr m s true = b → Calls Tryz.prog 85 #[.pointer (some ⟨p, 0, none⟩), .string s, .bool true] wx fun e w' => e = .returned (.tuple #[.int .i64 a, .int .i64 b]) ∧ Below wx.heap.size wx w' := fun wx a b hb e1 e2 => by rw [← e1, ← e2]; exact refRefuses_any wx S p fv m s true (HI.out.later hb) hs hn
  by_cases hok : nameOk s = true
  · by_cases hl : m.left = 0
    · have eE : changeE m [s] (fileE m s (truncE m s n)) = 0 := by unfold changeE; rw [allOk_one, if_pos hok, if_pos hl]
      have eM : changeM m [s] (fileE m s (truncE m s n)) (fileM m s (truncM m s n)) = m := by unfold changeM; rw [if_neg (fun h => h.2 hl)]
      rw [eE, eM]
      have hB1 := hB true (name_broken hok hl)
      clear hB hR eE eM h
      go_enter Tryz.func36, Tryz.ntmps36
      go_wp2_with (go_at_call 84; refine hB1.mono ?_; rintro e w1 ⟨rfl, hb1⟩)
      go_ret
      exact ⟨rfl, HI.out.becomes hb1⟩
    · have hB1 := hB false (name_whole hl)
      cases hp : placeF s m.files with
      | none =>
        have eF : fileE m s (truncE m s n) = 7 := by unfold fileE; rw [lookF_none hp]; rfl
        have eE : changeE m [s] (fileE m s (truncE m s n)) = 7 := by unfold changeE; rw [allOk_one, if_pos hok, if_neg hl, eF]
        have eM : changeM m [s] (fileE m s (truncE m s n)) (fileM m s (truncM m s n)) = m := by unfold changeM fileM; rw [allOk_one, if_pos ⟨hok, hl⟩, eF, if_neg (by decide), lookF_none hp]; rfl
        rw [eE, eM]
        have hR1 := fun wx hb => hR wx _ _ hb (name_none hok hp).1 (name_none hok hp).2.1
        clear hB hR eE eM h
        go_enter Tryz.func36, Tryz.ntmps36
        go_wp2_with (first
          | (go_at_call 84; refine hB1.mono ?_; rintro e w1 ⟨rfl, hb1⟩)
          | (go_at_call 85; refine (hR1 w1 hb1).mono ?_; rintro e w2 ⟨rfl, hb2⟩; have hb := later_below hb1 hb2 hb1.size))
        go_ret
        exact ⟨rfl, HI.out.becomes hb⟩
      | some k =>
        obtain ⟨hk, hlk, hkn⟩ := lookF_some hp
        obtain ⟨g, c, rfl⟩ := h.block (by omega)
        have hR1 := fun wx hb => hR wx _ _ hb (name_some hok hp).1 ((name_some hok hp).2 true)
        have hsz : m.files[k].data.size ≤ 4194304 := Nat.le_trans (usedF_mem (List.getElem_mem hk)) hu
        have hx : (k : Int) < (m.files.length : Int) := by omega
        have hk0 : (0 : Int) ≤ (k : Int) := by omega
        have HAT := hide (fun wx hb => (HI.out.later (w' := wx) hb).at hk)
        have HBX := hide (fun wx hb => (HI.out.later (w' := wx) hb).box)
        by_cases hbad : n < 0 ∨ (m.files[k].data.size : Int) < n
        · have eT : truncE m s n = 5 := by unfold truncE; rw [hlk]; simp only; rw [if_pos hbad]
          have eF : fileE m s (truncE m s n) = 5 := by unfold fileE; rw [hlk, eT]; rfl
          have eE : changeE m [s] (fileE m s (truncE m s n)) = 5 := by unfold changeE; rw [allOk_one, if_pos hok, if_neg hl, eF]
          have eM : changeM m [s] (fileE m s (truncE m s n)) (fileM m s (truncM m s n)) = m := by unfold changeM fileM truncM; rw [allOk_one, if_pos ⟨hok, hl⟩, eF, if_neg (by decide), hlk]; simp only [Option.isSome_some, if_true]; rw [if_pos hbad]
          rw [eE, eM]
          clear hB hR eE eM eT eF h hlk hkn hp
          generalize m.files[k] = f at *
          by_cases hneg : n < 0
          · have hd : decide (n < 0) = true := decide_eq_true hneg
            go_enter Tryz.func36, Tryz.ntmps36
            go_wp2_with (first
              | (go_at_call 84; refine hB1.mono ?_; rintro e w1 ⟨rfl, hb1⟩)
              | (go_at_call 85; refine (hR1 w1 hb1).mono ?_; rintro e w2 ⟨rfl, hb2⟩; have hb := later_below hb1 hb2 hb1.size; obtain ⟨q0, q1, q2, qf, ql⟩ := HAT.out w2 hb; have qf1 := qf (k * 3 + 1); have qf2 := qf (k * 3 + 2); obtain ⟨d0, d1, d2, f0, f1, f2, dl⟩ := HBX.out w2 hb; clear qf))
            go_ret
            exact ⟨rfl, HI.out.becomes hb⟩
          · have hd : decide (n < 0) = false := decide_eq_false hneg
            have hgt : (f.data.size : Int) < n := by omega
            have hd2 : decide ((f.data.size : Int) < n) = true := decide_eq_true hgt
            go_enter Tryz.func36, Tryz.ntmps36
            go_wp2_with (first
              | (go_at_call 84; refine hB1.mono ?_; rintro e w1 ⟨rfl, hb1⟩)
              | (go_at_call 85; refine (hR1 w1 hb1).mono ?_; rintro e w2 ⟨rfl, hb2⟩; have hb := later_below hb1 hb2 hb1.size; obtain ⟨q0, q1, q2, qf, ql⟩ := HAT.out w2 hb; have qf1 := qf (k * 3 + 1); have qf2 := qf (k * 3 + 2); obtain ⟨d0, d1, d2, f0, f1, f2, dl⟩ := HBX.out w2 hb; clear qf))
            go_ret
            exact ⟨rfl, HI.out.becomes hb⟩
        · obtain ⟨N, rfl⟩ : ∃ N : Nat, n = (N : Int) := ⟨n.toNat, by omega⟩
          have hN : N ≤ m.files[k].data.size := by omega
          have hp2 : placeF (truncF m.files[k] N).name m.files = some k := by show placeF m.files[k].name m.files = _; rw [hkn]; exact hp
          have eT : truncE m s N = 0 := by unfold truncE; rw [hlk]; simp only; rw [if_neg hbad]
          have eF : fileE m s (truncE m s N) = 0 := by unfold fileE; rw [hlk, eT]; rfl
          have eE : changeE m [s] (fileE m s (truncE m s N)) = 0 := by unfold changeE; rw [allOk_one, if_pos hok, if_neg hl, eF]
          have eM : changeM m [s] (fileE m s (truncE m s N)) (fileM m s (truncM m s N)) = { m with files := m.files.set k (truncF m.files[k] N), left := lessC m.left } := by
            unfold changeM fileM truncM; rw [allOk_one, if_pos ⟨hok, hl⟩, eF, if_pos rfl, hlk]; simp only [Option.isSome_some, if_true]; rw [if_neg hbad, Int.toNat_natCast, setF_at hp2]
          rw [eE, eM]
          have hd : decide ((N : Int) < 0) = false := decide_eq_false (by omega)
          have hd2 : decide ((m.files[k].data.size : Int) < (N : Int)) = false := decide_eq_false (by omega)
          have hget : m.files[k]? = some m.files[k] := List.getElem?_eq_getElem hk
          have hset : ∀ x : FileM, (m.files.set k x)[k]? = some x := fun x => by rw [List.getElem?_set_self hk]
          have hss : ∀ x y : FileM, (m.files.set k x).set k y = m.files.set k y := fun x y => List.set_set ..
          clear hB hR eE eM eT eF h hlk hkn hp2 hp
          generalize m.files[k] = f at *
          have HEQ1 : f.sync ≤ N → Hid (m.files.set k (truncF f N) = m.files.set k { f with data := f.data.extract 0 N }) := fun hle => by unfold Hid truncF; rw [Nat.min_eq_left hle]
          have HEQ2 : N < f.sync → Hid (m.files.set k (truncF f N) = (m.files.set k { f with data := f.data.extract 0 N }).set k { name := f.name, data := f.data.extract 0 N, sync := N }) := fun hle => by unfold Hid truncF; rw [hss, Nat.min_eq_right (Nat.le_of_lt hle)]
          generalize truncF f N = fz at *
          have H1 := hide (fun wx hb => ((HI.out.later (w' := wx) hb).setData hget (f.data.extract 0 N)).imp RDisk.drew Tch.drew)
          have HG := hide (hset { f with data := f.data.extract 0 N })
          clear hget hset hss
          go_enter Tryz.func36, Tryz.ntmps36
          go_wp2_with (first
            | (go_at_call 84; refine hB1.mono ?_; rintro e w1 ⟨rfl, hb1⟩)
            | (go_at_call 85; refine (hR1 w1 hb1).mono ?_; rintro e w2 ⟨rfl, hb2⟩; have hb := later_below hb1 hb2 hb1.size; obtain ⟨q0, q1, q2, qf, ql⟩ := HAT.out w2 hb; have qf1 := qf (k * 3 + 1); have qf2 := qf (k * 3 + 2); obtain ⟨d0, d1, d2, f0, f1, f2, dl⟩ := HBX.out w2 hb; clear qf))
          go_region
          obtain ⟨hd3, ht3⟩ := H1.out w2 hb
          obtain ⟨r0, r1, r2, rf, rl⟩ := hd3.at' HG.out
          have rf2 := rf (k * 3 + 2)
          obtain ⟨e0, e1, e2, y0, y1, y2, el⟩ := hd3.box
          have HD3 := hide hd3
          have HT3 := hide ht3
          clear q0 q1 q2 ql qf1 qf2 d0 d1 d2 f0 f1 f2 dl rf hd3 ht3 H1 HAT HBX
          generalize (w2.setCell ⟨g, k * 3 + 1, none⟩ (.string (f.data.extract 0 N))).drew = w3 at *
          by_cases hcut : N < f.sync
          · have hd3 : decide (((N : Nat) : Int) < (f.sync : Int)) = true := decide_eq_true (by omega)
            have HX := HEQ2 hcut
            have H2 := hide (HD3.out.setSync HG.out N)
            go_wp2_with (go_at_call 88; refine (refCounts_any _ S p _ _ H2.out.1 hl1).mono ?_; rintro e w4 ⟨rfl, hd4, ht4⟩)
            go_ret
            rw [HX.out]
            exact ⟨rfl, Becomes.behind hb ⟨S, _, hd4, fun _ h => .inl h, HT3.out.trans (H2.out.2.trans ht4 (fun _ h => .inl h)) (fun _ h => .inl h)⟩⟩
          · have hd3 : decide (((N : Nat) : Int) < (f.sync : Int)) = false := decide_eq_false (by omega)
            have HX := HEQ1 (by omega)
            go_wp2_with (go_at_call 88; refine (refCounts_any w3 S p _ _ HD3.out hl1).mono ?_; rintro e w4 ⟨rfl, hd4, ht4⟩)
            go_ret
            rw [HX.out]
            exact ⟨rfl, Becomes.behind hb ⟨S, _, hd4, fun _ h => .inl h, HT3.out.trans ht4 (fun _ h => .inl h)⟩⟩
  · have hok' : nameOk s = false := by simpa using hok
    have eE : changeE m [s] (fileE m s (truncE m s n)) = 6 := by unfold changeE; rw [allOk_one, if_neg hok]
    have eM : changeM m [s] (fileE m s (truncE m s n)) (fileM m s (truncM m s n)) = m := by unfold changeM; rw [allOk_one, if_neg (fun h => hok h.1)]
    rw [eE, eM]
    have hB1 := hB false (name_no hok').1
    have hR1 := fun wx hb => hR wx _ _ hb (name_no hok').2.1 ((name_no hok').2.2 true)
    clear hB hR eE eM h
    go_enter Tryz.func36, Tryz.ntmps36
    go_wp2_with (first
      | (go_at_call 84; refine hB1.mono ?_; rintro e w1 ⟨rfl, hb1⟩)
      | (go_at_call 85; refine (hR1 w1 hb1).mono ?_; rintro e w2 ⟨rfl, hb2⟩))
    go_ret
    exact ⟨rfl, HI.out.becomes (later_below hb1 hb2 hb1.size)⟩

set_option maxRecDepth 20000 in
set_option maxHeartbeats 4000000 in
theorem refAppend_any (w : World) (S : Nat → Prop) (p : Nat) (fv : Value) (m : DiskM) (h : RDisk w S p fv m) (hn : m.files.length ≤ 4194304) (hu : usedF m.files ≤ 4194304) (hl1 : m.left ≤ 9223372036854775807) (s : ByteArray) (hs : s.size ≤ 2097152) (d : ByteArray) (hr0 : 0 ≤ m.room) (hr1 : m.room ≤ 9223372036854775807) (_hds : d.size ≤ 4194304) :
    Calls Tryz.prog 28 #[.pointer (some ⟨p, 0, none⟩), .string s, .string d] w fun e w' => e = .returned (.int .i64 (changeE m [s] (apE m d))) ∧ Becomes S w w' p (changeM m [s] (apE m d) (apM m s d)) := by
  have HI := hide h
  have hB : ∀ r, brokenC m s = r → Calls Tryz.prog 84 #[.pointer (some ⟨p, 0, none⟩), .string s] w fun e w' => e = .returned (.bool r) ∧ Below w.heap.size w w' := fun r e => by rw [← e]; exact refBroken_any w S p fv m s h hs
  have hR : ∀ wx a b, Below w.heap.size w wx → refPlace m s = a → refErr m s false = b → Calls Tryz.prog 85 #[.pointer (some ⟨p, 0, none⟩), .string s, .bool false] wx fun e w' => e = .returned (.tuple #[.int .i64 a, .int .i64 b]) ∧ Below wx.heap.size wx w' := fun wx a b hb e1 e2 => by rw [← e1, ← e2]; exact refRefuses_any wx S p fv m s false (HI.out.later hb) hs hn
  by_cases hok : nameOk s = true
  · by_cases hl : m.left = 0
    · have eE : changeE m [s] (apE m d) = 0 := by unfold changeE; rw [allOk_one, if_pos hok, if_pos hl]
      have eM : changeM m [s] (apE m d) (apM m s d) = m := by unfold changeM; rw [if_neg (fun h => h.2 hl)]
      rw [eE, eM]
      have hB1 := hB true (name_broken hok hl)
      clear hB hR eE eM h
      go_enter Tryz.func28, Tryz.ntmps28
      go_wp2_with (go_at_call 84; refine hB1.mono ?_; rintro e w1 ⟨rfl, hb1⟩)
      go_ret
      exact ⟨rfl, HI.out.becomes hb1⟩
    · have hB1 := hB false (name_whole hl)
      have hU := fun wx hb => refUsed_any wx S p fv m (HI.out.later (w' := wx) hb) hu hn
      have HBX := hide (fun wx hb => (HI.out.later (w' := wx) hb).box)
      have hw : IntKind.i64.wrap (m.room - (usedF m.files : Int)) = m.room - (usedF m.files : Int) := wrap_fits (by omega) (by omega)
      by_cases hroom : m.room - (usedF m.files : Int) < (d.size : Int)
      · have eE : changeE m [s] (apE m d) = 8 := by unfold changeE apE; rw [allOk_one, if_pos hok, if_neg hl, if_pos hroom]
        have eM : changeM m [s] (apE m d) (apM m s d) = m := by unfold changeM apE apM; rw [allOk_one, if_pos ⟨hok, hl⟩, if_pos hroom, if_neg (by decide), if_pos hroom]
        rw [eE, eM]
        have hd2 : decide (m.room - (usedF m.files : Int) < (d.size : Int)) = true := decide_eq_true hroom
        obtain ⟨pl, hpl⟩ : ∃ pl, refPlace m s = pl := ⟨_, rfl⟩
        have hre : refErr m s false = 0 := by unfold refErr; rw [if_pos hok]; cases placeF s m.files <;> rfl
        have hR1 := fun wx hb => hR wx _ _ hb hpl hre
        clear hB hR eE eM h hpl hre
        generalize usedF m.files = us at *
        go_enter Tryz.func28, Tryz.ntmps28
        go_wp2_with (first
          | (go_at_call 84; refine hB1.mono ?_; rintro e w1 ⟨rfl, hb1⟩)
          | (go_at_call 85; refine (hR1 w1 hb1).mono ?_; rintro e w2 ⟨rfl, hb2⟩; have hb := later_below hb1 hb2 hb1.size)
          | (go_at_call 86; refine (hU w2 hb).mono ?_; rintro e w3 ⟨rfl, hb3⟩; have hc := later_below hb hb3 hb.size; obtain ⟨d0, d1, d2, f0, f1, f2, dl⟩ := HBX.out w3 hc))
        go_ret
        exact ⟨rfl, HI.out.becomes hc⟩
      · have hd2 : decide (m.room - (usedF m.files : Int) < (d.size : Int)) = false := decide_eq_false hroom
        have eE : changeE m [s] (apE m d) = 0 := by unfold changeE apE; rw [allOk_one, if_pos hok, if_neg hl, if_neg hroom]
        have eM0 : changeM m [s] (apE m d) (apM m s d) = { m with files := setF (apF m s d) m.files, left := lessC m.left } := by
          unfold changeM apE apM; rw [allOk_one, if_pos ⟨hok, hl⟩, if_neg hroom, if_pos rfl, if_neg hroom]
        cases hp : placeF s m.files with
        | none =>
          have eM : changeM m [s] (apE m d) (apM m s d) = { m with files := putF ⟨s, d, 0⟩ m.files, left := lessC m.left } := by
            rw [eM0]; unfold apF; rw [lookF_none hp]; simp only; rw [setF_new (f := ⟨s, d, 0⟩) hp]
          rw [eE, eM]
          have hR1 := fun wx hb => hR wx _ _ hb (name_none hok hp).1 (name_none hok hp).2.2
          have hD := fun wx hb => refPut_any wx S p fv m ⟨s, d, 0⟩ (HI.out.later hb) hn
          clear hB hR eE eM eM0 h hp
          generalize usedF m.files = us at *
          go_enter Tryz.func28, Tryz.ntmps28
          go_wp2_with (first
            | (go_at_call 84; refine hB1.mono ?_; rintro e w1 ⟨rfl, hb1⟩)
            | (go_at_call 85; refine (hR1 w1 hb1).mono ?_; rintro e w2 ⟨rfl, hb2⟩; have hb := later_below hb1 hb2 hb1.size)
            | (go_at_call 86; refine (hU w2 hb).mono ?_; rintro e w3 ⟨rfl, hb3⟩; have hc := later_below hb hb3 hb.size; obtain ⟨d0, d1, d2, f0, f1, f2, dl⟩ := HBX.out w3 hc)
            | (go_at_call 87; refine (hD _ hc).mono ?_; rintro e w4 ⟨rfl, S3, fv3, hd3, hs3, ht3⟩)
            | (go_at_call 88; refine (refCounts_any w4 S3 p fv3 _ hd3 hl1).mono ?_; rintro e w5 ⟨rfl, hd4, ht4⟩))
          go_ret
          exact ⟨rfl, Becomes.behind hc (Becomes.andThen hs3 ht3 ⟨S3, fv3, hd4, fun _ h => .inl h, ht4⟩)⟩
        | some k =>
          obtain ⟨hk, hlk, hkn⟩ := lookF_some hp
          obtain ⟨g, c, rfl⟩ := h.block (by omega)
          have eM : changeM m [s] (apE m d) (apM m s d) = { m with files := m.files.set k { m.files[k] with data := m.files[k].data ++ d }, left := lessC m.left } := by
            rw [eM0]; unfold apF; rw [hlk]; simp only; rw [setF_at (f := { m.files[k] with data := m.files[k].data ++ d }) (k := k) (by show placeF m.files[k].name m.files = _; rw [hkn]; exact hp)]
          rw [eE, eM]
          have hR1 := fun wx hb => hR wx _ _ hb (name_some hok hp).1 ((name_some hok hp).2 false)
          have hx : (k : Int) < (m.files.length : Int) := by omega
          have hk0 : (0 : Int) ≤ (k : Int) := by omega
          have hk1 : decide ((k : Int) < 0) = false := decide_eq_false (by omega)
          have hsz : m.files[k].data.size ≤ 4194304 := Nat.le_trans (usedF_mem (List.getElem_mem hk)) hu
          have HAT := hide (fun wx hb => (HI.out.later (w' := wx) hb).at hk)
          have hget : m.files[k]? = some m.files[k] := List.getElem?_eq_getElem hk
          clear hB hR eE eM eM0 h hlk hkn hp
          generalize m.files[k] = f at *
          have H1 := hide (fun wx hb => ((HI.out.later (w' := wx) hb).setData hget (f.data ++ d)).imp RDisk.drew Tch.drew)
          clear hget
          generalize usedF m.files = us at *
          go_enter Tryz.func28, Tryz.ntmps28
          go_wp2_with (first
            | (go_at_call 84; refine hB1.mono ?_; rintro e w1 ⟨rfl, hb1⟩)
            | (go_at_call 85; refine (hR1 w1 hb1).mono ?_; rintro e w2 ⟨rfl, hb2⟩; have hb := later_below hb1 hb2 hb1.size)
            | (go_at_call 86; refine (hU w2 hb).mono ?_; rintro e w3 ⟨rfl, hb3⟩; have hc := later_below hb hb3 hb.size; obtain ⟨d0, d1, d2, f0, f1, f2, dl⟩ := HBX.out w3 hc; obtain ⟨q0, q1, q2, qf, ql⟩ := HAT.out w3 hc; have qf1 := qf (k * 3 + 1); clear qf))
          go_region
          go_wp2_with (go_at_call 88; refine (refCounts_any _ S p _ _ (H1.out w3 hc).1 hl1).mono ?_; rintro e w5 ⟨rfl, hd4, ht4⟩)
          go_ret
          exact ⟨rfl, Becomes.behind hc ⟨S, _, hd4, fun _ h => .inl h, (H1.out w3 hc).2.trans ht4 (fun _ h => .inl h)⟩⟩
  · have hok' : nameOk s = false := by simpa using hok
    have eE : changeE m [s] (apE m d) = 6 := by unfold changeE; rw [allOk_one, if_neg hok]
    have eM : changeM m [s] (apE m d) (apM m s d) = m := by unfold changeM; rw [allOk_one, if_neg (fun h => hok h.1)]
    rw [eE, eM]
    have hB1 := hB false (name_no hok').1
    have hR1 := fun wx hb => hR wx _ _ hb (name_no hok').2.1 ((name_no hok').2.2 false)
    clear hB hR eE eM h
    go_enter Tryz.func28, Tryz.ntmps28
    go_wp2_with (first
      | (go_at_call 84; refine hB1.mono ?_; rintro e w1 ⟨rfl, hb1⟩)
      | (go_at_call 85; refine (hR1 w1 hb1).mono ?_; rintro e w2 ⟨rfl, hb2⟩))
    go_ret
    exact ⟨rfl, HI.out.becomes (later_below hb1 hb2 hb1.size)⟩

end Go.Proofs.YthcnkbeognkjgaaGreatDoor
