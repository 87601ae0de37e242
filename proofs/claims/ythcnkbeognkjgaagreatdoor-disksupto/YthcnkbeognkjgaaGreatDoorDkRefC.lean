/-
  The document's disk, walked: Sync, Delete, Truncate, Append, Read, Used, Break.
-/
import Derived.Test.YthcnkbeognkjgaaGreatDoorDkRefB
import Derived.Test.YthcnkbeognkjgaaGreatDoorDkPlain
import Derived.RegionTactic
import Derived.BigRegion
import Derived.BigQuiet
namespace Go.Proofs.YthcnkbeognkjgaaGreatDoor
open Go.RowKit
open Rl

namespace Rl
theorem fileCells_cons (f : FileM) (r : List FileM) : fileCells (f :: r) = .string f.name :: .string f.data :: .int .i64 (f.sync : Int) :: fileCells r := rfl

theorem fileCells_sync : ∀ (l : List FileM) (k : Nat) (hk : k < l.length) (s : Nat), (fileCells l).set (k * 3 + 2) (.int .i64 (s : Int)) = fileCells (l.set k { l[k] with sync := s }) := by
  intro l
  induction l with
  | nil => intro k hk; simp at hk
  | cons f r ih =>
    intro k hk s
    cases k with
    | zero => rfl
    | succ k =>
      have hk' : k < r.length := by simpa using hk
      rw [fileCells_cons, show (k + 1) * 3 + 2 = (k * 3 + 2) + 1 + 1 + 1 by omega]
      simp only [List.set_cons_succ, List.getElem_cons_succ, fileCells_cons, ih k hk' s]

theorem fileCells_data : ∀ (l : List FileM) (k : Nat) (hk : k < l.length) (d : ByteArray), (fileCells l).set (k * 3 + 1) (.string d) = fileCells (l.set k { l[k] with data := d }) := by
  intro l
  induction l with
  | nil => intro k hk; simp at hk
  | cons f r ih =>
    intro k hk d
    cases k with
    | zero => rfl
    | succ k =>
      have hk' : k < r.length := by simpa using hk
      rw [fileCells_cons, show (k + 1) * 3 + 1 = (k * 3 + 1) + 1 + 1 + 1 by omega]
      simp only [List.set_cons_succ, List.getElem_cons_succ, fileCells_cons, ih k hk' d]

theorem RDisk.block {w : World} {S : Nat → Prop} {p : Nat} {fv : Value} {m : DiskM} (h : RDisk w S p fv m) (hk : 0 < m.files.length) : ∃ g c, fv = .slice (some ⟨g, 0, none⟩) m.files.length c := by
  rcases h.row.2 with ⟨_, h0⟩ | ⟨g, cap, cur, rfl, _⟩
  · omega
  · exact ⟨g, cap, rfl⟩

theorem RDisk.store {w : World} {S : Nat → Prop} {p g c : Nat} {m : DiskM} (h : RDisk w S p (.slice (some ⟨g, 0, none⟩) m.files.length c) m) (j : Nat) (u : Value) (l' : List FileM) (hl : l'.length = m.files.length) (he : (fileCells m.files).set j u = fileCells l') :
    RDisk (w.setCell ⟨g, j, none⟩ u) S p (.slice (some ⟨g, 0, none⟩) m.files.length c) { m with files := l' } ∧ Tch S w (w.setCell ⟨g, j, none⟩ u) := by
  have hg := h.far g rfl
  have ht : Tch (fun k => k = g) w (w.setCell ⟨g, j, none⟩ u) := touch_set (S := fun k => k = g) (p := ⟨g, j, none⟩) u rfl
  refine ⟨⟨h.box.touch ht (fun e => hg.2 e.symm), ?_, h.own, h.far, fun k hk => by simpa using h.lt k hk⟩, touch_set _ hg.1⟩
  have := (h.row.stored j u).1
  rw [he] at this
  show (w.setCell ⟨g, j, none⟩ u).ownsRow 0 127 3 _ l'.length (fileCells l')
  rw [hl]
  exact this

theorem RDisk.drew {w : World} {S : Nat → Prop} {p : Nat} {fv : Value} {m : DiskM} (h : RDisk w S p fv m) : RDisk w.drew S p fv m := h.later (Below.refl _ _).drew

/-- what the walk reads of one file. -/
theorem RDisk.at {w : World} {S : Nat → Prop} {p g c : Nat} {m : DiskM} (h : RDisk w S p (.slice (some ⟨g, 0, none⟩) m.files.length c) m) {k : Nat} (hk : k < m.files.length) :
    w.cell? ⟨g, k * 3, none⟩ = some (.string m.files[k].name) ∧ w.cell? ⟨g, k * 3 + 1, none⟩ = some (.string m.files[k].data) ∧ w.cell? ⟨g, k * 3 + 2, none⟩ = some (.int .i64 (m.files[k].sync : Int)) ∧ (∀ j, w.frozen? ⟨g, j, none⟩ = false) ∧ g < w.heap.size := by
  obtain ⟨g1, g2, g3⟩ := fileCells_get m.files k hk
  refine ⟨?_, ?_, ?_, fun j => h.row.frozenAt j, (h.row.lt g rfl).2⟩
  · rw [h.row.cellAt _ (by omega)]; exact g1
  · rw [h.row.cellAt _ (by omega)]; exact g2
  · rw [h.row.cellAt _ (by omega)]; exact g3

theorem RDisk.becomes {w w' : World} {S : Nat → Prop} {p : Nat} {fv : Value} {m : DiskM} (h : RDisk w S p fv m) (hb : Below w.heap.size w w') : Becomes S w w' p m := ⟨S, fv, h.later hb, fun _ hk => .inl hk, Tch.ofBelow hb⟩

theorem Becomes.behind {S : Nat → Prop} {w w1 w2 : World} {p : Nat} {m : DiskM} (hb : Below w.heap.size w w1) (h : Becomes S w1 w2 p m) : Becomes S w w2 p m := by
  obtain ⟨S', fv, h1, h2, h3⟩ := h
  have hs := hb.size
  exact ⟨S', fv, h1, fun k hk => (h2 k hk).imp id (fun x => by omega), (Tch.ofBelow (S := S) hb).trans h3 (fun i hi => .inl hi)⟩

theorem Becomes.andThen {S : Nat → Prop} {w w1 w2 : World} {p : Nat} {m2 : DiskM} {S1 : Nat → Prop} (hs : ∀ k, S1 k → S k ∨ w.heap.size ≤ k) (ht : Tch S w w1) (h : Becomes S1 w1 w2 p m2) : Becomes S w w2 p m2 := by
  obtain ⟨S', fv, h1, h2, h3⟩ := h
  have hz := ht.size
  refine ⟨S', fv, h1, fun k hk => ?_, ht.trans h3 hs⟩
  rcases h2 k hk with x | x
  · exact hs k x
  · right; omega

theorem allOk_one (s : ByteArray) : allOk [s] = nameOk s := by simp [allOk]

theorem name_no {m : DiskM} {s : ByteArray} (h : nameOk s = false) : brokenC m s = false ∧ refPlace m s = -1 ∧ ∀ b, refErr m s b = 6 := by
  refine ⟨by simp [brokenC, h], by simp [refPlace, h], fun b => by simp [refErr, h]⟩

theorem name_broken {m : DiskM} {s : ByteArray} (h : nameOk s = true) (hl : m.left = 0) : brokenC m s = true := by simp [brokenC, h, hl]
theorem name_whole {m : DiskM} {s : ByteArray} (hl : m.left ≠ 0) : brokenC m s = false := by simp [brokenC, hl]

theorem name_none {m : DiskM} {s : ByteArray} (h : nameOk s = true) (hp : placeF s m.files = none) : refPlace m s = -1 ∧ refErr m s true = 7 ∧ refErr m s false = 0 := by
  refine ⟨by simp [refPlace, h, hp], by simp [refErr, h, hp], by simp [refErr, h, hp]⟩

theorem name_some {m : DiskM} {s : ByteArray} {k : Nat} (h : nameOk s = true) (hp : placeF s m.files = some k) : refPlace m s = k ∧ ∀ b, refErr m s b = 0 := by
  refine ⟨by simp [refPlace, h, hp], fun b => by simp [refErr, h, hp]⟩

theorem setF_at {l : List FileM} {k : Nat} {f : FileM} (hp : placeF f.name l = some k) : setF f l = l.set k f := by unfold setF; rw [hp]
theorem setF_new {l : List FileM} {f : FileM} (hp : placeF f.name l = none) : setF f l = putF f l := by unfold setF; rw [hp]
theorem RDisk.len {w : World} {S : Nat → Prop} {p n c : Nat} {a : Option Addr} {m : DiskM} (h : RDisk w S p (.slice a n c) m) : n = m.files.length := by
  obtain ⟨a', c', e⟩ := slice_owned h.row
  cases e; rfl

theorem RDisk.at' {w : World} {S : Nat → Prop} {p g n c : Nat} {m : DiskM} (h : RDisk w S p (.slice (some ⟨g, 0, none⟩) n c) m) {k : Nat} {f : FileM} (hk : m.files[k]? = some f) :
    w.cell? ⟨g, k * 3, none⟩ = some (.string f.name) ∧ w.cell? ⟨g, k * 3 + 1, none⟩ = some (.string f.data) ∧ w.cell? ⟨g, k * 3 + 2, none⟩ = some (.int .i64 (f.sync : Int)) ∧ (∀ j, w.frozen? ⟨g, j, none⟩ = false) ∧ g < w.heap.size := by
  have e := h.len
  subst e
  obtain ⟨hlt, rfl⟩ := List.getElem?_eq_some_iff.1 hk
  exact h.at hlt

theorem RDisk.setSync {w : World} {S : Nat → Prop} {p g n c : Nat} {m : DiskM} (h : RDisk w S p (.slice (some ⟨g, 0, none⟩) n c) m) {k : Nat} {f : FileM} (hk : m.files[k]? = some f) (s : Nat) :
    RDisk (w.setCell ⟨g, k * 3 + 2, none⟩ (.int .i64 (s : Int))) S p (.slice (some ⟨g, 0, none⟩) n c) { m with files := m.files.set k { f with sync := s } } ∧ Tch S w (w.setCell ⟨g, k * 3 + 2, none⟩ (.int .i64 (s : Int))) := by
  have e := h.len
  subst e
  obtain ⟨hlt, rfl⟩ := List.getElem?_eq_some_iff.1 hk
  exact h.store _ _ _ (by simp) (fileCells_sync m.files k hlt _)

theorem RDisk.setData {w : World} {S : Nat → Prop} {p g n c : Nat} {m : DiskM} (h : RDisk w S p (.slice (some ⟨g, 0, none⟩) n c) m) {k : Nat} {f : FileM} (hk : m.files[k]? = some f) (d : ByteArray) :
    RDisk (w.setCell ⟨g, k * 3 + 1, none⟩ (.string d)) S p (.slice (some ⟨g, 0, none⟩) n c) { m with files := m.files.set k { f with data := d } } ∧ Tch S w (w.setCell ⟨g, k * 3 + 1, none⟩ (.string d)) := by
  have e := h.len
  subst e
  obtain ⟨hlt, rfl⟩ := List.getElem?_eq_some_iff.1 hk
  exact h.store _ _ _ (by simp) (fileCells_data m.files k hlt _)

end Rl

theorem refBroken_none (s : ByteArray) (w : World) : Calls Tryz.prog 84 #[.pointer none, .string s] w fun e w' => e = .returned (.bool false) ∧ Below w.heap.size w w' := by
  go_enter Tryz.func84, Tryz.ntmps84
  go_wp2
  go_ret
  exact ⟨rfl, Below.refl _ _⟩

theorem refRefuses_none (s : ByteArray) (b : Bool) (w : World) : Calls Tryz.prog 85 #[.pointer none, .string s, .bool b] w fun e w' => e = .returned (.tuple #[.int .i64 (-1), .int .i64 1]) ∧ Below w.heap.size w w' := by
  go_enter Tryz.func85, Tryz.ntmps85
  go_wp2
  go_ret2
  exact ⟨rfl, Below.refl _ _⟩

set_option maxRecDepth 20000 in
set_option maxHeartbeats 2000000 in
theorem refSync_any (w : World) (S : Nat → Prop) (p : Nat) (fv : Value) (m : DiskM) (h : RDisk w S p fv m) (hn : m.files.length ≤ 4194304) (hu : usedF m.files ≤ 4194304) (hl1 : m.left ≤ 9223372036854775807) (s : ByteArray) (hs : s.size ≤ 2097152) :
    Calls Tryz.prog 30 #[.pointer (some ⟨p, 0, none⟩), .string s] w fun e w' => e = .returned (.int .i64 (changeE m [s] (fileE m s 0))) ∧ Becomes S w w' p (changeM m [s] (fileE m s 0) (fileM m s (syncM m s))) := by
  have HI := hide h
  have hB : ∀ r, brokenC m s = r → Calls Tryz.prog 84 #[.pointer (some ⟨p, 0, none⟩), .string s] w fun e w' => e = .returned (.bool r) ∧ Below w.heap.size w w' := fun r e => by rw [← e]; exact refBroken_any w S p fv m s h hs
  have hR : ∀ wx a b, Below w.heap.size w wx → refPlace m s = a → refErr m s true = b → Calls Tryz.prog 85 #[.pointer (some ⟨p, 0, none⟩), .string s, .bool true] wx fun e w' => e = .returned (.tuple #[.int .i64 a, .int .i64 b]) ∧ Below wx.heap.size wx w' := fun wx a b hb e1 e2 => by rw [← e1, ← e2]; exact refRefuses_any wx S p fv m s true (HI.out.later hb) hs hn
  by_cases hok : nameOk s = true
  · by_cases hl : m.left = 0
    · have eE : changeE m [s] (fileE m s 0) = 0 := by unfold changeE; rw [allOk_one, if_pos hok, if_pos hl]
      have eM : changeM m [s] (fileE m s 0) (fileM m s (syncM m s)) = m := by unfold changeM; rw [if_neg (fun h => h.2 hl)]
      rw [eE, eM]
      have hB1 := hB true (name_broken hok hl)
      clear hB hR eE eM h
      go_enter Tryz.func30, Tryz.ntmps30
      go_wp2_with (go_at_call 84; refine hB1.mono ?_; rintro e w1 ⟨rfl, hb1⟩)
      go_ret
      exact ⟨rfl, HI.out.becomes hb1⟩
    · have hB1 := hB false (name_whole hl)
      cases hp : placeF s m.files with
      | none =>
        have eF : fileE m s 0 = 7 := by unfold fileE; rw [lookF_none hp]; rfl
        have eE : changeE m [s] (fileE m s 0) = 7 := by unfold changeE; rw [allOk_one, if_pos hok, if_neg hl, eF]
        have eM : changeM m [s] (fileE m s 0) (fileM m s (syncM m s)) = m := by unfold changeM fileM; rw [allOk_one, if_pos ⟨hok, hl⟩, eF, if_neg (by decide), lookF_none hp]; rfl
        rw [eE, eM]
        have hR1 := fun wx hb => hR wx _ _ hb (name_none hok hp).1 (name_none hok hp).2.1
        clear hB hR eE eM h
        go_enter Tryz.func30, Tryz.ntmps30
        go_wp2_with (first
          | (go_at_call 84; refine hB1.mono ?_; rintro e w1 ⟨rfl, hb1⟩)
          | (go_at_call 85; refine (hR1 w1 hb1).mono ?_; rintro e w2 ⟨rfl, hb2⟩))
        go_ret
        exact ⟨rfl, HI.out.becomes (later_below hb1 hb2 hb1.size)⟩
      | some k =>
        obtain ⟨hk, hlk, hkn⟩ := lookF_some hp
        have hp2 : placeF (syncF m.files[k]).name m.files = some k := by show placeF m.files[k].name m.files = _; rw [hkn]; exact hp
        have eF : fileE m s 0 = 0 := by unfold fileE; rw [hlk]; rfl
        have eE : changeE m [s] (fileE m s 0) = 0 := by unfold changeE; rw [allOk_one, if_pos hok, if_neg hl, eF]
        have eM : changeM m [s] (fileE m s 0) (fileM m s (syncM m s)) = { m with files := m.files.set k (syncF m.files[k]), left := lessC m.left } := by
          unfold changeM fileM syncM; rw [allOk_one, if_pos ⟨hok, hl⟩, eF, if_pos rfl, hlk]; simp only [Option.isSome_some, if_true]; rw [setF_at hp2]
        rw [eE, eM]
        obtain ⟨g, c, rfl⟩ := h.block (by omega)
        have hR1 := fun wx hb => hR wx _ _ hb (name_some hok hp).1 ((name_some hok hp).2 true)
        have hsz : m.files[k].data.size ≤ 4194304 := Nat.le_trans (usedF_mem (List.getElem_mem hk)) hu
        have hx : (k : Int) < (m.files.length : Int) := by omega
        have hk0 : (0 : Int) ≤ (k : Int) := by omega
        have HST : ∀ wx, Below w.heap.size w wx → RDisk (wx.setCell ⟨g, k * 3 + 2, none⟩ (.int .i64 (m.files[k].data.size : Int))).drew S p (.slice (some ⟨g, 0, none⟩) m.files.length c) { m with files := m.files.set k (syncF m.files[k]) } ∧ Tch S wx (wx.setCell ⟨g, k * 3 + 2, none⟩ (.int .i64 (m.files[k].data.size : Int))).drew := fun wx hb =>
          ((HI.out.later hb).store _ _ _ (by simp) (fileCells_sync m.files k hk _)).imp RDisk.drew Tch.drew
        have hC := fun wx hb => refCounts_any _ S p _ _ (HST wx hb).1 hl1
        have HAT := hide (fun wx hb => (HI.out.later (w' := wx) hb).at hk)
        have HBX := hide (fun wx hb => (HI.out.later (w' := wx) hb).box)
        have HS2 := hide (fun wx hb => (HST wx hb).2)
        clear hB hR eE eM h hlk hkn hp2 hp HST
        generalize m.files[k] = f at *
        go_enter Tryz.func30, Tryz.ntmps30
        go_wp2_with (first
          | (go_at_call 84; refine hB1.mono ?_; rintro e w1 ⟨rfl, hb1⟩)
          | (go_at_call 85; refine (hR1 w1 hb1).mono ?_; rintro e w2 ⟨rfl, hb2⟩; have hb := later_below hb1 hb2 hb1.size; obtain ⟨q0, q1, q2, qf, ql⟩ := HAT.out w2 hb; have qf2 := qf (k * 3 + 2); obtain ⟨d0, d1, d2, f0, f1, f2, dl⟩ := HBX.out w2 hb; clear qf))
        go_region
        go_wp2_with (go_at_call 88; refine (hC w2 hb).mono ?_; rintro e w3 ⟨rfl, hd3, ht3⟩)
        go_ret
        exact ⟨rfl, Becomes.behind hb ⟨S, _, hd3, fun _ h => .inl h, (HS2.out w2 hb).trans ht3 (fun _ h => .inl h)⟩⟩
  · have hok' : nameOk s = false := by simpa using hok
    have eE : changeE m [s] (fileE m s 0) = 6 := by unfold changeE; rw [allOk_one, if_neg hok]
    have eM : changeM m [s] (fileE m s 0) (fileM m s (syncM m s)) = m := by unfold changeM; rw [allOk_one, if_neg (fun h => hok h.1)]
    rw [eE, eM]
    have hB1 := hB false (name_no hok').1
    have hR1 := fun wx hb => hR wx _ _ hb (name_no hok').2.1 ((name_no hok').2.2 true)
    clear hB hR eE eM h
    go_enter Tryz.func30, Tryz.ntmps30
    go_wp2_with (first
      | (go_at_call 84; refine hB1.mono ?_; rintro e w1 ⟨rfl, hb1⟩)
      | (go_at_call 85; refine (hR1 w1 hb1).mono ?_; rintro e w2 ⟨rfl, hb2⟩))
    go_ret
    exact ⟨rfl, HI.out.becomes (later_below hb1 hb2 hb1.size)⟩

end Go.Proofs.YthcnkbeognkjgaaGreatDoor
