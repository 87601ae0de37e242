/-
  What a call turns: blocks of a set, and new ones; boxes of three cells; the document's disk on the heap.
-/
import Derived.Test.YthcnkbeognkjgaaGreatDoorRowAt
import Derived.Test.YthcnkbeognkjgaaGreatDoorDkMath
import Derived.Test.YthcnkbeognkjgaaGreatDoorProg
import Derived.OwnWalk
import Derived.Maps.OwnSet
import Derived.Lib.Strings
namespace Go.Proofs.YthcnkbeognkjgaaGreatDoor
open Go.RowKit
namespace Rl

/-- only blocks of S have turned, and new ones have come. -/
structure Tch (S : Nat → Prop) (w w' : World) : Prop where
  os : w'.os = w.os
  tape : w'.tape = w.tape
  output : w'.output = w.output
  size : w.heap.size ≤ w'.heap.size
  block : ∀ k, k < w.heap.size → ¬ S k → w'.heap[k]? = w.heap[k]?

theorem Tch.refl (S : Nat → Prop) (w : World) : Tch S w w := ⟨rfl, rfl, rfl, Nat.le_refl _, fun _ _ _ => rfl⟩

theorem Tch.trans {S S' : Nat → Prop} {a b c : World} (h : Tch S a b) (k : Tch S' b c) (hs : ∀ i, S' i → S i ∨ a.heap.size ≤ i) : Tch S a c :=
  ⟨k.os.trans h.os, k.tape.trans h.tape, k.output.trans h.output, Nat.le_trans h.size k.size, fun i hi hn => (k.block i (Nat.lt_of_lt_of_le hi h.size) (fun hs' => by rcases hs i hs' with x | x; exact hn x; omega)).trans (h.block i hi hn)⟩

theorem Tch.mono {S S' : Nat → Prop} {a b : World} (h : Tch S a b) (hs : ∀ i, S i → S' i) : Tch S' a b :=
  ⟨h.os, h.tape, h.output, h.size, fun i hi hn => h.block i hi (fun x => hn (hs i x))⟩

theorem Tch.ofBelow {S : Nat → Prop} {a b : World} (h : Below a.heap.size a b) : Tch S a b := ⟨h.os, h.tape, h.output, h.size, fun k hk _ => h.block k hk⟩

theorem Tch.below {S : Nat → Prop} {a b c : World} (h : Tch S a b) (k : Below b.heap.size b c) : Tch S a c := h.trans (Tch.ofBelow (S := fun _ => False) k) (fun _ x => x.elim)

theorem Tch.drew {S : Nat → Prop} {a b : World} (h : Tch S a b) : Tch S a b.drew := h.below (Below.refl _ _).drew

theorem Tch.drewN {S : Nat → Prop} {a b : World} (h : Tch S a b) (n : Nat) : Tch S a (b.drewN n) := ⟨h.os, h.tape, h.output, h.size, h.block⟩

theorem Tch.alloc {S : Nat → Prop} {a b : World} (h : Tch S a b) (o : Obj) : Tch S a (b.alloc o) := h.below ((Below.refl _ _).alloc (Nat.le_refl _) _)

theorem touch_set {S : Nat → Prop} {w : World} {p : Addr} (u : Value) (hp : S p.block) : Tch S w (w.setCell p u) :=
  ⟨rfl, rfl, rfl, by simp [World.setCell], fun k _ hn => Below.heap_setCell _ _ _ _ (fun e => hn (by rw [e]; exact hp))⟩

theorem Tch.set {S : Nat → Prop} {a b : World} (h : Tch S a b) {p : Addr} (u : Value) (hp : S p.block ∨ a.heap.size ≤ p.block) : Tch S a (b.setCell p u) :=
  h.trans (touch_set (S := fun k => k = p.block) u rfl) (fun i e => by subst e; exact hp)

theorem Tch.grown {S : Nat → Prop} {a b c : World} {row : Option Nat} (h : Tch S a b) (hg : b.grownBy c row) (hr : ∀ k, row = some k → S k ∨ a.heap.size ≤ k) : Tch S a c :=
  h.trans (S' := fun k => row = some k) ⟨hg.os, hg.tape, hg.output, hg.size, fun k hk hn => hg.block k hk (fun e => hn e.symm)⟩ hr

theorem Tch.cell {S : Nat → Prop} {a b : World} (h : Tch S a b) {p : Addr} (hp : p.block < a.heap.size) (hn : ¬ S p.block) : b.cell? p = a.cell? p := World.cell?_of_block (h.block _ hp hn)
theorem Tch.frozen {S : Nat → Prop} {a b : World} (h : Tch S a b) {p : Addr} (hp : p.block < a.heap.size) (hn : ¬ S p.block) : b.frozen? p = a.frozen? p := World.frozen?_of_block (h.block _ hp hn)

/-- an owned row that isn't touched. -/
theorem Tch.owns {S : Nat → Prop} {a b : World} (h : Tch S a b) {base : Nat} {e : TypeId} {size : Nat} {v : Value} {n : Nat} {xs : List Value} (ho : a.ownsRow base e size v n xs) (hn : ∀ k, v.ownBlock = some k → ¬ S k) : b.ownsRow base e size v n xs := by
  refine ⟨ho.1, ?_⟩
  rcases ho.2 with hn' | ⟨g, cap, cur, rfl, hbg, hgg, rest⟩
  · exact .inl hn'
  · refine .inr ⟨g, cap, cur, rfl, hbg, ?_, rest⟩
    rw [h.block g (Array.getElem?_eq_some_iff.1 hgg).1 (hn g rfl)]
    exact hgg

/-- a box of three cells that may be written. -/
structure Bx3 (w : World) (n : Nat) (a b c : Value) : Prop where
  c0 : w.cell? ⟨n, 0, none⟩ = some a
  c1 : w.cell? ⟨n, 1, none⟩ = some b
  c2 : w.cell? ⟨n, 2, none⟩ = some c
  f0 : w.frozen? ⟨n, 0, none⟩ = false
  f1 : w.frozen? ⟨n, 1, none⟩ = false
  f2 : w.frozen? ⟨n, 2, none⟩ = false
  lt : n < w.heap.size

theorem bx3_new (w : World) (a b c : Value) (T : TypeId) : Bx3 (w.alloc (.cells #[a, b, c] T)) w.heap.size a b c :=
  ⟨by simp, by simp, by simp, by simp, by simp, by simp, by simp⟩

theorem Bx3.same {w w' : World} {n : Nat} {a b c : Value} (h : Bx3 w n a b c) (hk : w'.heap[n]? = w.heap[n]?) (hs : w.heap.size ≤ w'.heap.size) : Bx3 w' n a b c :=
  ⟨(World.cell?_of_block (a := ⟨n, 0, none⟩) hk).trans h.c0, (World.cell?_of_block (a := ⟨n, 1, none⟩) hk).trans h.c1, (World.cell?_of_block (a := ⟨n, 2, none⟩) hk).trans h.c2, (World.frozen?_of_block (a := ⟨n, 0, none⟩) hk).trans h.f0, (World.frozen?_of_block (a := ⟨n, 1, none⟩) hk).trans h.f1, (World.frozen?_of_block (a := ⟨n, 2, none⟩) hk).trans h.f2, Nat.lt_of_lt_of_le h.lt hs⟩

theorem Bx3.touch {S : Nat → Prop} {w w' : World} {n : Nat} {a b c : Value} (h : Bx3 w n a b c) (ht : Tch S w w') (hn : ¬ S n) : Bx3 w' n a b c := h.same (ht.block n h.lt hn) ht.size
theorem Bx3.later {w w' : World} {n : Nat} {a b c : Value} (h : Bx3 w n a b c) (hb : Below w.heap.size w w') : Bx3 w' n a b c := h.same (hb.block n h.lt) hb.size

theorem cell_other (w : World) (n i j : Nat) (v : Value) (h : i ≠ j) : (w.setCell ⟨n, i, none⟩ v).cell? ⟨n, j, none⟩ = w.cell? ⟨n, j, none⟩ := World.cell?_setCell_other _ _ _ _ (fun e => by injection e with _ e; exact h e)

theorem Bx3.set0 {w : World} {n : Nat} {a b c : Value} (h : Bx3 w n a b c) (u : Value) : Bx3 (w.setCell ⟨n, 0, none⟩ u) n u b c := by
  obtain ⟨h0, h1, h2, f0, f1, f2, hl⟩ := h
  exact ⟨World.cell?_setCell_same _ _ _ h0, by rw [cell_other _ _ _ _ _ (by omega)]; exact h1, by rw [cell_other _ _ _ _ _ (by omega)]; exact h2, by simp [f0], by simp [f1], by simp [f2], by simpa using hl⟩
theorem Bx3.set1 {w : World} {n : Nat} {a b c : Value} (h : Bx3 w n a b c) (u : Value) : Bx3 (w.setCell ⟨n, 1, none⟩ u) n a u c := by
  obtain ⟨h0, h1, h2, f0, f1, f2, hl⟩ := h
  exact ⟨by rw [cell_other _ _ _ _ _ (by omega)]; exact h0, World.cell?_setCell_same _ _ _ h1, by rw [cell_other _ _ _ _ _ (by omega)]; exact h2, by simp [f0], by simp [f1], by simp [f2], by simpa using hl⟩
theorem Bx3.set2 {w : World} {n : Nat} {a b c : Value} (h : Bx3 w n a b c) (u : Value) : Bx3 (w.setCell ⟨n, 2, none⟩ u) n a b u := by
  obtain ⟨h0, h1, h2, f0, f1, f2, hl⟩ := h
  exact ⟨by rw [cell_other _ _ _ _ _ (by omega)]; exact h0, by rw [cell_other _ _ _ _ _ (by omega)]; exact h1, World.cell?_setCell_same _ _ _ h2, by simp [f0], by simp [f1], by simp [f2], by simpa using hl⟩

theorem str_ne {a b : ByteArray} (h : a ≠ b) : (a.toList == b.toList) = false := by
  rw [beq_eq_false_iff_ne, Lib.toList_data, Lib.toList_data]
  intro e
  exact h (ByteArray.ext (Array.ext' e))

theorem slice_owned {w : World} {base : Nat} {e : TypeId} {size : Nat} {v : Value} {n : Nat} {xs : List Value} (h : w.ownsRow base e size v n xs) : ∃ a c, v = .slice a n c := by
  rcases h.2 with ⟨rfl, rfl⟩ | ⟨g, cap, cur, rfl, _⟩
  · exact ⟨none, 0, rfl⟩
  · exact ⟨_, _, rfl⟩

/-- THE DOCUMENT's DISK at block p of w; S: the blocks that it may turn. -/
structure RDisk (w : World) (S : Nat → Prop) (p : Nat) (fv : Value) (m : DiskM) : Prop where
  box : Bx3 w p (.int .i64 m.room) fv (.int .i64 m.left)
  row : w.ownsRow 0 127 3 fv m.files.length (fileCells m.files)
  own : S p
  far : ∀ k, fv.ownBlock = some k → S k ∧ k ≠ p
  lt : ∀ k, S k → k < w.heap.size

theorem RDisk.touch {w w' : World} {S T : Nat → Prop} {p : Nat} {fv : Value} {m : DiskM} (h : RDisk w S p fv m) (ht : Tch T w w') (hd : ∀ k, S k → ¬ T k) : RDisk w' S p fv m :=
  ⟨h.box.touch ht (hd p h.own), ht.owns h.row (fun k hk => hd k (h.far k hk).1), h.own, h.far, fun k hk => Nat.lt_of_lt_of_le (h.lt k hk) ht.size⟩

theorem RDisk.later {w w' : World} {S : Nat → Prop} {p : Nat} {fv : Value} {m : DiskM} (h : RDisk w S p fv m) (hb : Below w.heap.size w w') : RDisk w' S p fv m := h.touch (Tch.ofBelow (S := fun _ => False) hb) (fun _ _ x => x)

/-- the calls that are left, written anew. -/
theorem RDisk.setLeft {w : World} {S : Nat → Prop} {p : Nat} {fv : Value} {m : DiskM} (h : RDisk w S p fv m) (n : Int) : RDisk (w.setCell ⟨p, 2, none⟩ (.int .i64 n)) S p fv { m with left := n } :=
  ⟨h.box.set2 _, (touch_set (S := fun k => k = p) (p := ⟨p, 2, none⟩) (.int .i64 n) rfl).owns h.row (fun k hk e => (h.far k hk).2 e), h.own, h.far, fun k hk => by simpa using h.lt k hk⟩

end Rl
end Go.Proofs.YthcnkbeognkjgaaGreatDoor
