/-
  A world of the game: the program's disk and the document's, each with blocks of its own.
-/
import Derived.Test.YthcnkbeognkjgaaGreatDoorGmOwn
import Derived.Test.YthcnkbeognkjgaaGreatDoorGmFine
import Derived.Test.YthcnkbeognkjgaaGreatDoorDkOuterC
import Derived.Test.YthcnkbeognkjgaaGreatDoorDkNil
import Derived.Test.YthcnkbeognkjgaaGreatDoorDkRefF
import Derived.Test.YthcnkbeognkjgaaGreatDoorDkRefG
namespace Go.Proofs.YthcnkbeognkjgaaGreatDoor
open Go.RowKit
namespace Rl

theorem PDisk.mono {w : World} {S S' : Nat → Prop} {q : Nat} {m : DiskM} (h : PDisk w S q m) (hs : ∀ k, S k → S' k) (hl : ∀ k, S' k → k < w.heap.size) : PDisk w S' q m := by
  obtain ⟨p, b, cv, hc, hi⟩ := h.inner
  exact ⟨hs _ h.own, hl, p, b, cv, hc, hi.mono (fun k hk => ⟨hs k hk.1, hk.2⟩) (fun k hk => hl k hk.1)⟩

theorem RDisk.mono {w : World} {S S' : Nat → Prop} {p : Nat} {fv : Value} {m : DiskM} (h : RDisk w S p fv m) (hs : ∀ k, S k → S' k) (hl : ∀ k, S' k → k < w.heap.size) : RDisk w S' p fv m :=
  ⟨h.box, h.row, hs _ h.own, fun k hk => ⟨hs _ (h.far k hk).1, (h.far k hk).2⟩, hl⟩

theorem Fr.tch {T : Nat → Prop} {w w' : World} {ow ow' : Nat → Nat} (h : Fr T w ow w' ow') : Tch (fun k => T (ow k)) w w' := ⟨h.os, h.tape, h.output, h.size, fun k hk hn => (h.keep k hk hn).2⟩

theorem own_frame {T : Nat → Prop} {w w' : World} {ow ow' : Nat → Nat} (h : Fr T w ow w' ow') {c : Nat} (hT : ¬ T c) (k : Nat) (hk : Own w ow c k) : Own w' ow' c k := ⟨Nat.lt_of_lt_of_le hk.1 h.size, h.ow hk.1 hk.2 hT⟩

theorem PDisk.frame {T : Nat → Prop} {w w' : World} {ow ow' : Nat → Nat} {c q : Nat} {m : DiskM} (h : PDisk w (Own w ow c) q m) (hf : Fr T w ow w' ow') (hT : ¬ T c) : PDisk w' (Own w' ow' c) q m :=
  (h.touch hf.tch (fun k hk x => hT (by rw [← hk.2]; exact x))).mono (own_frame hf hT) (fun _ hk => hk.1)

theorem RDisk.frame {T : Nat → Prop} {w w' : World} {ow ow' : Nat → Nat} {c p : Nat} {fv : Value} {m : DiskM} (h : RDisk w (Own w ow c) p fv m) (hf : Fr T w ow w' ow') (hT : ¬ T c) : RDisk w' (Own w' ow' c) p fv m :=
  (h.touch hf.tch (fun k hk x => hT (by rw [← hk.2]; exact x))).mono (own_frame hf hT) (fun _ hk => hk.1)

theorem own_ext {w w' : World} {ow : Nat → Nat} {c : Nat} {S' : Nat → Prop} (hs : ∀ k, S' k → Own w ow c k ∨ w.heap.size ≤ k) (k : Nat) (hk : S' k) (hl : k < w'.heap.size) : Own w' (ext w ow c) c k := by
  refine ⟨hl, ?_⟩
  unfold ext
  rcases hs k hk with x | x
  · rw [if_pos x.1]; exact x.2
  · rw [if_neg (by omega)]

/-- what a call on the program's disk leaves. -/
theorem p_step {w w' : World} {ow : Nat → Nat} {c q : Nat} {m' : DiskM} (h : PBecomes (Own w ow c) w w' q m') : ∃ ow', PDisk w' (Own w' ow' c) q m' ∧ Fr (fun i => i = c) w ow w' ow' := by
  obtain ⟨S', h1, h2, h3⟩ := h
  exact ⟨ext w ow c, h1.mono (fun k hk => own_ext h2 k hk (h1.lt k hk)) (fun _ hk => hk.1), Fr.ofTch h3 (fun _ _ hk => hk.2) c⟩

theorem r_step {w w' : World} {ow : Nat → Nat} {c p : Nat} {m' : DiskM} (h : Becomes (Own w ow c) w w' p m') : ∃ ow' fv, RDisk w' (Own w' ow' c) p fv m' ∧ Fr (fun i => i = c) w ow w' ow' := by
  obtain ⟨S', fv, h1, h2, h3⟩ := h
  exact ⟨ext w ow c, fv, h1.mono (fun k hk => own_ext h2 k hk (h1.lt k hk)) (fun _ hk => hk.1), Fr.ofTch h3 (fun _ _ hk => hk.2) c⟩

theorem PDisk.ord {w : World} {S : Nat → Prop} {q : Nat} {m : DiskM} (h : PDisk w S q m) : Ord m.files := by
  obtain ⟨p, b, cv, _, hi⟩ := h.inner; exact hi.ord
theorem PDisk.sync {w : World} {S : Nat → Prop} {q : Nat} {m : DiskM} (h : PDisk w S q m) : ∀ f ∈ m.files, f.sync ≤ f.data.size := by
  obtain ⟨p, b, cv, _, hi⟩ := h.inner; exact hi.sync

/-- BOTH DISKS OF A WORLD: none, or the same data. -/
def Disks2 (w : World) (ow : Nat → Nat) (i : Nat) (xv dv : Value) (om : Option DiskM) : Prop :=
  match om with
  | none => xv = .pointer none ∧ dv = .pointer none
  | some m => ∃ q p fv, xv = .pointer (some ⟨q, 0, none⟩) ∧ dv = .pointer (some ⟨p, 0, none⟩) ∧ PDisk w (Own w ow (21 + 3 * i)) q m ∧ RDisk w (Own w ow (22 + 3 * i)) p fv m

theorem Disks2.frame {T : Nat → Prop} {w w' : World} {ow ow' : Nat → Nat} {i : Nat} {xv dv : Value} {om : Option DiskM} (h : Disks2 w ow i xv dv om) (hf : Fr T w ow w' ow') (h1 : ¬ T (21 + 3 * i)) (h2 : ¬ T (22 + 3 * i)) : Disks2 w' ow' i xv dv om := by
  cases om with
  | none => exact h
  | some m =>
    obtain ⟨q, p, fv, e1, e2, hp, hr⟩ := h
    exact ⟨q, p, fv, e1, e2, hp.frame hf h1, hr.frame hf h2⟩

def FineO (om : Option DiskM) (a b : Nat) : Prop := ∀ m, om = some m → Fine m a b

theorem FineO.mono {om : Option DiskM} {a b a' b' : Nat} (h : FineO om a b) (ha : a ≤ a') (hb : b ≤ b') : FineO om a' b' := fun m hm => (h m hm).mono ha hb

/-- A WORLD OF THE GAME at block B of five cells, its number i. -/
structure WorldC (w : World) (ow : Nat → Nat) (i B : Nat) (xv dv : Value) (om : Option DiskM) : Prop where
  own : ow B = 20 + 3 * i
  lt : B < w.heap.size
  c0 : w.cell? ⟨B, 0, none⟩ = some xv
  c1 : w.cell? ⟨B, 1, none⟩ = some dv
  c2 : w.cell? ⟨B, 2, none⟩ = some (.pointer none)
  c3 : w.cell? ⟨B, 3, none⟩ = some (.pointer none)
  c4 : ∃ b, w.cell? ⟨B, 4, none⟩ = some (.bool b)
  fz : ∀ j, j < 5 → w.frozen? ⟨B, j, none⟩ = false
  disks : Disks2 w ow i xv dv om

theorem WorldC.frame {T : Nat → Prop} {w w' : World} {ow ow' : Nat → Nat} {i B : Nat} {xv dv : Value} {om : Option DiskM} (h : WorldC w ow i B xv dv om) (hf : Fr T w ow w' ow') (h0 : ¬ T (20 + 3 * i)) (h1 : ¬ T (21 + 3 * i)) (h2 : ¬ T (22 + 3 * i)) : WorldC w' ow' i B xv dv om :=
  ⟨hf.ow h.lt h.own h0, Nat.lt_of_lt_of_le h.lt hf.size, (hf.cell (p := ⟨B, 0, none⟩) h.lt h.own h0).trans h.c0, (hf.cell (p := ⟨B, 1, none⟩) h.lt h.own h0).trans h.c1, (hf.cell (p := ⟨B, 2, none⟩) h.lt h.own h0).trans h.c2, (hf.cell (p := ⟨B, 3, none⟩) h.lt h.own h0).trans h.c3,
    (let ⟨b, hb⟩ := h.c4; ⟨b, (hf.cell (p := ⟨B, 4, none⟩) h.lt h.own h0).trans hb⟩), fun j hj => (hf.frozen (p := ⟨B, j, none⟩) h.lt h.own h0).trans (h.fz j hj), h.disks.frame hf h1 h2⟩

/-- the world's block stays while its disks are called. -/
theorem WorldC.shell {T : Nat → Prop} {w w' : World} {ow ow' : Nat → Nat} {i B : Nat} {xv dv : Value} {om om' : Option DiskM} (h : WorldC w ow i B xv dv om) (hf : Fr T w ow w' ow') (h0 : ¬ T (20 + 3 * i)) (hd : Disks2 w' ow' i xv dv om') : WorldC w' ow' i B xv dv om' :=
  ⟨hf.ow h.lt h.own h0, Nat.lt_of_lt_of_le h.lt hf.size, (hf.cell (p := ⟨B, 0, none⟩) h.lt h.own h0).trans h.c0, (hf.cell (p := ⟨B, 1, none⟩) h.lt h.own h0).trans h.c1, (hf.cell (p := ⟨B, 2, none⟩) h.lt h.own h0).trans h.c2, (hf.cell (p := ⟨B, 3, none⟩) h.lt h.own h0).trans h.c3,
    (let ⟨b, hb⟩ := h.c4; ⟨b, (hf.cell (p := ⟨B, 4, none⟩) h.lt h.own h0).trans hb⟩), fun j hj => (hf.frozen (p := ⟨B, j, none⟩) h.lt h.own h0).trans (h.fz j hj), hd⟩

/-- a call on the program's disk, then the same on the document's. -/
def XEnd (w : World) (ow : Nat → Nat) (i : Nat) (E : Int) (xv : Value) (om : Option DiskM) : Ending → World → Prop := fun e w' => e = .returned (.int .i64 E) ∧ ∃ ow', Fr (fun c => c = 21 + 3 * i) w ow w' ow' ∧ (∀ m, om = some m → ∃ q, xv = .pointer (some ⟨q, 0, none⟩) ∧ PDisk w' (Own w' ow' (21 + 3 * i)) q m)

def DEnd (w : World) (ow : Nat → Nat) (i : Nat) (E : Int) (dv : Value) (om : Option DiskM) : Ending → World → Prop := fun e w' => e = .returned (.int .i64 E) ∧ ∃ ow', Fr (fun c => c = 22 + 3 * i) w ow w' ow' ∧ (∀ m, om = some m → ∃ p fv, dv = .pointer (some ⟨p, 0, none⟩) ∧ RDisk w' (Own w' ow' (22 + 3 * i)) p fv m)

/-- what the two calls have to do for one step of a world that writes: the same error E, the disks then om'. -/
structure Both (fx fd : FuncId) (args : List Value) (w : World) (ow : Nat → Nat) (i : Nat) (xv dv : Value) (om' : Option DiskM) (E : Int) : Prop where
  x : Calls Tryz.prog fx (xv :: args).toArray w (XEnd w ow i E xv om')
  d : ∀ w' ow', Fr (fun c => c = 21 + 3 * i) w ow w' ow' → Calls Tryz.prog fd (dv :: args).toArray w' (DEnd w' ow' i E dv om')
  nil : om' = none → xv = .pointer none ∧ dv = .pointer none

end Rl
end Go.Proofs.YthcnkbeognkjgaaGreatDoor
