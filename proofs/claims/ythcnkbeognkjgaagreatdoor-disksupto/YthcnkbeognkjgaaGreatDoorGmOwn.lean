/-
  Whose each block is: a number for each owner; what a call leaves alone.
-/
import Derived.Test.YthcnkbeognkjgaaGreatDoorDkHeap
import Derived.Test.YthcnkbeognkjgaaGreatDoorDkTouch
namespace Go.Proofs.YthcnkbeognkjgaaGreatDoor
open Go.RowKit
namespace Rl

/-- the blocks of the owner c. -/
def Own (w : World) (ow : Nat → Nat) (c : Nat) : Nat → Prop := fun k => k < w.heap.size ∧ ow k = c

/-- all that is new is c's. -/
def ext (w : World) (ow : Nat → Nat) (c : Nat) : Nat → Nat := fun k => if k < w.heap.size then ow k else c

/-- the blocks of a become b's. -/
def recode (ow : Nat → Nat) (a b : Nat) : Nat → Nat := fun k => if ow k = a then b else ow k

/-- WHAT A CALL LEAVES ALONE: the blocks of every owner outside T stay its own, and as they were. -/
structure Fr (T : Nat → Prop) (w : World) (ow : Nat → Nat) (w' : World) (ow' : Nat → Nat) : Prop where
  os : w'.os = w.os
  tape : w'.tape = w.tape
  output : w'.output = w.output
  size : w.heap.size ≤ w'.heap.size
  keep : ∀ k, k < w.heap.size → ¬ T (ow k) → ow' k = ow k ∧ w'.heap[k]? = w.heap[k]?

theorem Fr.refl (T : Nat → Prop) (w : World) (ow : Nat → Nat) : Fr T w ow w ow := ⟨rfl, rfl, rfl, Nat.le_refl _, fun _ _ _ => ⟨rfl, rfl⟩⟩

theorem Fr.trans {T T' : Nat → Prop} {a b c : World} {oa ob oc : Nat → Nat} (h : Fr T a oa b ob) (k : Fr T' b ob c oc) (hT : ∀ i, T' i → T i) : Fr T a oa c oc :=
  ⟨k.os.trans h.os, k.tape.trans h.tape, k.output.trans h.output, Nat.le_trans h.size k.size, fun i hi hn => by
    obtain ⟨h1, h2⟩ := h.keep i hi hn
    obtain ⟨k1, k2⟩ := k.keep i (Nat.lt_of_lt_of_le hi h.size) (fun x => hn (by rw [h1] at x; exact hT _ x))
    exact ⟨k1.trans h1, k2.trans h2⟩⟩

theorem Fr.mono {T T' : Nat → Prop} {a b : World} {oa ob : Nat → Nat} (h : Fr T a oa b ob) (hT : ∀ i, T i → T' i) : Fr T' a oa b ob :=
  ⟨h.os, h.tape, h.output, h.size, fun i hi hn => h.keep i hi (fun x => hn (hT _ x))⟩

theorem Fr.ofTch {T : Nat → Prop} {S : Nat → Prop} {w w' : World} {ow : Nat → Nat} (h : Tch S w w') (hS : ∀ k, k < w.heap.size → S k → T (ow k)) (c : Nat) : Fr T w ow w' (ext w ow c) :=
  ⟨h.os, h.tape, h.output, h.size, fun k hk hn => ⟨by unfold ext; rw [if_pos hk], h.block k hk (fun x => hn (hS k hk x))⟩⟩

theorem Fr.ofBelow {w w' : World} (ow : Nat → Nat) (h : Below w.heap.size w w') (T : Nat → Prop) (c : Nat) : Fr T w ow w' (ext w ow c) := Fr.ofTch (S := fun _ => False) (Tch.ofBelow h) (fun _ _ x => x.elim) c

theorem Fr.recode (T : Nat → Prop) (w : World) (ow : Nat → Nat) (a b : Nat) (ha : T a) : Fr T w ow w (recode ow a b) :=
  ⟨rfl, rfl, rfl, Nat.le_refl _, fun k _ hn => ⟨by unfold Rl.recode; rw [if_neg (fun e => hn (by rw [e]; exact ha))], rfl⟩⟩

theorem Fr.ow {T : Nat → Prop} {w w' : World} {ow ow' : Nat → Nat} (h : Fr T w ow w' ow') {k c : Nat} (hk : k < w.heap.size) (hc : ow k = c) (hT : ¬ T c) : ow' k = c := by
  have := (h.keep k hk (by rw [hc]; exact hT)).1
  rw [this, hc]

theorem Fr.cell {T : Nat → Prop} {w w' : World} {ow ow' : Nat → Nat} (h : Fr T w ow w' ow') {p : Addr} {c : Nat} (hk : p.block < w.heap.size) (hc : ow p.block = c) (hT : ¬ T c) : w'.cell? p = w.cell? p :=
  World.cell?_of_block (h.keep _ hk (by rw [hc]; exact hT)).2

theorem Fr.frozen {T : Nat → Prop} {w w' : World} {ow ow' : Nat → Nat} (h : Fr T w ow w' ow') {p : Addr} {c : Nat} (hk : p.block < w.heap.size) (hc : ow p.block = c) (hT : ¬ T c) : w'.frozen? p = w.frozen? p :=
  World.frozen?_of_block (h.keep _ hk (by rw [hc]; exact hT)).2

/-- A ROW OF THE OWNER c. -/
structure RowC (w : World) (ow : Nat → Nat) (e : TypeId) (size : Nat) (v : Value) (n : Nat) (xs : List Value) (c : Nat) : Prop where
  row : w.ownsRow 0 e size v n xs
  code : ∀ k, v.ownBlock = some k → ow k = c

theorem RowC.frame {T : Nat → Prop} {w w' : World} {ow ow' : Nat → Nat} {e : TypeId} {size : Nat} {v : Value} {n : Nat} {xs : List Value} {c : Nat} (h : RowC w ow e size v n xs c) (hf : Fr T w ow w' ow') (hT : ¬ T c) : RowC w' ow' e size v n xs c := by
  have hl := h.row.lt
  refine ⟨⟨h.row.1, ?_⟩, fun k hk => hf.ow (hl k hk).2 (h.code k hk) hT⟩
  rcases h.row.2 with hn' | ⟨g, cap, cur, rfl, hbg, hgg, rest⟩
  · exact .inl hn'
  · refine .inr ⟨g, cap, cur, rfl, hbg, ?_, rest⟩
    have hc := h.code g rfl
    rw [(hf.keep g (hl g rfl).2 (by rw [hc]; exact hT)).2]
    exact hgg

theorem RowC.nil (w : World) (ow : Nat → Nat) (e : TypeId) (size c : Nat) : RowC w ow e size (.slice none 0 0) 0 [] c := ⟨World.ownsRow_nil _ _ _ _, fun _ h => by cases h⟩

theorem RowC.recode {w : World} {ow : Nat → Nat} {e : TypeId} {size : Nat} {v : Value} {n : Nat} {xs : List Value} {c : Nat} (h : RowC w ow e size v n xs c) (d : Nat) : RowC w (recode ow c d) e size v n xs d :=
  ⟨h.row, fun k hk => by unfold Rl.recode; rw [if_pos (h.code k hk)]⟩

/-- a row that came out of a call, new: c's where the new is c's. -/
theorem RowC.fresh {w w' : World} (ow : Nat → Nat) {e : TypeId} {size : Nat} {v : Value} {n : Nat} {xs : List Value} (h : w'.ownsRow w.heap.size e size v n xs) (c : Nat) : RowC w' (ext w ow c) e size v n xs c :=
  ⟨⟨h.1, h.2.imp id (fun ⟨g, cap, cur, e, hb, r⟩ => ⟨g, cap, cur, e, Nat.zero_le _, r⟩)⟩, fun k hk => by unfold ext; rw [if_neg (by have := (h.lt k hk).1; omega)]⟩

/-- a row grown by an append: its own blocks and new ones have turned. -/
theorem RowC.grown {w w' : World} {ow : Nat → Nat} {e : TypeId} {size : Nat} {v v' : Value} {n m : Nat} {xs ys : List Value} {c : Nat} (h : RowC w ow e size v n xs c) (hb : w'.ownsRow 0 e size v' m ys) (hg : w.grownBy w' v.ownBlock) (hp : v'.ownBlock = v.ownBlock ∨ ∃ k, v'.ownBlock = some k ∧ w.heap.size ≤ k) :
    RowC w' (ext w ow c) e size v' m ys c ∧ Fr (fun i => i = c) w ow w' (ext w ow c) := by
  refine ⟨⟨hb, fun k hk => ?_⟩, Fr.ofTch (S := fun k => v.ownBlock = some k) ⟨hg.os, hg.tape, hg.output, hg.size, fun k hk hn => hg.block k hk (fun e => hn e.symm)⟩ (fun k _ hk => h.code k hk) c⟩
  unfold ext
  by_cases hlt : k < w.heap.size
  · rw [if_pos hlt]
    rcases hp with hp | ⟨j, hj, hjl⟩
    · exact h.code k (by rw [← hp]; exact hk)
    · rw [hk] at hj; cases hj; omega
  · rw [if_neg hlt]

end Rl
end Go.Proofs.YthcnkbeognkjgaaGreatDoor
