/-
  Rows that are full of one mark, and what an append leaves of them.
-/
import Derived.Test.YtamngkbmhepciaaAppPlace
import Derived.Test.YtamngkbmhepciaaChange
namespace Go.Proofs.Ytamngkbmhepciaa
open Go.RowKit
open Rl

/-- a cell of a row that is full of the n-th mark. -/
def mk (n : Int) (j : Nat) : Value := if j % 2 = 0 then .int .i64 (-n) else .int .i64 n

def marksN (n : Int) (m : Nat) : List (Int × Int) := List.replicate m (-n, n)

theorem mk_cells (n : Int) (m j : Nat) (h : j < m * 2) : (pfCells (marksN n m))[j]? = some (mk n j) := by
  have hl : j / 2 < (marksN n m).length := by unfold marksN; simp; omega
  obtain ⟨g1, g2⟩ := pfCells_get (marksN n m) (j / 2) hl
  have e : (marksN n m)[j / 2] = (-n, n) := List.eq_of_mem_replicate (List.getElem_mem hl)
  rw [e] at g1 g2
  unfold mk
  by_cases h2 : j % 2 = 0
  · rw [if_pos h2]; rw [show j / 2 * 2 = j from by omega] at g1; exact g1
  · rw [if_neg h2]; rw [show j / 2 * 2 + 1 = j from by omega] at g2; exact g2

theorem marksN_snoc (n : Int) (m : Nat) : pfCells (marksN n (m + 1)) = pfCells (marksN n m) ++ [.int .i64 (-n), .int .i64 n] := by
  unfold marksN
  rw [List.replicate_succ', pf_app]
  rfl

/-- a slice of at most M elements, all of them the n-th mark. -/
def FullS (w : World) (n : Int) (M : Nat) (u : Value) : Prop := ∃ a len c, u = .slice a len c ∧ len ≤ M ∧ (len = 0 ∨ ∃ b, a = some ⟨b, 0, none⟩ ∧ b < w.heap.size ∧ ∀ j, j < len * 2 → w.cell? ⟨b, j, none⟩ = some (mk n j))

theorem FullS.block {w w' : World} {n : Int} {M : Nat} {u : Value} (h : FullS w n M u) (hk : ∀ k, u.ownBlock = some k → k < w.heap.size → w'.heap[k]? = w.heap[k]?) (hs : w.heap.size ≤ w'.heap.size) : FullS w' n M u := by
  obtain ⟨a, len, c, rfl, hl, hc⟩ := h
  refine ⟨a, len, c, rfl, hl, ?_⟩
  rcases hc with h0 | ⟨b, rfl, hb, hc⟩
  · exact .inl h0
  · refine .inr ⟨b, rfl, Nat.lt_of_lt_of_le hb hs, fun j hj => ?_⟩
    exact (World.cell?_of_block (a := ⟨b, j, none⟩) (hk b rfl hb)).trans (hc j hj)

theorem FullS.more {w : World} {n : Int} {M M' : Nat} {u : Value} (h : FullS w n M u) (hM : M ≤ M') : FullS w n M' u := by
  obtain ⟨a, len, c, rfl, hl, hc⟩ := h
  exact ⟨a, len, c, rfl, Nat.le_trans hl hM, hc⟩

theorem FullS.of_owns {w : World} {B : Nat} {e : TypeId} {v : Value} {n : Int} {m : Nat} (h : w.ownsRow B e 2 v m (pfCells (marksN n m))) : FullS w n m v := by
  rcases h.2 with ⟨e1, e2⟩ | ⟨g, cap, cur, e1, hb, hg, _⟩
  · subst e2; exact ⟨none, 0, 0, e1, Nat.le_refl _, .inl rfl⟩
  · subst e1
    refine ⟨_, m, cap, rfl, Nat.le_refl _, .inr ⟨g, rfl, (Array.getElem?_eq_some_iff.1 hg).1, fun j hj => ?_⟩⟩
    rw [h.cellAt j hj]
    exact mk_cells n m j hj

/-- behind one mark more. -/
theorem FullS.laid {w w' : World} {B : Nat} {e : TypeId} {v v' u : Value} {n : Int} {m : Nat} (h : FullS w n m u) (hn : w'.ownsRow B e 2 v' (m + 1) (pfCells (marksN n (m + 1)))) (hg : w.grownBy w' v.ownBlock) (hl : Laid w w' v v') : FullS w' n (m + 1) u := by
  obtain ⟨a, len, c, rfl, hlen, hc⟩ := h
  refine ⟨a, len, c, rfl, by omega, ?_⟩
  rcases hc with h0 | ⟨b, rfl, hb, hc⟩
  · exact .inl h0
  · refine .inr ⟨b, rfl, Nat.lt_of_lt_of_le hb hg.size, fun j hj => ?_⟩
    by_cases e1 : some b = v.ownBlock
    · rcases hl with hs | ⟨_, hs⟩
      · rcases hn.2 with ⟨e2, e3⟩ | ⟨g2, cap2, cur2, e2, _⟩
        · omega
        · subst e2
          have e4 : g2 = b := by
            rw [← e1] at hs; simpa [Value.ownBlock] using hs
          subst e4
          rw [hn.cellAt j (by omega)]
          exact mk_cells n (m + 1) j (by omega)
      · exact (World.cell?_of_block (a := ⟨b, j, none⟩) (hs b hb)).trans (hc j hj)
    · exact (World.cell?_of_block (a := ⟨b, j, none⟩) (hg.block b hb e1)).trans (hc j hj)

theorem grown_trans {a b c : World} {row row2 : Option Nat} (h : a.grownBy b row) (k : b.grownBy c row2) (hr : ∀ j, row2 = some j → row = some j ∨ a.heap.size ≤ j) : a.grownBy c row :=
  ⟨k.os.trans h.os, k.tape.trans h.tape, k.output.trans h.output, Nat.le_trans h.size k.size, fun j hj hne => (k.block j (Nat.lt_of_lt_of_le hj h.size) (fun e => by rcases hr j e.symm with h1 | h1; exact hne h1.symm; omega)).trans (h.block j hj hne)⟩

theorem grown_set (w : World) (g o : Nat) (u : Value) : w.grownBy (w.setCell ⟨g, o, none⟩ u) (some g) :=
  ⟨rfl, rfl, rfl, by simp, fun k _ hne => Below.heap_setCell w _ u k (by intro e; apply hne; rw [e])⟩

theorem laid_ne {w w' : World} {v v' : Value} {k : Nat} (h : Laid w w' v v') (h1 : v.ownBlock ≠ some k) (h2 : k < w.heap.size) : v'.ownBlock ≠ some k := by
  intro e
  rcases h with h | ⟨⟨j, h, hj⟩, _⟩
  · rw [h] at e; exact h1 e
  · rw [h] at e; injection e; omega

theorem fill_set (n : Int) (l : List (Int × Int)) (k : Nat) (h : k < l.length) : (marksN n k ++ l.drop k).set k (-n, n) = marksN n (k + 1) ++ l.drop (k + 1) := by
  unfold marksN
  rw [List.set_append, if_neg (by simp), List.length_replicate, Nat.sub_self, List.drop_eq_getElem_cons h, List.set_cons_zero, List.replicate_succ', List.append_assoc]
  rfl

end Go.Proofs.Ytamngkbmhepciaa
