/-
  A row that came in stays where a call turns other blocks; a row of numbers, place by place.
-/
import Derived.Test.YthcnkbeognkjgaaGreatDoorDkHeap
import Derived.Test.YthcnkbeognkjgaaGreatDoorInts
namespace Go.Proofs.YthcnkbeognkjgaaGreatDoor
open Go.RowKit
open Rl

theorem rowAt_touch {S : Nat → Prop} {w w' : World} {v : Value} {n size : Nat} {xs : List Value} (h : RowAt w v n size xs) (ht : Tch S w w') (hs : ∀ k, v.ownBlock = some k → ¬ S k) : RowAt w' v n size xs := by
  refine ⟨h.1, ?_⟩
  rcases h.2 with x | ⟨b, o, cap, e, hn, hb, hc⟩
  · exact .inl x
  · refine .inr ⟨b, o, cap, e, hn, Nat.lt_of_lt_of_le hb ht.size, fun j u hj => ?_⟩
    subst e
    exact (ht.cell (p := _) hb (hs b rfl)).trans (hc j u hj)

theorem rowAt_touch0 {S : Nat → Prop} {w w' : World} {v : Value} {n size : Nat} {xs : List Value} (h : RowAt w v n size xs) (ht : Tch S w w') (hs : n ≠ 0 → ∀ k, v.ownBlock = some k → ¬ S k) : RowAt w' v n size xs := by
  by_cases h0 : n = 0
  · refine ⟨h.1, ?_⟩
    rcases h.2 with x | ⟨b, o, cap, e, hn, _⟩
    · exact .inl x
    · omega
  · exact rowAt_touch h ht (hs h0)

theorem ints_get (l : List Int) (j : Nat) (h : j < l.length) : (ints l)[j * 1]? = some (.int .i64 l[j]) := by simp [ints, List.getElem?_eq_getElem h]

end Go.Proofs.YthcnkbeognkjgaaGreatDoor
