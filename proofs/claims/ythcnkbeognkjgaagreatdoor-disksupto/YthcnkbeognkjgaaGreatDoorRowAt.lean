/-
  A slice that is only read: where its cells lie. Nothing of the program is named here.
-/
import Derived.Test.YthcnkbeognkjgaaGreatDoorNumMath
import Derived.Laws.OwnMore
import Derived.Below
import Derived.WalkSmall
namespace Go.Proofs.YthcnkbeognkjgaaGreatDoor
open Go.RowKit
namespace Rl

/-- the slice value v of n elements, of 'size' cells each, reads as the cells xs. -/
def RowAt (w : World) (v : Value) (n size : Nat) (xs : List Value) : Prop :=
  xs.length = n * size ∧ ((∃ a c, v = .slice a 0 c ∧ n = 0) ∨
    ∃ b o cap, v = .slice (some ⟨b, o, none⟩) n cap ∧ 0 < n ∧ b < w.heap.size ∧ ∀ j u, xs[j]? = some u → w.cell? ⟨b, o + j, none⟩ = some u)

theorem RowAt.nil (w : World) (a : Option Addr) (c size : Nat) : RowAt w (.slice a 0 c) 0 size [] := ⟨by simp, .inl ⟨a, c, rfl, rfl⟩⟩

theorem RowAt.below {B : Nat} {w w' : World} {v : Value} {n size : Nat} {xs : List Value} (h : RowAt w v n size xs) (hb : Below B w w') (hB : ∀ k, v.ownBlock = some k → k < B) : RowAt w' v n size xs := by
  refine ⟨h.1, ?_⟩
  rcases h.2 with h | ⟨b, o, cap, rfl, hn, hlt, hc⟩
  · exact .inl h
  · refine .inr ⟨b, o, cap, rfl, hn, Nat.lt_of_lt_of_le hlt hb.size, fun j u hu => ?_⟩
    have := hB b rfl
    rw [hb.cell (p := ⟨b, o + j, none⟩) this]
    exact hc j u hu

/-- by the heap's whole size. -/
theorem RowAt.later {w w' : World} {v : Value} {n size : Nat} {xs : List Value} (h : RowAt w v n size xs) (hb : Below w.heap.size w w') : RowAt w' v n size xs := by
  rcases h.2 with ⟨a, c, rfl, rfl⟩ | ⟨b, o, cap, rfl, hn, hlt, hc⟩
  · exact ⟨h.1, .inl ⟨a, c, rfl, rfl⟩⟩
  · refine h.below hb ?_
    intro k hk
    simp [Value.ownBlock] at hk
    omega

theorem rowAt_of_owns {w : World} {base : Nat} {e : TypeId} {size : Nat} {v : Value} {n : Nat} {xs : List Value} (h : w.ownsRow base e size v n xs) : RowAt w v n size xs := by
  refine ⟨h.1, ?_⟩
  rcases h.2 with ⟨rfl, rfl⟩ | ⟨g, cap, cur, rfl, hb, hg, hnc, hcm, hcs, ht⟩
  · exact .inl ⟨none, 0, rfl, rfl⟩
  · by_cases hn : n = 0
    · subst hn; exact .inl ⟨_, _, rfl, rfl⟩
    · refine .inr ⟨g, 0, cap, rfl, by omega, (Array.getElem?_eq_some_iff.1 hg).1, fun j u hu => ?_⟩
      have hj : j < n * size := by
        have := (List.getElem?_eq_some_iff.1 hu).1
        rw [h.1] at this; exact this
      rw [Nat.zero_add, h.cellAt j hj, hu]

/-- an owned row stays owned behind a call that turns nothing that was there. -/
theorem owns_later {w w' : World} {base : Nat} {e : TypeId} {size : Nat} {v : Value} {n : Nat} {xs : List Value} (h : w.ownsRow base e size v n xs) (hb : Below w.heap.size w w') : w'.ownsRow base e size v n xs := by
  refine ⟨h.1, ?_⟩
  rcases h.2 with hn | ⟨g, cap, cur, rfl, hbg, hgg, rest⟩
  · exact .inl hn
  · refine .inr ⟨g, cap, cur, rfl, hbg, ?_, rest⟩
    rw [hb.block g (Array.getElem?_eq_some_iff.1 hgg).1]
    exact hgg

/-- what lies below a block's number reads as before: two rules for the walk. -/
theorem bcell {W w1 : World} (hb : Below W.heap.size W w1) : (∀ b o, b < W.heap.size → w1.cell? ⟨b, o, none⟩ = W.cell? ⟨b, o, none⟩) ∧ (∀ b o, b < W.heap.size → w1.frozen? ⟨b, o, none⟩ = W.frozen? ⟨b, o, none⟩) :=
  ⟨fun b o h => hb.cell (p := ⟨b, o, none⟩) h, fun b o h => hb.frozen (p := ⟨b, o, none⟩) h⟩

/-- behind a call: what was below B is so still. -/
theorem later_below {B : Nat} {a w w' : World} (h : Below B a w) (hb : Below w.heap.size w w') (hB : B ≤ w.heap.size) : Below B a w' := h.trans (hb.mono hB)

/-- a new block of three cells, behind a call. -/
theorem new3 {w w2 : World} {a b c : Value} {T : TypeId} (hb : Below (w.alloc (.cells #[a, b, c] T)).heap.size (w.alloc (.cells #[a, b, c] T)) w2) :
    w2.cell? ⟨w.heap.size, 0, none⟩ = some a ∧ w2.cell? ⟨w.heap.size, 1, none⟩ = some b ∧ w2.cell? ⟨w.heap.size, 2, none⟩ = some c ∧ w.heap.size < w2.heap.size := by
  have hs : w.heap.size < (w.alloc (.cells #[a, b, c] T)).heap.size := by simp
  refine ⟨?_, ?_, ?_, Nat.lt_of_lt_of_le hs hb.size⟩
  · rw [hb.cell (p := ⟨w.heap.size, 0, none⟩) hs]; simp
  · rw [hb.cell (p := ⟨w.heap.size, 1, none⟩) hs]; simp
  · rw [hb.cell (p := ⟨w.heap.size, 2, none⟩) hs]; simp

/-- the cells of a new block, as an append asks for them. -/
theorem cells_new (w : World) (cs : Array Value) (T : TypeId) : ∀ (j : Nat) (u : Value), cs.toList[j]? = some u → (w.alloc (.cells cs T)).cell? ((⟨w.heap.size, 0, none⟩ : Addr).add j) = some u := by
  intro j u h
  rw [add_head]
  simpa using h

/-- a cell outside the row that grew. -/
theorem grown_cell {w w' : World} {o : Obj} {row : Option Nat} (hg : (w.alloc o).grownBy w' row) {a : Addr} {v : Value} (h : w.cell? a = some v) (hne : some a.block ≠ row) : w'.cell? a = some v := by
  refine hg.cell ?_ hne
  have hlt := World.block_lt_of_cell? w a h
  rw [World.cell?_of_block (Below.heap_alloc w o a.block hlt)]
  exact h

theorem own_ne {w : World} {base : Nat} {e : TypeId} {size : Nat} {v : Value} {n : Nat} {xs : List Value} (h : w.ownsRow base e size v n xs) (k : Nat) (hk : w.heap.size ≤ k) : some k ≠ v.ownBlock := by
  intro e1
  have := (h.lt k e1.symm).2
  omega

/-- below the base nothing has turned, behind an append to an owned row. -/
theorem below_app {B : Nat} {a w w' : World} {o : Obj} {e : TypeId} {size : Nat} {v : Value} {n : Nat} {xs : List Value} (h : Below B a w) (hB : B ≤ w.heap.size) (hown : w.ownsRow B e size v n xs) (hg : (w.alloc o).grownBy w' v.ownBlock) : Below B a w' :=
  (h.alloc hB o).grown hg (by simp; omega) fun k hk => (hown.lt k hk).1

theorem owns_drewN {w : World} {base : Nat} {e : TypeId} {size : Nat} {v : Value} {n : Nat} {xs : List Value} (h : w.ownsRow base e size v n xs) (k : Nat) : (w.drewN k).ownsRow base e size v n xs := h

theorem one3 (a b : Int) (s : ByteArray) : ∀ u ∈ [Value.int .i64 a, Value.int .i64 b, Value.string s], u.oneCell' = true := by
  intro u hu; simp at hu; rcases hu with rfl | rfl | rfl <;> rfl

/-- the cells of a new block behind another one and a draw. -/
theorem cells_new2 (w : World) (o : Obj) (cs : Array Value) (T : TypeId) : ∀ (j : Nat) (u : Value), cs.toList[j]? = some u → ((w.alloc o).alloc (.cells cs T)).drew.cell? ((⟨w.heap.size + 1, 0, none⟩ : Addr).add j) = some u := by
  intro j u h
  have := cells_new (w.alloc o) cs T j u h
  simpa using this

theorem below_app2 {B : Nat} {a w w' : World} {o o2 : Obj} {e : TypeId} {size : Nat} {v : Value} {n : Nat} {xs : List Value} (h : Below B a w) (hB : B ≤ w.heap.size) (hown : w.ownsRow B e size v n xs) (hg : ((w.alloc o).alloc o2).drew.grownBy w' v.ownBlock) : Below B a w' :=
  ((h.alloc hB o).alloc (by simp; omega) o2).drew.grown hg (by simp; omega) fun k hk => (hown.lt k hk).1

/-- two cells of a new block, behind an append to a row that was there. -/
theorem two_cells {w w' : World} {a b : Value} {T : TypeId} {o : Obj} {row : Option Nat} (hg : ((w.alloc (.cells #[a, b] T)).alloc o).grownBy w' row) (hne : some w.heap.size ≠ row) :
    w'.cell? ⟨w.heap.size, 0, none⟩ = some a ∧ w'.cell? ⟨w.heap.size, 1, none⟩ = some b := by
  refine ⟨grown_cell hg ?_ hne, grown_cell hg ?_ hne⟩ <;> simp

theorem grown_size {w w' : World} {o o2 : Obj} {row : Option Nat} (hg : ((w.alloc o).alloc o2).grownBy w' row) : w.heap.size + 1 < w'.heap.size := by
  have := hg.size; simp at this; omega

theorem cells_new2' (w : World) (o : Obj) (cs : Array Value) (T : TypeId) : ∀ (j : Nat) (u : Value), cs.toList[j]? = some u → ((w.alloc o).alloc (.cells cs T)).cell? ((⟨w.heap.size + 1, 0, none⟩ : Addr).add j) = some u := by
  intro j u h
  have := cells_new (w.alloc o) cs T j u h
  simpa using this

theorem below_app2' {B : Nat} {a w w' : World} {o o2 : Obj} {e : TypeId} {size : Nat} {v : Value} {n : Nat} {xs : List Value} (h : Below B a w) (hB : B ≤ w.heap.size) (hown : w.ownsRow B e size v n xs) (hg : ((w.alloc o).alloc o2).grownBy w' v.ownBlock) : Below B a w' :=
  ((h.alloc hB o).alloc (by simp; omega) o2).grown hg (by simp; omega) fun k hk => (hown.lt k hk).1

theorem one1 (k : IntKind) (a : Int) : ∀ u ∈ [Value.int k a], u.oneCell' = true := by
  intro u hu; simp at hu; rcases hu with rfl; rfl

end Rl
end Go.Proofs.YthcnkbeognkjgaaGreatDoor
