/-
  The books of lists that came out: a list is written full of a mark, and made longer, one by one.
-/
import Derived.Test.YthcnkbeognkjgaaGreatDoorGmOwn
import Derived.Test.YthcnkbeognkjgaaGreatDoorDkSame
import Derived.Test.YthcnkbeognkjgaaGreatDoorAppPlace
import Derived.Test.YthcnkbeognkjgaaGreatDoorStepLaws
import Derived.RegionTactic
import Derived.BigRegion
import Derived.BigQuiet
import Derived.Deep.CutBlock
import Derived.Deep.DeepCutAuto
import Derived.Deep.RegionLaw
namespace Go.Proofs.YthcnkbeognkjgaaGreatDoor
open Go.RowKit
namespace Rl

/-- THE GAME's BLOCK: sixteen cells. -/
structure GBlk (w : World) (ow : Nat → Nat) (G : Nat) (cs : Nat → Value) : Prop where
  own : ow G = 1
  lt : G < w.heap.size
  cells : ∀ j, j < 16 → w.cell? ⟨G, j, none⟩ = some (cs j)
  fz : ∀ j, j < 16 → w.frozen? ⟨G, j, none⟩ = false

/-- one cell written. -/
def upd (cs : Nat → Value) (j : Nat) (v : Value) : Nat → Value := fun i => if i = j then v else cs i

theorem upd_same (cs : Nat → Value) (j : Nat) (v : Value) : upd cs j v j = v := if_pos rfl
theorem upd_other (cs : Nat → Value) {i j : Nat} (v : Value) (h : i ≠ j) : upd cs j v i = cs i := if_neg h

theorem GBlk.set {w : World} {ow : Nat → Nat} {G : Nat} {cs : Nat → Value} (h : GBlk w ow G cs) {j : Nat} (hj : j < 16) (v : Value) : GBlk (w.setCell ⟨G, j, none⟩ v) ow G (upd cs j v) := by
  refine ⟨h.own, by simpa using h.lt, fun i hi => ?_, fun i hi => by simpa using h.fz i hi⟩
  by_cases e : i = j
  · subst e; rw [upd_same]; exact World.cell?_setCell_same _ _ _ (h.cells i hi)
  · rw [upd_other _ _ e, cell_other _ _ _ _ _ (fun x => e x.symm)]; exact h.cells i hi

theorem GBlk.frame {T : Nat → Prop} {w w' : World} {ow ow' : Nat → Nat} {G : Nat} {cs : Nat → Value} (h : GBlk w ow G cs) (hf : Fr T w ow w' ow') (hT : ¬ T 1) : GBlk w' ow' G cs :=
  ⟨hf.ow h.lt h.own hT, Nat.lt_of_lt_of_le h.lt hf.size, fun j hj => (hf.cell (p := ⟨G, j, none⟩) h.lt h.own hT).trans (h.cells j hj), fun j hj => (hf.frozen (p := ⟨G, j, none⟩) h.lt h.own hT).trans (h.fz j hj)⟩

theorem fr_set (w : World) (ow : Nat → Nat) (p : Addr) (v : Value) {c : Nat} (hc : ow p.block = c) : Fr (fun i => i = c) w ow (w.setCell p v) ow :=
  ⟨rfl, rfl, rfl, by simp [World.setCell], fun k _ hn => ⟨rfl, Below.heap_setCell _ _ _ _ (fun e => hn (by show ow k = c; rw [e]; exact hc))⟩⟩

/-- so many marks' cells; a list whose first k are marks. -/
def mkT (s : ByteArray) (n : Nat) : List Value := List.replicate n (.string s)
def fillT (s : ByteArray) (k : Nat) (l : List ByteArray) : List Value := mkT s k ++ nms (l.drop k)

theorem mkT_length (s : ByteArray) (n : Nat) : (mkT s n).length = n := by simp [mkT]
theorem mkT_succ (s : ByteArray) (n : Nat) : mkT s (n + 1) = mkT s n ++ [.string s] := by unfold mkT; rw [List.replicate_succ']
theorem mkT_get {s : ByteArray} {n j : Nat} (h : j < n) : (mkT s n)[j]? = some (.string s) := by simp [mkT, h]

theorem fillT_zero (s : ByteArray) (l : List ByteArray) : fillT s 0 l = nms l := by simp [fillT, mkT]
theorem fillT_all (s : ByteArray) (l : List ByteArray) : fillT s l.length l = mkT s l.length := by simp [fillT, nms]
theorem fillT_step (s : ByteArray) (k : Nat) (l : List ByteArray) (h : k < l.length) : (fillT s k l).set k (.string s) = fillT s (k + 1) l := by
  unfold fillT
  have hl := mkT_length s k
  rw [List.set_append_right _ _ (by omega), hl, Nat.sub_self, List.drop_eq_getElem_cons h, mkT_succ]
  simp only [nms, List.map_cons, List.set_cons_zero, List.append_assoc, List.singleton_append]

/-- a list that is full of one mark. -/
def FullT (w : World) (ow : Nat → Nat) (s : ByteArray) (u : Value) : Prop :=
  ∃ a m c, u = .slice a m c ∧ m ≤ 8388608 ∧ (m = 0 ∨ ∃ g, a = some ⟨g, 0, none⟩ ∧ g < w.heap.size ∧ ow g = 4 ∧ ∀ j, j < m → w.cell? ⟨g, j, none⟩ = some (.string s))

theorem FullT.frame {T : Nat → Prop} {w w' : World} {ow ow' : Nat → Nat} {s : ByteArray} {u : Value} (h : FullT w ow s u) (hf : Fr T w ow w' ow') (hT : ¬ T 4) : FullT w' ow' s u := by
  obtain ⟨a, m, c, rfl, hm, h⟩ := h
  refine ⟨a, m, c, rfl, hm, ?_⟩
  rcases h with h | ⟨g, rfl, hg, ho, hc⟩
  · exact .inl h
  · exact .inr ⟨g, rfl, Nat.lt_of_lt_of_le hg hf.size, hf.ow hg ho hT, fun j hj => (hf.cell (p := ⟨g, j, none⟩) hg ho hT).trans (hc j hj)⟩

theorem fullT_of {w : World} {ow : Nat → Nat} {s : ByteArray} {v : Value} {m : Nat} {e : TypeId} (h : RowC w ow e 1 v m (mkT s m) 4) (hm : m ≤ 8388608) : FullT w ow s v := by
  have hlt := h.row.lt
  have hcs := fun g hg => h.row.cells (g := g) hg
  have hcode := h.code
  rcases h.row.2 with ⟨rfl, rfl⟩ | ⟨g, cap, cur, rfl, _⟩
  · exact ⟨none, 0, 0, rfl, hm, .inl rfl⟩
  · refine ⟨_, m, cap, rfl, hm, .inr ⟨g, rfl, (hlt g rfl).2, hcode g rfl, fun j hj => ?_⟩⟩
    have := hcs g rfl j _ (mkT_get hj)
    rwa [add_head] at this

/-- THE BOOKS. -/
structure BooksI (w : World) (ow : Nat → Nat) (G n came : Nat) (cs : Nat → Value) (ts : List (Nat × Value)) : Prop where
  blk : GBlk w ow G cs
  c1 : cs 1 = .int .i64 (n : Int)
  c2 : cs 2 = .int .i64 (came : Int)
  c3 : cs 3 = .bool false
  nils : cs 4 = .slice none 0 0 ∧ cs 5 = .slice none 0 0 ∧ cs 8 = .slice none 0 0 ∧ cs 9 = .slice none 0 0 ∧ cs 10 = .slice none 0 0 ∧ cs 11 = .slice none 0 0 ∧ cs 14 = .slice none 0 0 ∧ cs 15 = .slice none 0 0
  trow : RowC w ow 28 1 (cs 12) ts.length (ts.map Prod.snd) 7
  nrow : RowC w ow 3 1 (cs 13) ts.length (ints (ts.map fun x => (x.1 : Int))) 8
  full : ∀ x ∈ ts, FullT w ow (markS x.1) x.2

theorem BooksI.frame {T : Nat → Prop} {w w' : World} {ow ow' : Nat → Nat} {G n came : Nat} {cs : Nat → Value} {ts : List (Nat × Value)} (h : BooksI w ow G n came cs ts) (hf : Fr T w ow w' ow') (hT : ∀ c, c = 1 ∨ c = 4 ∨ c = 7 ∨ c = 8 → ¬ T c) : BooksI w' ow' G n came cs ts :=
  ⟨h.blk.frame hf (hT 1 (.inl rfl)), h.c1, h.c2, h.c3, h.nils, h.trow.frame hf (hT 7 (.inr (.inr (.inl rfl)))), h.nrow.frame hf (hT 8 (.inr (.inr (.inr rfl)))), fun x hx => (h.full x hx).frame hf (hT 4 (.inr (.inl rfl)))⟩

theorem grow_row {w wa w5 : World} {ow : Nat → Nat} {e : TypeId} {size : Nat} {v v5 : Value} {n m : Nat} {xs ys : List Value} {c : Nat} (h : RowC w ow e size v n xs c) (hb : Below w.heap.size w wa) (h5 : w5.ownsRow 0 e size v5 m ys) (hg : wa.grownBy w5 v.ownBlock) (hp : Placed wa v v5) :
    ∃ ow5, RowC w5 ow5 e size v5 m ys c ∧ Fr (fun i => i = c) w ow w5 ow5 := by
  have f1 := Fr.ofBelow ow hb (fun i => i = c) c
  have ha : RowC wa (ext w ow c) e size v n xs c := by
    have h0 := h.frame (Fr.ofBelow ow hb (fun _ => False) c) (fun x => x)
    exact h0
  obtain ⟨h1, f2⟩ := RowC.grown ha h5 hg hp
  exact ⟨_, h1, f1.trans f2 (fun _ x => x)⟩

theorem slice_one (a : Option Addr) (n c : Nat) : ∀ u ∈ [Value.slice a n c], u.oneCell' = true := by
  intro u hu; simp at hu; rcases hu with rfl; rfl
theorem int_one (n : Int) : ∀ u ∈ [Value.int .i64 n], u.oneCell' = true := by
  intro u hu; simp at hu; rcases hu with rfl; rfl
theorem str_one (s : ByteArray) : ∀ u ∈ [Value.string s], u.oneCell' = true := by
  intro u hu; simp at hu; rcases hu with rfl; rfl

/-- a list full of marks stays so where the row that it lies in, or another, is made longer. -/
theorem FullT.append {w wa w5 : World} {ow ow5 : Nat → Nat} {s s2 : ByteArray} {u v v5 : Value} {e : TypeId} {n : Nat} (h : FullT w ow s u) (hv : RowC w ow e 1 v n (mkT s2 n) 4) (hb : Below w.heap.size w wa) (hg : wa.grownBy w5 v.ownBlock) (h5 : w5.ownsRow 0 e 1 v5 (n + 1) (mkT s2 (n + 1))) (hp : Laid wa w5 v v5)
    (hf : Fr (fun i => i = 4) w ow w5 ow5) (h4 : ∀ k, k < w.heap.size → ow5 k = ow k) (hu : ∀ g a m c, u = .slice a m c → a = some ⟨g, 0, none⟩ → v.ownBlock = some g → m ≠ 0 → s = s2 ∧ m ≤ n) : FullT w5 ow5 s u := by
  obtain ⟨a, m, c, rfl, hm, h⟩ := h
  refine ⟨a, m, c, rfl, hm, ?_⟩
  rcases h with h | ⟨g, rfl, hlt, ho, hc⟩
  · exact .inl h
  · by_cases hm0 : m = 0
    · exact .inl hm0
    · have hltw : g < wa.heap.size := Nat.lt_of_lt_of_le hlt hb.size
      refine .inr ⟨g, rfl, Nat.lt_of_lt_of_le hlt hf.size, (h4 g hlt).trans ho, fun j hj => ?_⟩
      have hca : wa.cell? ⟨g, j, none⟩ = some (.string s) := (hb.cell (p := ⟨g, j, none⟩) hlt).trans (hc j hj)
      by_cases hgv : some g = v.ownBlock
      · obtain ⟨rfl, hmn⟩ := hu g _ m c rfl rfl hgv.symm hm0
        rcases hp with hl | ⟨_, hl⟩
        · have := h5.cells (g := g) (by rw [hl, ← hgv]) j _ (mkT_get (by omega))
          rwa [add_head] at this
        · exact (World.cell?_of_block (a := ⟨g, j, none⟩) (hl g hltw)).trans hca
      · exact (World.cell?_of_block (a := ⟨g, j, none⟩) (hg.block g hltw hgv)).trans hca

/-- two lists in one block are full of the same mark, the one no longer than n. -/
def Near (u v : Value) (s s2 : ByteArray) (n : Nat) : Prop := ∀ g a m c, u = .slice a m c → a = some ⟨g, 0, none⟩ → v.ownBlock = some g → m ≠ 0 → s = s2 ∧ m ≤ n

theorem Near.append {w wa w5 : World} {ow : Nat → Nat} {u v v5 : Value} {s s2 : ByteArray} {n : Nat} (h : Near u v s s2 n) (hu : FullT w ow s u) (hb : Below w.heap.size w wa) (hp : Laid wa w5 v v5) : Near u v5 s s2 (n + 1) := by
  intro g a m c e1 e2 e3 e4
  rcases hp with hp | ⟨⟨k, hk, hl⟩, _⟩
  · obtain ⟨h1, h2⟩ := h g a m c e1 e2 (by rw [← hp]; exact e3) e4
    exact ⟨h1, by omega⟩
  · obtain ⟨a', m', c', e, _, hf⟩ := hu
    rw [e1] at e
    cases e
    rw [e2] at hf
    rcases hf with hf | ⟨g', e', hlt, _⟩
    · exact absurd hf e4
    · cases e'
      rw [e3] at hk
      cases hk
      have := hb.size
      omega

theorem placed_of_laid {wa w5 : World} {v v5 : Value} (h : Laid wa w5 v v5) : Placed wa v v5 := h.imp id (fun x => x.1)

/-- THE BOOKS WHILE A LIST IS MARKED: N its mark's number; lv the list, as long as it is by now (m). -/
structure Marking (w : World) (ow : Nat → Nat) (G : Nat) (cs0 cs : Nat → Value) (us : List Value) (ns : List Int) (ts : List (Nat × Value)) (N : Nat) (lv : Value) (m : Nat) : Prop where
  blk : GBlk w ow G cs
  same : ∀ i, i ≠ 12 → i ≠ 13 → cs i = cs0 i
  trow : RowC w ow 28 1 (cs 12) us.length us 7
  nrow : RowC w ow 3 1 (cs 13) ns.length (ints ns) 8
  full : ∀ x ∈ ts, FullT w ow (markS x.1) x.2
  near : ∀ x ∈ ts, Near x.2 lv (markS x.1) (markS N) m
  list : RowC w ow 9 1 lv m (mkT (markS N) m) 4
  le : m ≤ 8388608

theorem Marking.frame {T : Nat → Prop} {w w' : World} {ow ow' : Nat → Nat} {G m N : Nat} {cs0 cs : Nat → Value} {us : List Value} {ns : List Int} {ts : List (Nat × Value)} {lv : Value} (h : Marking w ow G cs0 cs us ns ts N lv m) (hf : Fr T w ow w' ow') (hT : ∀ c, c = 1 ∨ c = 4 ∨ c = 7 ∨ c = 8 → ¬ T c) : Marking w' ow' G cs0 cs us ns ts N lv m :=
  ⟨h.blk.frame hf (hT 1 (.inl rfl)), h.same, h.trow.frame hf (hT 7 (.inr (.inr (.inl rfl)))), h.nrow.frame hf (hT 8 (.inr (.inr (.inr rfl)))), fun x hx => (h.full x hx).frame hf (hT 4 (.inr (.inl rfl))), h.near, h.list.frame hf (hT 4 (.inr (.inl rfl))), h.le⟩

theorem Marking.drew {w : World} {ow : Nat → Nat} {G m N : Nat} {cs0 cs : Nat → Value} {us : List Value} {ns : List Int} {ts : List (Nat × Value)} {lv : Value} (h : Marking w ow G cs0 cs us ns ts N lv m) : Marking w.drew ow G cs0 cs us ns ts N lv m :=
  h.frame (T := fun _ => False) ⟨rfl, rfl, rfl, Nat.le_refl _, fun _ _ _ => ⟨rfl, rfl⟩⟩ (fun _ _ x => x)

theorem Fr.drew {T : Nat → Prop} {w w' : World} {ow ow' : Nat → Nat} (h : Fr T w ow w' ow') : Fr T w ow w'.drew ow' := ⟨h.os, h.tape, h.output, h.size, h.keep⟩

/-- the row of lists has grown by one, and is written back. -/
theorem Marking.t {w wa w5 : World} {ow : Nat → Nat} {G m N : Nat} {cs0 cs : Nat → Value} {us : List Value} {ns : List Int} {ts : List (Nat × Value)} {lv v5 x : Value} (h : Marking w ow G cs0 cs us ns ts N lv m) (hb : Below w.heap.size w wa)
    (h5 : w5.ownsRow 0 28 1 v5 (us.length + 1) (us ++ [x])) (hg : wa.grownBy w5 (cs 12).ownBlock) (hp : Laid wa w5 (cs 12) v5) :
    ∃ ow5, GBlk w5 ow5 G cs ∧ Marking (w5.setCell ⟨G, 12, none⟩ v5) ow5 G cs0 (upd cs 12 v5) (us ++ [x]) ns ts N lv m ∧ Fr (fun c => c = 1 ∨ c = 7) w ow (w5.setCell ⟨G, 12, none⟩ v5) ow5 := by
  obtain ⟨ow5, r5, f5⟩ := grow_row h.trow hb h5 hg (placed_of_laid hp)
  have g5 := h.blk.frame f5 (by decide)
  have f6 := fr_set w5 ow5 ⟨G, 12, none⟩ v5 (c := 1) g5.own
  refine ⟨ow5, g5, ⟨g5.set (by omega) v5, fun i h1 h2 => by rw [upd_other _ _ h1]; exact h.same i h1 h2, ?_, ?_, fun y hy => ((h.full y hy).frame f5 (by decide)).frame f6 (by decide), h.near, (h.list.frame f5 (by decide)).frame f6 (by decide), h.le⟩, (f5.mono (fun _ x => .inr x)).trans f6 (fun _ x => .inl x)⟩
  · rw [upd_same, List.length_append]; exact r5.frame f6 (by decide)
  · rw [upd_other _ _ (by omega)]; exact (h.nrow.frame f5 (by decide)).frame f6 (by decide)

theorem ints_app (a : List Int) (x : Int) : ints (a ++ [x]) = ints a ++ [.int .i64 x] := by simp [ints]

/-- the row of numbers has grown by one, and is written back. -/
theorem Marking.n {w wa w5 : World} {ow : Nat → Nat} {G m N : Nat} {cs0 cs : Nat → Value} {us : List Value} {ns : List Int} {ts : List (Nat × Value)} {lv v5 : Value} {x : Int} (h : Marking w ow G cs0 cs us ns ts N lv m) (hb : Below w.heap.size w wa)
    (h5 : w5.ownsRow 0 3 1 v5 (ns.length + 1) (ints ns ++ [.int .i64 x])) (hg : wa.grownBy w5 (cs 13).ownBlock) (hp : Laid wa w5 (cs 13) v5) :
    ∃ ow5, GBlk w5 ow5 G cs ∧ Marking (w5.setCell ⟨G, 13, none⟩ v5) ow5 G cs0 (upd cs 13 v5) us (ns ++ [x]) ts N lv m ∧ Fr (fun c => c = 1 ∨ c = 8) w ow (w5.setCell ⟨G, 13, none⟩ v5) ow5 := by
  obtain ⟨ow5, r5, f5⟩ := grow_row h.nrow hb h5 hg (placed_of_laid hp)
  have g5 := h.blk.frame f5 (by decide)
  have f6 := fr_set w5 ow5 ⟨G, 13, none⟩ v5 (c := 1) g5.own
  refine ⟨ow5, g5, ⟨g5.set (by omega) v5, fun i h1 h2 => by rw [upd_other _ _ h2]; exact h.same i h1 h2, ?_, ?_, fun y hy => ((h.full y hy).frame f5 (by decide)).frame f6 (by decide), h.near, (h.list.frame f5 (by decide)).frame f6 (by decide), h.le⟩, (f5.mono (fun _ x => .inr x)).trans f6 (fun _ x => .inl x)⟩
  · rw [upd_other _ _ (by omega)]; exact (h.trow.frame f5 (by decide)).frame f6 (by decide)
  · rw [upd_same, List.length_append, ints_app]; exact r5.frame f6 (by decide)

/-- the list itself is longer by one mark. -/
theorem Marking.l {w wa w5 : World} {ow : Nat → Nat} {G m N : Nat} {cs0 cs : Nat → Value} {us : List Value} {ns : List Int} {ts : List (Nat × Value)} {lv v5 : Value} (h : Marking w ow G cs0 cs us ns ts N lv m) (hm : m + 1 ≤ 8388608) (hb : Below w.heap.size w wa)
    (h5 : w5.ownsRow 0 9 1 v5 (m + 1) (mkT (markS N) (m + 1))) (hg : wa.grownBy w5 lv.ownBlock) (hp : Laid wa w5 lv v5) :
    ∃ ow5, Marking w5 ow5 G cs0 cs us ns (ts ++ [(N, lv)]) N v5 (m + 1) ∧ Fr (fun c => c = 4) w ow w5 ow5 := by
  have f1 := Fr.ofBelow ow hb (fun i => i = 4) 4
  have ha : RowC wa (ext w ow 4) 9 1 lv m (mkT (markS N) m) 4 := h.list.frame (Fr.ofBelow ow hb (fun _ => False) 4) (fun x => x)
  obtain ⟨r5, f2⟩ := RowC.grown ha h5 hg (placed_of_laid hp)
  have f := f1.trans f2 (fun _ x => x)
  have h4 : ∀ k, k < w.heap.size → ext wa (ext w ow 4) 4 k = ow k := fun k hk => by
    unfold ext; rw [if_pos (Nat.lt_of_lt_of_le hk hb.size), if_pos hk]
  have hself : FullT w ow (markS N) lv := fullT_of h.list h.le
  refine ⟨_, ⟨h.blk.frame f (by decide), h.same, h.trow.frame f (by decide), h.nrow.frame f (by decide), fun y hy => ?_, fun y hy => ?_, r5, hm⟩, f⟩
  · rcases List.mem_append.1 hy with hy | hy
    · exact (h.full y hy).append h.list hb hg h5 hp f h4 (h.near y hy)
    · rw [List.mem_singleton] at hy
      subst hy
      exact hself.append h.list hb hg h5 hp f h4 (fun g a m' c e1 _ _ _ => by
        obtain ⟨a', c', e⟩ := slice_owned h.list.row
        rw [e] at e1; cases e1; exact ⟨rfl, Nat.le_refl _⟩)
  · rcases List.mem_append.1 hy with hy | hy
    · exact (h.near y hy).append (h.full y hy) hb hp
    · rw [List.mem_singleton] at hy
      subst hy
      exact Near.append (w := w) (ow := ow) (fun g a m' c e1 _ _ _ => by
        obtain ⟨a', c', e⟩ := slice_owned h.list.row
        rw [e] at e1; cases e1; exact ⟨rfl, Nat.le_refl _⟩) hself hb hp

theorem step_append_laid {P : Program} {ops : Array Oper} {o : Oper} {a : Act} {w : World} {K : Act → World → Prop} {Q : Exit → Act → World → Prop} {E : Prop}
    (hg : o.guard = none) (s x : Operand) (t : TypeId) (hop : o.op = Op.call { callee := Callee.builtin Builtin.append, args := #[s, x], argTypes := #[t, t] })
    (base : Nat) (e : TypeId) (i : TypeInfo) (z : Value) (size bytes : Nat) (ht : P.underlying t = some (.slice e)) (hi : P.info? e = some i) (hz : i.zero = some z)
    (hsize : i.size = size) (hby : i.bytes = bytes) (hzs : z.cells.size = size) (hsz : 0 < size)
    (v : Value) (n : Nat) (xs : List Value) (hs : a.eval s = v) (hown : w.ownsRow base e size v n xs)
    (ad : Addr) (m c : Nat) (news : List Value) (hx : a.eval x = .slice (some ad) m c) (hl : news.length = m * size) (hnews : ∀ j u, news[j]? = some u → w.cell? (ad.add j) = some u) (h1 : ∀ u ∈ news, u.oneCell' = true)
    (h63 : n + m ≤ maxLen) (hbytes : (n + m) * bytes ≤ 140737488355328) (hbase : base ≤ w.heap.size)
    (hK : ∀ v' w', w'.ownsRow base e size v' (n + m) (xs ++ news) → w.grownBy w' v.ownBlock → Laid w w' v v' → K (a.put o.dst v') w') :
    if Region.wanted o (yielded ops a.tmps) = true then Oper.wp P o a w K Q else E := by
  have hw : Region.wanted o (yielded ops a.tmps) = true := by simp [Region.wanted, hg]
  rw [if_pos hw]
  obtain ⟨v', w', hr, h2, h3, h4⟩ := run_append_laid (P := P) w base t o.type e i z size bytes ht hi hz hsize hby hzs hsz v n xs hown ad m c news hl hnews h1 h63 hbytes hbase
  unfold Oper.wp
  simp [execOp, hop, resolve, invoke, builtin, hs, hx, hr, Result.andThen]
  exact hK v' w' h2 h3 h4

theorem marking_start {w w2 wc : World} {ow ow2 : Nat → Nat} {G n came N : Nat} {cs cs0 : Nat → Value} {ts : List (Nat × Value)} {lv : Value} {l : List ByteArray} (hB : BooksI w ow G n came cs ts) (hR : RowC w2 ow2 9 1 lv l.length (nms l) 5) (hF : Fr (fun i => i = 1) w ow w2 ow2) (hG : GBlk w2 ow2 G cs0)
    (r3 : wc.ownsRow 0 9 1 lv l.length (mkT (markS N) l.length)) (t3 : Tch (fun j => lv.ownBlock = some j) w2 wc) (h12 : cs0 12 = cs 12) (h13 : cs0 13 = cs 13) (hl : l.length ≤ 4194304) :
    ∃ ow3, Marking wc ow3 G cs0 cs0 (ts.map Prod.snd) (ts.map fun x => (x.1 : Int)) ts N lv l.length ∧ Fr (fun c => c = 1 ∨ c = 4 ∨ c = 5 ∨ c = 7 ∨ c = 8) w ow wc ow3 := by
  have f3 : Fr (fun c => c = 5) w2 ow2 wc (ext w2 ow2 5) := Fr.ofTch t3 (fun k _ hk => hR.code k hk) 5
  have f4 : Fr (fun c => c = 5) wc (ext w2 ow2 5) wc (recode (ext w2 ow2 5) 5 4) := Fr.recode _ _ _ 5 4 rfl
  have r4 : RowC wc (ext w2 ow2 5) 9 1 lv l.length (mkT (markS N) l.length) 5 := ⟨r3, fun k hk => by unfold ext; rw [if_pos (hR.row.lt k hk).2]; exact hR.code k hk⟩
  have f34 := f3.trans f4 (fun _ x => x)
  refine ⟨_, ⟨hG.frame f34 (by decide), fun _ _ _ => rfl, ?_, ?_, fun x hx => ((hB.full x hx).frame hF (by decide)).frame f34 (by decide), fun x hx => ?_, r4.recode 4, by omega⟩, (hF.mono (fun _ x => .inl x)).trans (f34.mono (fun _ x => .inr (.inr (.inl x)))) (fun _ x => x)⟩
  · rw [h12, List.length_map]; exact (hB.trow.frame hF (by decide)).frame f34 (by decide)
  · rw [h13, List.length_map]; exact (hB.nrow.frame hF (by decide)).frame f34 (by decide)
  · intro g a m c e1 e2 e3 e4
    obtain ⟨a', m', c', e, _, hf⟩ := (hB.full x hx).frame hF (by decide)
    rw [e1] at e
    cases e
    rw [e2] at hf
    rcases hf with hf | ⟨g', e', _, ho, _⟩
    · exact absurd hf e4
    · cases e'
      have := hR.code g e3
      omega

theorem marking_end {w : World} {ow : Nat → Nat} {G n came N m : Nat} {cs cs0 cs1 : Nat → Value} {ts us : List (Nat × Value)} {lv : Value} (h : Marking w ow G cs0 cs1 ((ts ++ us).map Prod.snd) ((ts ++ us).map fun x => (x.1 : Int)) (ts ++ us) N lv m) (h0 : cs0 = upd cs 1 (.int .i64 (N : Int)))
    (c2 : cs 2 = .int .i64 (came : Int)) (c3 : cs 3 = .bool false)
    (nils : cs 4 = .slice none 0 0 ∧ cs 5 = .slice none 0 0 ∧ cs 8 = .slice none 0 0 ∧ cs 9 = .slice none 0 0 ∧ cs 10 = .slice none 0 0 ∧ cs 11 = .slice none 0 0 ∧ cs 14 = .slice none 0 0 ∧ cs 15 = .slice none 0 0) (_ : n = n) :
    BooksI w ow G N came cs1 (ts ++ us) ∧ cs1 0 = cs 0 ∧ cs1 6 = cs 6 ∧ cs1 7 = cs 7 := by
  have hs : ∀ i, i ≠ 12 → i ≠ 13 → i ≠ 1 → cs1 i = cs i := fun i h1 h2 h3 => by rw [h.same i h1 h2, h0, upd_other _ _ h3]
  obtain ⟨n4, n5, n8, n9, n10, n11, n14, n15⟩ := nils
  refine ⟨⟨h.blk, ?_, ?_, ?_, ⟨?_, ?_, ?_, ?_, ?_, ?_, ?_, ?_⟩, ?_, ?_, h.full⟩, hs 0 (by omega) (by omega) (by omega), hs 6 (by omega) (by omega) (by omega), hs 7 (by omega) (by omega) (by omega)⟩
  · rw [h.same 1 (by omega) (by omega), h0, upd_same]
  · rw [hs 2 (by omega) (by omega) (by omega), c2]
  · rw [hs 3 (by omega) (by omega) (by omega), c3]
  · rw [hs 4 (by omega) (by omega) (by omega), n4]
  · rw [hs 5 (by omega) (by omega) (by omega), n5]
  · rw [hs 8 (by omega) (by omega) (by omega), n8]
  · rw [hs 9 (by omega) (by omega) (by omega), n9]
  · rw [hs 10 (by omega) (by omega) (by omega), n10]
  · rw [hs 11 (by omega) (by omega) (by omega), n11]
  · rw [hs 14 (by omega) (by omega) (by omega), n14]
  · rw [hs 15 (by omega) (by omega) (by omega), n15]
  · have := h.trow; rwa [List.length_map] at this
  · have := h.nrow; rwa [List.length_map] at this

end Rl
open Rl

theorem info_rowT : (Tryz.prog.info? 28).map (fun i => (i.zero, i.size, i.bytes)) = some (some (.slice none 0 0), 1, 24) := by kernel_rfl
theorem info_int : (Tryz.prog.info? 3).map (fun i => (i.zero, i.size, i.bytes)) = some (some (.int .i64 0), 1, 8) := by kernel_rfl
theorem info_strT : (Tryz.prog.info? 9).map (fun i => (i.zero, i.size, i.bytes)) = some (some (.string ⟨#[]⟩), 1, 16) := by kernel_rfl

set_option maxRecDepth 20000 in
set_option maxHeartbeats 4000000 in
theorem markT_any (w : World) (ow : Nat → Nat) (G n came : Nat) (cs : Nat → Value) (ts : List (Nat × Value)) (lv : Value) (l : List ByteArray) (h : BooksI w ow G n came cs ts) (hl : RowC w ow 9 1 lv l.length (nms l) 5)
    (hn : n ≤ 4194304) (hll : l.length ≤ 4194304) (hts : ts.length ≤ 33554432) :
    Calls Tryz.prog 57 #[.pointer (some ⟨G, 1, none⟩), lv] w fun e w' => e = .returned (.tuple #[]) ∧
      ∃ ow' cs' us, BooksI w' ow' G (n + 1) came cs' (ts ++ us) ∧ us.length = 4 ∧ cs' 0 = cs 0 ∧ cs' 6 = cs 6 ∧ cs' 7 = cs 7 ∧ Fr (fun c => c = 1 ∨ c = 4 ∨ c = 5 ∨ c = 7 ∨ c = 8) w ow w' ow' := by
  obtain ⟨av, cv, rfl⟩ := slice_owned hl.row
  obtain ⟨N, hN⟩ : ∃ N, N = n + 1 := ⟨_, rfl⟩
  rw [← hN]
  have HB := hide h
  have HR := hide hl
  have cell1 := h.blk.cells 1 (by omega)
  rw [h.c1] at cell1
  have fz1 := h.blk.fz 1 (by omega)
  have HM := hide (fun wx => mark_any N wx)
  have HG1 := hide (h.blk.set (j := 1) (by omega) (.int .i64 (N : Int)))
  have HF1 := hide (fr_set w ow ⟨G, 1, none⟩ (.int .i64 (N : Int)) (c := 1) h.blk.own)
  have hw : IntKind.i64.wrap ((n : Int) + 1) = (N : Int) := by rw [IntKind.wrap_i64]; omega
  have hplus : (n : Int) + 1 = (N : Int) := by omega
  have HS : Hid (markS N = markS N) := rfl
  clear h hl hN
  generalize hs : markS N = s at *
  have HSS := hide hs
  clear hs HS
  go_enter Tryz.func57, Tryz.ntmps57
  go_upto_block 0 with (go_at_call 26; refine (HM.out _).mono ?_; rintro e w2 ⟨rfl, hb2⟩)
  obtain ⟨ow2, F2, G2⟩ : ∃ ow2, Fr (fun i => i = 1) w ow w2 ow2 ∧ GBlk w2 ow2 G (upd cs 1 (.int .i64 (N : Int))) := by
    have f := Fr.ofBelow ow hb2 (fun _ => False) 0
    exact ⟨_, HF1.out.trans (f.mono (fun _ x => x.elim)) (fun _ x => x), HG1.out.frame f (fun x => x)⟩
  have R2 := HR.out.frame F2 (by decide)
  have HF2 := hide F2
  have HG2 := hide G2
  have HR2 := hide R2
  have r2 := R2.row
  clear hb2 HG1 HF1 HM cell1 fz1 F2 G2 R2 hw hplus
  go_cut [5] (fun _ wx => wx.ownsRow 0 9 1 (.slice av l.length cv) l.length (mkT s l.length) ∧ Tch (fun j => (Value.slice av l.length cv).ownBlock = some j) w2 wx)
  case first =>
    go_wp2_with fail
    go_loopw [5] (fun i wr => ∃ k : Nat, k ≤ l.length ∧ i = .int .i64 k ∧ wr.ownsRow 0 9 1 (.slice av l.length cv) l.length (fillT s k l) ∧ Tch (fun j => (Value.slice av l.length cv).ownBlock = some j) w2 wr) (fun i _ => l.length - (intOf i).toNat)
    case atStart => exact ⟨0, Nat.zero_le _, rfl, by rw [fillT_zero]; exact r2, Tch.refl _ _⟩
    case round =>
      obtain ⟨k, hk, rfl, hr, hT⟩ := hrel
      by_cases hlt : k < l.length
      · rcases hr.2 with ⟨e, _⟩ | ⟨g, cap, cur, e, _⟩
        · injection e with _ e; omega
        · cases e
          have hlen : (fillT s k l).length = l.length := by have := hr.1; omega
          have t0 := hr.cellAt k (by omega)
          obtain ⟨x0, y0⟩ : ∃ x, wr.cell? ⟨g, k, none⟩ = some x := ⟨_, t0.trans (List.getElem?_eq_getElem (by omega))⟩
          have f0 := hr.frozenAt k
          have H := hide ((hr.stored k (.string s)).1)
          have HS := hide (fillT_step s k l hlt)
          have HTT := hide (hT.set (p := ⟨g, k, none⟩) (.string s) (.inl rfl))
          have hx : (k : Int) < (l.length : Int) := by omega
          clear t0 hr hT hlen r2
          go_wp2
          exact ⟨⟨k + 1, by omega, by go_num, by rw [← HS.out]; exact H.out, HTT.out⟩, by simp [intOf]; omega⟩
      · have e : k = l.length := by omega
        subst e
        rw [fillT_all] at hr
        go_wp2_with fail
        go_meet
        case rel => exact ⟨hr, hT⟩
  case rest =>
    obtain ⟨r3, t3⟩ := hcut
    obtain ⟨ow3, m3, f3⟩ := marking_start (N := N) HB.out HR2.out HF2.out HG2.out (by rw [HSS.out]; exact r3) t3 (upd_other _ _ (by omega)) (upd_other _ _ (by omega)) hll
    have HM3 := hide m3
    have HF3 := hide f3
    clear r3 t3 r2 m3 f3 HR2 HF2 HG2 HR
    have HC0 : Hid (∃ c, c = upd cs 1 (.int .i64 (N : Int))) := ⟨_, rfl⟩
    obtain ⟨cs0, hcs0⟩ := HC0
    rw [← hcs0] at HM3
    have HC := hide hcs0
    clear hcs0
    go_wp2_with fail
    go_loopw [1, 6] (fun lw kw wr => ∃ (j : Nat) (ow' : Nat → Nat) (cs' : Nat → Value) (us : List (Nat × Value)) (lv : Value), lv = lw ∧ j ≤ 4 ∧ kw = .int .i64 j ∧ us.length = j ∧ Marking wr ow' G cs0 cs' ((ts ++ us).map Prod.snd) ((ts ++ us).map fun x => (x.1 : Int)) (ts ++ us) N lv (l.length + j) ∧ Fr (fun c => c = 1 ∨ c = 4 ∨ c = 5 ∨ c = 7 ∨ c = 8) w ow wr ow') (fun _ kw _ => 4 - (intOf kw).toNat)
    case atStart => exact ⟨0, ow3, cs0, [], _, rfl, by omega, rfl, rfl, by rw [List.append_nil]; exact HM3.out, HF3.out⟩
    case round =>
      obtain ⟨j, ow', cs', us, lv, rfl, hj, rfl, hus, hm, hf⟩ := hrel
      have HF := hide hf
      have HMK := hide hm
      by_cases hlt : j < 4
      · obtain ⟨i0, hi, hz0, hz1, hz2⟩ := info_parts info_rowT
        obtain ⟨TS, hTS⟩ : ∃ TS, TS = ts ++ us := ⟨_, rfl⟩
        obtain ⟨US, hUS⟩ : ∃ US, US = TS.map Prod.snd := ⟨_, rfl⟩
        obtain ⟨NS, hNS⟩ : ∃ NS, NS = TS.map fun x => (x.1 : Int) := ⟨_, rfl⟩
        obtain ⟨mm, hmm⟩ : ∃ mm, mm = l.length + j := ⟨_, rfl⟩
        have hm2 : Marking wr ow' G cs0 cs' US NS TS N lv mm := by rw [hUS, hNS, hTS, hmm]; exact hm
        have hul : US.length ≤ 33554436 := by rw [hUS, hTS, List.length_map, List.length_append]; omega
        have hnl : NS.length ≤ 33554436 := by rw [hNS, hTS, List.length_map, List.length_append]; omega
        have hml : mm ≤ 4194308 := by omega
        have HTS := hide hTS
        have HUS := hide hUS
        have HNS := hide hNS
        have HMM := hide hmm
        have HUL := hide hus
        clear hTS hUS hNS hmm HMK hm hus
        obtain ⟨la, lc, rfl⟩ := slice_owned hm2.list.row
        obtain ⟨ta, tc, et⟩ := slice_owned hm2.trow.row
        have c12 := hm2.blk.cells 12 (by omega)
        have hx : (j : Int) < 4 := by omega
        have trow := hm2.trow.row
        rw [et] at c12 trow
        have HM2 := hide hm2
        have HET := hide et
        have hGl := hm2.blk.lt
        clear hm2 hf HB HM3 et
        go_upto_region 10 with (at_builtin; refine wpList_append_laid _ rfl _ _ 32 rfl 0 28 i0 (.slice none 0 0) 1 24 Tryz.underlying32 hi hz0 hz1 hz2 rfl (by decide) _ _ _ rfl (trow.alloc _) ⟨wr.heap.size, 0, none⟩ 1 1 [.slice la mm lc] rfl rfl (cells_new _ _ _) (slice_one _ _ _) (by unfold maxLen; omega) (by omega) (Nat.zero_le _) ?_; intro v5 w5 hown5 hgrow5 hlaid5; obtain ⟨a5, c5, rfl⟩ := slice_owned hown5; obtain ⟨ow5, g5, m5, f5⟩ := HM2.out.t ((Below.refl _ _).alloc (Nat.le_refl _) _) hown5 (by rw [HET.out]; exact hgrow5) (by rw [HET.out]; exact hlaid5); have y12 := g5.cells 12 (by omega); have z12 := g5.fz 12 (by omega))
        have M6 := hide m5
        have F6 := hide f5
        have e1 := m5.same 1 (by omega) (by omega)
        rw [HC.out, upd_same] at e1
        have c1 := m5.blk.cells 1 (by omega)
        rw [e1] at c1
        have hG6 := m5.blk.lt
        obtain ⟨na, nc, en⟩ := slice_owned m5.nrow.row
        have c13 := m5.blk.cells 13 (by omega)
        have nrow := m5.nrow.row
        rw [en] at c13 nrow
        have HEN := hide en
        obtain ⟨j0, hj, hk0, hk1, hk2⟩ := info_parts info_int
        clear hown5 hgrow5 hlaid5 g5 m5 f5 y12 z12 trow c12 HM2 HET e1 en hi hz0 hz1 hz2
        generalize w5.setCell ⟨G, 12, none⟩ (.slice a5 (US.length + 1) c5) = W6 at *
        generalize upd cs' 12 (.slice a5 (US.length + 1) c5) = cs6 at *
        go_region_law (refine step_append_laid rfl _ _ 31 rfl 0 3 j0 (.int .i64 0) 1 8 Tryz.underlying31 hj hk0 hk1 hk2 rfl (by decide) _ _ _ rfl (nrow.alloc _) ⟨W6.heap.size, 0, none⟩ 1 1 [.int .i64 (N : Int)] rfl rfl (cells_new _ _ _) (int_one _) (by unfold maxLen; omega) (by omega) (Nat.zero_le _) ?_; intro v7 w7 hown7 hgrow7 hlaid7; obtain ⟨a7, c7, rfl⟩ := slice_owned hown7; obtain ⟨ow7, g7, m7, f7⟩ := M6.out.n ((Below.refl _ _).alloc (Nat.le_refl _) (.cells #[.int .i64 (N : Int)] 3)).drew hown7 (by rw [HEN.out]; exact hgrow7) (by rw [HEN.out]; exact hlaid7); have y13 := g7.cells 13 (by omega); have z13 := g7.fz 13 (by omega))
        all_goals
          have M8 := hide m7
          have F8 := hide f7
          have lrow := m7.list.row
          rw [HSS.out] at lrow
          obtain ⟨s0, hp, hp0, hp1, hp2⟩ := info_parts info_strT
          clear hown7 hgrow7 hlaid7 g7 m7 f7 y13 z13 nrow c13 c1 M6 HEN hj hk0 hk1 hk2
          generalize w7.setCell ⟨G, 13, none⟩ (.slice a7 (NS.length + 1) c7) = W8 at *
          generalize upd cs6 13 (.slice a7 (NS.length + 1) c7) = cs8 at *
          go_wp2_with (at_builtin; refine wpList_append_laid _ rfl _ _ 28 rfl 0 9 s0 (.string ⟨#[]⟩) 1 16 Tryz.underlying28 hp hp0 hp1 hp2 rfl (by decide) _ _ _ rfl (lrow.alloc _) ⟨W8.heap.size, 0, none⟩ 1 1 [.string s] rfl rfl (cells_new _ _ _) (str_one _) (by unfold maxLen; omega) (by omega) (Nat.zero_le _) ?_; intro v9 w9 hown9 hgrow9 hlaid9)
          obtain ⟨ow9, m9, f9⟩ := M8.out.l (by omega) ((Below.refl _ _).alloc (Nat.le_refl _) (.cells #[.string s] 9)) (by rw [mkT_succ, HSS.out]; exact hown9) hgrow9 hlaid9
          refine ⟨⟨j + 1, ow9, cs8, us ++ [(N, .slice la mm lc)], v9, rfl, by omega, by go_num, by rw [List.length_append, HUL.out]; rfl, ?_, ?_⟩, by simp [intOf]; omega⟩
          · rw [← List.append_assoc, ← HTS.out, List.map_append, List.map_append, ← HUS.out, ← HNS.out, ← Nat.add_assoc, ← HMM.out]; exact m9
          · refine ((HF.out.trans (F6.out.mono ?_) (fun _ x => x)).trans (F8.out.mono ?_) (fun _ x => x)).trans (f9.mono ?_) (fun _ x => x) <;> (intro i hi; omega)
      · have e : j = 4 := by omega
        subst e
        clear HM3
        go_wp2_with fail
        (try simp only [Exit.inBlock, Exit.then]); refine bodyPost_end (results_none rfl _ _ _) rfl ?_
        obtain ⟨hb, h0, h6, h7⟩ := marking_end (n := n) (came := came) HMK.out HC.out HB.out.c2 HB.out.c3 HB.out.nils rfl
        exact ⟨rfl, ow', cs', us, hb, hus, h0, h6, h7, HF.out⟩

end Go.Proofs.YthcnkbeognkjgaaGreatDoor
