/-
  A row of attributes, sorted where it lies: what the library's sort leaves, as the row that the caller owns. Nothing of the program is named here.
-/
import Derived.Test.YteoacdkgicfomaaAkSort
import Derived.Shelf.SlSortCmp.WholeK
import Derived.Laws.OwnMore
import Derived.Below
namespace Go.Proofs.Yteoacdkgicfomaa
open Go.RowKit Go.Sort
open Rl

instance : Inhabited At := ⟨⟨0, 0, ⟨#[]⟩⟩⟩

/-- an attribute's cells. -/
def encAt (a : At) : List Value := [.int .i64 (a.flags : Int), .int .i64 (a.kind : Int), .string a.val]

/-- the order of the types. -/
def cmpAt (a b : At) : Int := Lib.compareInt (a.kind : Int) (b.kind : Int)

theorem cmpAt_lt (a b : At) : ltOf cmpAt a b = decide (a.kind < b.kind) := by
  unfold ltOf cmpAt Lib.compareInt
  rw [Bool.eq_iff_iff]
  by_cases h1 : (a.kind : Int) < (b.kind : Int)
  · simp [h1]; omega
  · by_cases h2 : (b.kind : Int) < (a.kind : Int)
    · simp [h1, h2]; omega
    · simp [h1, h2]; omega

theorem cmpAt_swo : SWO (ltOf cmpAt) where
  irrefl x := by rw [cmpAt_lt]; simp
  trans x y z h1 h2 := by rw [cmpAt_lt] at *; simp at *; omega
  ntrans x y z h1 h2 := by rw [cmpAt_lt] at *; simp at *; omega

theorem flat_cells (d : Array At) : (flatK encAt 3 d).toList = atCells d.toList := by
  apply List.ext_getElem?
  intro t
  by_cases ht : t < d.size * 3
  · have hq : t / 3 < d.toList.length := by simp; omega
    obtain ⟨g1, g2, g3⟩ := atCells_get d.toList (t / 3) hq
    have e0 : (flatK encAt 3 d).toList[t]? = some (encAt d[t / 3]!)[t % 3]! := by
      have h := get_flatK encAt 3 d t ht
      have hs : t < (flatK encAt 3 d).size := by rw [size_flatK]; exact ht
      rw [getElem!_pos _ t hs] at h
      rw [← h]
      simp
    have hd : d[t / 3]! = d.toList[t / 3] := by
      rw [getElem!_pos d (t / 3) (by simpa using hq)]; rfl
    rw [e0, hd]
    have hr : t % 3 = 0 ∨ t % 3 = 1 ∨ t % 3 = 2 := by omega
    have hdm := Nat.div_add_mod t 3
    rcases hr with r | r | r
    · rw [show t / 3 * 3 = t from by omega] at g1; rw [g1, r]; rfl
    · rw [show t / 3 * 3 + 1 = t from by omega] at g2; rw [g2, r]; rfl
    · rw [show t / 3 * 3 + 2 = t from by omega] at g3; rw [g3, r]; rfl
  · rw [List.getElem?_eq_none (by simp; omega), List.getElem?_eq_none (by rw [atCells_length]; simp; omega)]

theorem flat_get (d : Array At) (j : Nat) (h : j < d.size * 3) : (atCells d.toList)[j]? = some (flatK encAt 3 d)[j]! := by
  have hs : j < (flatK encAt 3 d).size := by rw [size_flatK]; exact h
  rw [← flat_cells, getElem!_pos _ j hs]
  simp

theorem holds_of_owns {w : World} {B g n cap : Nat} {e : TypeId} {l : List At} (h : w.ownsRow B e 3 (.slice (some ⟨g, 0, none⟩) n cap) n (atCells l)) (hn : n = l.length) : HoldsK encAt 3 w g 0 l.toArray := by
  subst hn
  intro j hj
  have hj2 : j < l.length * 3 := by rw [size_flatK] at hj; simpa using hj
  refine ⟨?_, ?_⟩
  · rw [Nat.zero_add, h.cellAt j hj2, id]
    exact flat_get l.toArray j (by simpa using hj2)
  · rw [Nat.zero_add]; exact h.frozenAt j

theorem owns_sorted {w : World} {B g n cap : Nat} {e : TypeId} {l : List At} (h : w.ownsRow B e 3 (.slice (some ⟨g, 0, none⟩) n cap) n (atCells l)) (m : Nat) (d' : Array At) (os : Array Obj) (hd : d'.size = n) :
    (sortWorldK encAt 3 w g 0 m d' os).ownsRow B e 3 (.slice (some ⟨g, 0, none⟩) n cap) n (atCells d'.toList) := by
  rcases h.2 with ⟨e1, _⟩ | ⟨g', cap', cur, e1, hB, hg, hnc, hcm, hcs, ht⟩
  · simp at e1
  · simp only [Value.slice.injEq, Option.some.injEq, Addr.mk.injEq, and_true, true_and] at e1
    obtain ⟨rfl, rfl⟩ := e1
    have hlt : g < w.heap.size := (Array.getElem?_eq_some_iff.1 hg).1
    refine ⟨by rw [atCells_length]; simp [hd], .inr ⟨g, cap, putCells id 0 (flatK encAt 3 d') cur, rfl, hB, ?_, hnc, hcm, by simp [putCells, hcs], ?_⟩⟩
    · unfold sortWorldK putRowK putRow
      rw [heap_grow_old _ _ (by simpa [mapBlock, Sort.ahead] using hlt)]
      show (Array.modify w.heap g _)[g]? = _
      rw [Array.getElem?_modify, if_pos rfl, hg]
      rfl
    · apply List.ext_getElem?
      intro j
      by_cases hj : j < n * 3
      · rw [List.getElem?_take_of_lt hj, flat_get d' j (by omega)]
        have hjc : j < cur.size := by rw [hcs]; have := Nat.mul_le_mul_right 3 hnc; omega
        have hjf : j < (flatK encAt 3 d').size := by rw [size_flatK]; omega
        simp only [Array.getElem?_toList, putCells, Array.getElem?_mapIdx, Array.getElem?_eq_getElem hjc, Option.map_some, Nat.sub_zero, Nat.zero_add, id]
        rw [if_pos ⟨Nat.zero_le _, hjf⟩]
      · rw [List.getElem?_eq_none (by simp; omega), List.getElem?_eq_none (by rw [atCells_length]; simp; omega)]

theorem below_sorted {w : World} {B g : Nat} (hB : B ≤ g) (hg : g < w.heap.size) (m : Nat) (d' : Array At) (os : Array Obj) : Below B w (sortWorldK encAt 3 w g 0 m d' os) := by
  refine ⟨rfl, rfl, rfl, ?_, fun k hk => ?_⟩
  · unfold sortWorldK putRowK putRow
    simp [mapBlock, Sort.ahead]
  · unfold sortWorldK putRowK putRow
    rw [heap_grow_old _ _ (by simp [mapBlock, Sort.ahead]; omega)]
    show (Array.modify w.heap g _)[k]? = _
    rw [Array.getElem?_modify, if_neg (by omega)]

theorem sorted_ord (l : List At) (d' : Array At) (ho : (l.map (·.kind)).Nodup) (hp : PermIn 0 l.toArray.size l.toArray d') (hs : SortedIn (ltOf cmpAt) 0 l.toArray.size d') : d'.toList.Perm l ∧ ByKind d'.toList := by
  obtain ⟨h1, _, h3⟩ := hp
  have e1 : l.toArray.extract 0 l.toArray.size = l.toArray := by simp
  have e2 : d'.extract 0 l.toArray.size = d' := by rw [← h1]; simp
  rw [e1, e2] at h3
  have hperm : d'.toList.Perm l := by simpa using h3
  refine ⟨hperm, ?_⟩
  have hn : (d'.toList.map (·.kind)).Nodup := ((hperm.map _).nodup_iff).2 ho
  unfold ByKind
  rw [List.pairwise_iff_getElem]
  intro i j hi hj hij
  have hsz : d'.size = l.toArray.size := h1
  have h := hs i j (Nat.zero_le _) hij (by rw [← hsz]; simpa using hj)
  rw [cmpAt_lt, getElem!_pos d' i (by simpa using hi), getElem!_pos d' j (by simpa using hj), decide_eq_false_iff_not] at h
  have hne : d'[i].kind ≠ d'[j].kind := by
    have h4 := List.pairwise_iff_getElem.1 hn i j (by simpa using hi) (by simpa using hj) hij
    simpa using h4
  simp only [Array.getElem_toList]
  omega

end Go.Proofs.Yteoacdkgicfomaa
