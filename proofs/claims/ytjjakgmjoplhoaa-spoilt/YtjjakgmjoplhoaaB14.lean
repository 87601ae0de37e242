/-
  Announces, walked.
-/
import Derived.Test.YtjjakgmjoplhoaaB04
import Derived.Test.YtjjakgmjoplhoaaB05
import Derived.Test.YtjjakgmjoplhoaaB13
import Derived.Test.YtjjakgmjoplhoaaB11
import Derived.Test.YtjjakgmjoplhoaaB12
namespace Go.Proofs.Ytjjakgmjoplhoaa
open Go.RowKit
open Rl

theorem pfx_size : (Try.prog.info? 36).map (·.size) = some 2 := by kernel_rfl

/-- the copy of the list that is handed over: l, j marks behind it, then zeros. -/
def annRow (l : List (Int × Int)) (j : Nat) : List (Int × Int) := l ++ (List.replicate j (-9, 9) ++ List.replicate (3 - j) (0, 0))

theorem annRow_length (l : List (Int × Int)) (j : Nat) (h : j ≤ 3) : (annRow l j).length = l.length + 3 := by simp [annRow]; omega

theorem zeros_pfx (m : Nat) : (madeCells (Value.agg #[.int .i64 0, .int .i64 0]).cells (m * 2)).toList = pfCells (List.replicate m (0, 0)) := by
  apply List.ext_getElem?
  intro j
  have hl : (pfCells (List.replicate m ((0 : Int), (0 : Int)))).length = m * 2 := by rw [pfCells_length]; simp
  by_cases h : j < m * 2
  · have h2 : j / 2 < (List.replicate m ((0 : Int), (0 : Int))).length := by simp; omega
    obtain ⟨g1, g2⟩ := pfCells_get (List.replicate m (0, 0)) (j / 2) h2
    rcases Nat.mod_two_eq_zero_or_one j with e | e
    · have ej : j / 2 * 2 = j := by omega
      rw [ej] at g1
      rw [g1]
      simp [madeCells, Value.cells, h, e]
    · have ej : j / 2 * 2 + 1 = j := by omega
      rw [ej] at g2
      rw [g2]
      simp [madeCells, Value.cells, h, e]
  · rw [List.getElem?_eq_none (l := pfCells _) (by rw [hl]; omega)]
    simp [madeCells, h]

theorem own_full {w : World} {B : Nat} {e : TypeId} {size g n : Nat} {xs : List Value} (h : w.ownsRow B e size (.slice (some ⟨g, 0, none⟩) n n) n xs) : w.heap[g]? = some (.cells xs.toArray e (0, 0)) ∧ B ≤ g := by
  rcases h.2 with ⟨e1, _⟩ | ⟨g', cap, cur, e1, hb, hg, _, _, hcs, ht⟩
  · simp at e1
  · simp only [Value.slice.injEq, Option.some.injEq, Addr.mk.injEq, and_true, true_and] at e1
    obtain ⟨rfl, rfl⟩ := e1
    refine ⟨?_, hb⟩
    rw [hg]
    have : xs = cur.toList := by rw [← ht]; exact List.take_of_length_le (by rw [Array.length_toList, hcs]; exact Nat.le_refl _)
    rw [this]

theorem owns_setRow {w : World} {g m : Nat} {cur : Array Value} {e : TypeId} {size : Nat} {B : Nat} (hg : w.heap[g]? = some (.cells cur e (0, 0))) (new : List Value) (hB : B ≤ g) (hm : m ≤ maxLen) (hn : new.length = m * size) :
    (w.setRow g new.toArray).ownsRow B e size (.slice (some ⟨g, 0, none⟩) m m) m new :=
  ⟨hn, .inr ⟨g, m, new.toArray, rfl, hB, setRow_heap w g cur _ e _ hg, Nat.le_refl _, hm, by simpa using hn, List.take_of_length_le (by simp; omega)⟩⟩

theorem pfCells_set : ∀ (l : List (Int × Int)) (k : Nat) (p : Int × Int), ((pfCells l).set (k * 2) (.int .i64 p.1)).set (k * 2 + 1) (.int .i64 p.2) = pfCells (l.set k p) := by
  intro l; induction l with
  | nil => intro k p; simp [pfCells]
  | cons a l ih =>
    intro k p
    have e : pfCells (a :: l) = .int .i64 a.1 :: .int .i64 a.2 :: pfCells l := rfl
    cases k with
    | zero => simp [pfCells]
    | succ k =>
      rw [e, show (k + 1) * 2 = k * 2 + 1 + 1 from by omega]
      simp only [List.set_cons_succ]
      rw [ih k p]
      rfl

theorem annRow_step (l : List (Int × Int)) (j : Nat) (h : j < 3) : (annRow l j).set (l.length + j) (-9, 9) = annRow l (j + 1) := by
  unfold annRow
  have e : 3 - j = (3 - (j + 1)) + 1 := by omega
  rw [List.set_append, if_neg (by omega), Nat.add_sub_cancel_left, e, List.set_append, List.replicate_succ, List.replicate_succ']
  simp

/-- both cells of an element written. -/
theorem stored2 {w : World} {B g n cap : Nat} {e : TypeId} {l : List (Int × Int)} (h : w.ownsRow B e 2 (.slice (some ⟨g, 0, none⟩) n cap) n (pfCells l)) (k : Nat) (p : Int × Int) :
    ((w.setCell ⟨g, k * 2, none⟩ (.int .i64 p.1)).setCell ⟨g, k * 2 + 1, none⟩ (.int .i64 p.2)).ownsRow B e 2 (.slice (some ⟨g, 0, none⟩) n cap) n (pfCells (l.set k p)) := by
  have h2 := ((h.stored (k * 2) (.int .i64 p.1)).1.stored (k * 2 + 1) (.int .i64 p.2)).1
  rwa [pfCells_set] at h2

theorem pfCells_append (a b : List (Int × Int)) : pfCells (a ++ b) = pfCells a ++ pfCells b := by unfold pfCells; rw [List.flatMap_append]

/-- the first elements of the row. -/
theorem row_head {w : World} {B g : Nat} {l : List (Int × Int)} (h : w.ownsRow B 36 2 (.slice (some ⟨g, 0, none⟩) (l.length + 3) (l.length + 3)) (l.length + 3) (pfCells (annRow l 3))) :
    RowAt w (.slice (some ⟨g, 0, none⟩) l.length (l.length + 3)) l.length 2 (pfCells l) := by
  refine ⟨pfCells_length l, ?_⟩
  by_cases hn : l.length = 0
  · exact .inl ⟨_, _, by rw [hn], hn⟩
  · refine .inr ⟨g, 0, _, rfl, by omega, (h.lt g rfl).2, fun j u hu => ?_⟩
    have hj : j < l.length * 2 := by
      have := (List.getElem?_eq_some_iff.1 hu).1
      rwa [pfCells_length] at this
    rw [Nat.zero_add, h.cellAt j (by omega)]
    unfold annRow
    rw [pfCells_append, List.getElem?_append_left (by rw [pfCells_length]; exact hj)]
    exact hu

theorem row_marks (l : List (Int × Int)) (j : Nat) (h : j < 3) : (pfCells (annRow l 3))[(l.length + j) * 2]? = some (.int .i64 (-9)) ∧ (pfCells (annRow l 3))[(l.length + j) * 2 + 1]? = some (.int .i64 9) := by
  have hk : l.length + j < (annRow l 3).length := by rw [annRow_length _ _ (by omega)]; omega
  obtain ⟨g1, g2⟩ := pfCells_get (annRow l 3) (l.length + j) hk
  have e0 : (annRow l 3)[l.length + j]? = some (-9, 9) := by
    unfold annRow
    rw [List.getElem?_append_right (by omega), Nat.add_sub_cancel_left, List.getElem?_append_left (by simpa using h), List.getElem?_replicate]
    simp [h]
  have e : (annRow l 3)[l.length + j]'hk = (-9, 9) := by
    rw [List.getElem?_eq_getElem hk] at e0
    exact Option.some.inj e0
  rw [e] at g1 g2
  exact ⟨g1, g2⟩

/-- the list that is handed over, copied onto the new row. -/
theorem copied (l : List (Int × Int)) (b o cap g : Nat) (w1 : World) (B : Nat) (hm : l.length + 3 ≤ maxLen) (hown : w1.ownsRow B 36 2 (.slice (some ⟨g, 0, none⟩) (l.length + 3) (l.length + 3)) (l.length + 3) (pfCells (List.replicate (l.length + 3) (0, 0))))
    (hc : ∀ j u, (pfCells l)[j]? = some u → w1.cell? ⟨b, o + j, none⟩ = some u) :
    ∃ w2, (Builtin.copy_ #[26, 26] 3 #[.slice (some ⟨g, 0, none⟩) (l.length + 3) (l.length + 3), .slice (some ⟨b, o, none⟩) l.length cap]).run Try.prog w1 = .ok (goInt l.length) w2 ∧
      w2.ownsRow B 36 2 (.slice (some ⟨g, 0, none⟩) (l.length + 3) (l.length + 3)) (l.length + 3) (pfCells (annRow l 0)) ∧ Below B w1 w2 := by
  obtain ⟨hg, hB⟩ := own_full hown
  have hlen : (pfCells l).length = l.length * 2 := pfCells_length l
  have hmin : Nat.min l.length (l.length + 3) = l.length := by show min _ _ = _; omega
  have h := run_copy_rowN (P := Try.prog) w1 26 26 3 36 2 g 0 (l.length + 3) (l.length + 3) ⟨b, o, none⟩ l.length cap _ _ (pfCells l) Try.underlying26 pfx_size hg (by rw [hmin, hlen]) (by
    intro j u hu
    have e : (⟨b, o, none⟩ : Addr).add j = ⟨b, o + j, none⟩ := by unfold Addr.add; split <;> simp_all
    rw [e]; exact hc j u hu) (by simp [pfCells_length]; omega) (by
    intro u hu
    unfold pfCells at hu
    simp only [List.mem_flatMap, List.mem_cons, List.not_mem_nil, or_false] at hu
    obtain ⟨p, _, rfl | rfl⟩ := hu <;> rfl)
  rw [hmin] at h
  refine ⟨_, h, ?_, ?_⟩
  · have e : (((pfCells (List.replicate (l.length + 3) ((0 : Int), (0 : Int)))).toArray.toList.take 0 ++ pfCells l) ++ ((pfCells (List.replicate (l.length + 3) ((0 : Int), (0 : Int)))).toArray.toList.drop (0 + (pfCells l).length))) = pfCells (annRow l 0) := by
      have e1 : pfCells (List.replicate (l.length + 3) ((0 : Int), (0 : Int))) = pfCells (List.replicate l.length (0, 0)) ++ pfCells (List.replicate 3 (0, 0)) := by
        rw [← List.replicate_append_replicate]; unfold pfCells; rw [List.flatMap_append]
      have e2 : (pfCells (List.replicate l.length ((0 : Int), (0 : Int)))).length = (pfCells l).length := by rw [pfCells_length, pfCells_length]; simp
      rw [e1, Nat.zero_add, ← e2]
      simp only [List.take_zero, List.nil_append, List.drop_left']
      unfold annRow pfCells
      simp
    rw [e]
    exact owns_setRow hg _ hB hm (by rw [pfCells_length, annRow_length _ _ (by omega)])
  · exact below_setRow (Below.refl _ _) hB _

/-- the same, whatever list it is. -/
theorem copied' (l : List (Int × Int)) (a0 : Option Addr) (c0 g : Nat) (w1 : World) (B : Nat) (hm : l.length + 3 ≤ maxLen) (hown : w1.ownsRow B 36 2 (.slice (some ⟨g, 0, none⟩) (l.length + 3) (l.length + 3)) (l.length + 3) (pfCells (List.replicate (l.length + 3) (0, 0))))
    (hr : RowAt w1 (.slice a0 l.length c0) l.length 2 (pfCells l)) :
    ∃ w2, (Builtin.copy_ #[26, 26] 3 #[.slice (some ⟨g, 0, none⟩) (l.length + 3) (l.length + 3), .slice a0 l.length c0]).run Try.prog w1 = .ok (goInt l.length) w2 ∧
      w2.ownsRow B 36 2 (.slice (some ⟨g, 0, none⟩) (l.length + 3) (l.length + 3)) (l.length + 3) (pfCells (annRow l 0)) ∧ Below B w1 w2 := by
  rcases hr.2 with ⟨x, y, hv, hn⟩ | ⟨b, o, cap, hv, hn, hbk, hc⟩
  · have e0 : l = [] := List.eq_nil_of_length_eq_zero hn
    subst e0
    refine ⟨w1, run_copy_noneN (P := Try.prog) w1 _ _ _ 36 2 _ _ _ _ _ _ Try.underlying26 pfx_size (by show min _ _ = _; simp), ?_, Below.refl _ _⟩
    have e : annRow [] 0 = List.replicate 3 (0, 0) := by simp [annRow]
    rw [e]; exact hown
  · cases hv
    exact copied l b o _ g w1 B hm hown hc

set_option maxRecDepth 20000 in
set_option maxHeartbeats 8000000 in
theorem annWalk (s : ByteArray) (v : Value) (l : List (Int × Int)) (a0 : Option Addr) (c0 : Nat) (w : World) (hs : s.size ≤ 1048576) (hl : l.length ≤ 1048576) (hv : v = .slice a0 l.length c0) (hr : RowAt w v l.length 2 (pfCells l)) :
    Calls Try.prog 5 #[.string s, v] w fun e w' => e = .returned (.bool true) ∧ Below w.heap.size w w' := by
  obtain ⟨i0, hi, hz0, hz1, hz2⟩ := info_parts info_pfx
  subst hv
  have hr0 := hr
  go_enter Try.func5, Try.ntmps5
  go_wp2_with (at_make; refine wpList_make_full _ rfl _ _ 26 rfl w.heap.size 36 i0 (.agg #[.int .i64 0, .int .i64 0]) 2 Try.underlying26 hi hz0 hz1 .i64 .i64 _ _ (l.length + 3) rfl rfl (by omega) (by omega) (by rw [hz2]; omega) (by unfold maxLen; omega) (Nat.le_refl _) ?_; intro w1 hown hgrow; rw [zeros_pfx] at hown; have hb1 := (Below.refl w.heap.size w).grown hgrow (Nat.le_refl _) (by simp); obtain ⟨w2, hcopy, hown2, hb2⟩ := copied' l a0 c0 w.heap.size w1 w.heap.size (by unfold maxLen; omega) hown (hr.later hb1))
  have hb2' : Below w.heap.size w w2 := hb1.trans hb2
  have hs2 : w.heap.size < w2.heap.size := by
    have := (own_full hown2).1
    exact (Array.getElem?_eq_some_iff.1 this).1
  go_loopw [8] (fun i wr => ∃ k : Nat, l.length ≤ k ∧ k ≤ l.length + 3 ∧ i = .int .i64 k ∧ wr.ownsRow w.heap.size 36 2 (.slice (some ⟨w.heap.size, 0, none⟩) (l.length + 3) (l.length + 3)) (l.length + 3) (pfCells (annRow l (k - l.length))) ∧ wr.cell? ⟨w2.heap.size, 0, none⟩ = some (.int .i64 (-9)) ∧ wr.cell? ⟨w2.heap.size, 1, none⟩ = some (.int .i64 9) ∧ w2.heap.size < wr.heap.size ∧ Below w.heap.size w wr) (fun i _ => l.length + 3 - (intOf i).toNat)
  case atStart => exact ⟨l.length, Nat.le_refl _, by omega, rfl, by rw [Nat.sub_self]; exact hown2.alloc _, by simp, by simp, by simp, hb2'.alloc hb2'.size _⟩
  case round =>
    obtain ⟨k, hk0, hk1, rfl, hr, m0, m1, ms, hbel⟩ := hrel
    clear hcopy hown hown2 hgrow hb1 hb2
    by_cases hlt : k < l.length + 3
    · have hlen := annRow_length l (k - l.length) (by omega)
      obtain ⟨g1, g2⟩ := pfCells_get (annRow l (k - l.length)) k (by omega)
      obtain ⟨p, q1⟩ : ∃ p, wr.cell? ⟨w.heap.size, k * 2, none⟩ = some (.int .i64 p) := ⟨_, (hr.cellAt (k * 2) (by omega)).trans g1⟩
      obtain ⟨q, q2⟩ : ∃ q, wr.cell? ⟨w.heap.size, k * 2 + 1, none⟩ = some (.int .i64 q) := ⟨_, (hr.cellAt (k * 2 + 1) (by omega)).trans g2⟩
      have f1 := hr.frozenAt (k * 2)
      have f2 := hr.frozenAt (k * 2 + 1)
      have H := hide (stored2 hr k (-9, 9))
      have HS : Hid ((annRow l (k - l.length)).set k (-9, 9) = annRow l (k + 1 - l.length)) := by
        have e := annRow_step l (k - l.length) (by omega)
        rw [show l.length + (k - l.length) = k from by omega, show k - l.length + 1 = k + 1 - l.length from by omega] at e
        exact e
      clear hr g1 g2 hlen
      go_wp2
      have n0 : (⟨w.heap.size, k * 2, none⟩ : Addr) ≠ ⟨w2.heap.size, 0, none⟩ := by intro e; injection e; omega
      have n1 : (⟨w.heap.size, k * 2 + 1, none⟩ : Addr) ≠ ⟨w2.heap.size, 0, none⟩ := by intro e; injection e; omega
      have n2 : (⟨w.heap.size, k * 2, none⟩ : Addr) ≠ ⟨w2.heap.size, 1, none⟩ := by intro e; injection e; omega
      have n3 : (⟨w.heap.size, k * 2 + 1, none⟩ : Addr) ≠ ⟨w2.heap.size, 1, none⟩ := by intro e; injection e; omega
      refine ⟨⟨k + 1, by omega, by omega, by go_num, by rw [← HS.out]; exact H.out, ?_, ?_, by simp; exact ms, (hbel.setCell (by simp) _).setCell (by simp) _⟩, by simp [intOf]; omega⟩
      · rw [World.cell?_setCell_other _ _ _ _ n1, World.cell?_setCell_other _ _ _ _ n0, m0]
      · rw [World.cell?_setCell_other _ _ _ _ n3, World.cell?_setCell_other _ _ _ _ n2, m1]
    · have hk3 : k = l.length + 3 := by omega
      subst hk3
      rw [show l.length + 3 - l.length = 3 from by omega] at hr
      have hrow : ∀ wx, Below wr.heap.size wr wx → RowAt wx (.slice (some ⟨w.heap.size, 0, none⟩) l.length (l.length + 3)) l.length 2 (pfCells l) := fun wx hb => (row_head hr).later hb
      obtain ⟨y0, y1⟩ := row_marks l 0 (by omega)
      obtain ⟨y2, y3⟩ := row_marks l 1 (by omega)
      obtain ⟨y4, y5⟩ := row_marks l 2 (by omega)
      have hx0 := (hr.cellAt (l.length * 2) (by omega)).trans y0
      have hx1 := (hr.cellAt (l.length * 2 + 1) (by omega)).trans y1
      have hx2 := (hr.cellAt ((l.length + 1) * 2) (by omega)).trans y2
      have hx3 := (hr.cellAt ((l.length + 1) * 2 + 1) (by omega)).trans y3
      have hx4 := (hr.cellAt ((l.length + 2) * 2) (by omega)).trans y4
      have hx5 := (hr.cellAt ((l.length + 2) * 2 + 1) (by omega)).trans y5
      have gs : w.heap.size < wr.heap.size := (hr.lt w.heap.size rfl).2
      have hrl : ∀ wx, Below w.heap.size w wx → RowAt wx (.slice a0 l.length c0) l.length 2 (pfCells l) := fun wx hb => RowAt.later hr0 hb
      clear hr y0 y1 y2 y3 y4 y5
      have hA := announce_outer s (.slice (some ⟨w.heap.size, 0, none⟩) l.length (l.length + 3)) l (some ⟨w.heap.size, 0, none⟩) (l.length + 3) wr hs hl rfl (hrow wr (Below.refl _ _))
      have hB := fun wx hb => announceRef_any s (.slice a0 l.length c0) l a0 c0 wx hs hl rfl (hrl wx hb)
      have hS := fun wx hb hb2 => sameP_any (.slice (some ⟨w.heap.size, 0, none⟩) l.length (l.length + 3)) (.slice a0 l.length c0) l (some ⟨w.heap.size, 0, none⟩) a0 (l.length + 3) c0 wx (by omega) rfl rfl (hrow wx hb) (hrl wx hb2)
      clear hrow hrl
      generalize (⟨(annM s l).toArray⟩ : ByteArray) = M at *
      generalize annE s l = E at *
      go_wp2_with fail
      refine hA.mono ?_
      rintro e w4 ⟨rfl, hb4⟩
      have b4 := later_below hbel hb4 hbel.size
      go_wp2_with fail
      refine (hB w4 b4).mono ?_
      rintro e w5 ⟨rfl, hb5⟩
      have b5 := later_below b4 hb5 b4.size
      have d5 := later_below hb4 hb5 hb4.size
      go_wp2_with fail
      refine (hS w5 d5 b5).mono ?_
      rintro e w6 ⟨rfl, hb6⟩
      have b6 := later_below b5 hb6 b5.size
      have d6 := later_below d5 hb6 d5.size
      have z0 := (d6.cell (p := ⟨w.heap.size, l.length * 2, none⟩) gs).trans hx0
      have z1 := (d6.cell (p := ⟨w.heap.size, l.length * 2 + 1, none⟩) gs).trans hx1
      have z2 := (d6.cell (p := ⟨w.heap.size, (l.length + 1) * 2, none⟩) gs).trans hx2
      have z3 := (d6.cell (p := ⟨w.heap.size, (l.length + 1) * 2 + 1, none⟩) gs).trans hx3
      have z4 := (d6.cell (p := ⟨w.heap.size, (l.length + 2) * 2, none⟩) gs).trans hx4
      have z5 := (d6.cell (p := ⟨w.heap.size, (l.length + 2) * 2 + 1, none⟩) gs).trans hx5
      have z6 := (d6.cell (p := ⟨w2.heap.size, 0, none⟩) ms).trans m0
      have z7 := (d6.cell (p := ⟨w2.heap.size, 1, none⟩) ms).trans m1
      clear hA hB hS hb4 hb5 hb6 b4 b5 d5 hx0 hx1 hx2 hx3 hx4 hx5 m0 m1
      go_wp2
      go_quiet (fail)
      go_wp2
      go_ret
      exact ⟨rfl, below_drewN b6 _⟩

end Go.Proofs.Ytjjakgmjoplhoaa
/-
  routelogkeep.Told, walked: what Announce writes Update reads.
-/
namespace Go.Proofs.Ytjjakgmjoplhoaa
open Go.RowKit
open Rl

theorem frame_outer (s : ByteArray) (w : World) (hs : s.size ≤ maxLen) :
    Calls Try.prog 10 #[.string s] w fun e w' => e = .returned (.tuple #[.int .i64 (frN s.data.toList), .int .i64 (frK s.data.toList), .int .i64 (frE s.data.toList)]) ∧ Below w.heap.size w w' := by
  go_enter Try.func10, Try.ntmps10
  go_wp2_with (go_at_call 33; refine (frame_any s _ hs).mono ?_; rintro e w' ⟨rfl, hb⟩)
  go_ret3
  exact ⟨rfl, hb⟩

/-- the prefixes that Told announces. -/
def toldL (v : Int) (raw : List Int) : List (Int × Int) := if (keepL raw 60).length = 0 then keepL [v] 1 else keepL raw 60

theorem toldL_all (v : Int) (raw : List Int) : pfAll (toldL v raw) = true := by unfold toldL; split <;> exact keepL_all _ _
theorem toldL_len (v : Int) (raw : List Int) : 1 ≤ (toldL v raw).length ∧ (toldL v raw).length ≤ 60 := by
  have h1 := keepL_length raw 60
  have h2 := keepL_length [v] 1
  unfold toldL
  split
  · rw [h2]; simp
  · omega

theorem annC_upd (A : List UInt8) (l : List (Int × Int)) (s : ByteArray) (h : annA s = A) : annC s l = updC (pfWire (pfNats [])) A (pfWire (pfNats l)) := by
  unfold annC updC
  rw [h]
  rfl

theorem rowAt_two {w : World} {v : Value} {l : List (Int × Int)} {a : Option Addr} {n c : Nat} (h : RowAt w v l.length 2 (pfCells l)) (hv : v = .slice a n c) : n = l.length := by
  rcases h.2 with ⟨x, y, e, h0⟩ | ⟨b, o, cap, e, _⟩
  · rw [e] at hv; cases hv; rw [h0]
  · rw [e] at hv; cases hv; rfl

/-- a row of prefixes that a call hands back. -/
def HandsL (e : Ending) (w w' : World) (l : List (Int × Int)) : Prop := ∃ a c, e = .returned (.slice a l.length c) ∧ RowAt w' (.slice a l.length c) l.length 2 (pfCells l) ∧ Below w.heap.size w w'

theorem handsL_of {e : Ending} {w w' : World} {l : List (Int × Int)} (h : ∃ v', e = .returned v' ∧ w'.ownsRow w.heap.size 36 2 v' l.length (pfCells l) ∧ Below w.heap.size w w') : HandsL e w w' l := by
  obtain ⟨v', rfl, ho, hb⟩ := h
  obtain ⟨a, c, rfl⟩ := slice_of_owns ho
  exact ⟨a, c, rfl, rowAt_of_owns ho, hb⟩

/-- what Announce's answer is, and what Frame and Update make of it. -/
def ToldCase (N : Nat) (S M : ByteArray) (E : Int) (l : List (Int × Int)) : Prop :=
  (200 < N ∧ M = ⟨#[]⟩ ∧ E = 4) ∨ (¬ 200 < N ∧ E = 0 ∧ M.size = N ∧ (∀ wx, Calls Try.prog 10 #[.string M] wx fun e w' => e = .returned (.tuple #[.int .i64 (N : Int), .int .i64 2, .int .i64 0]) ∧ Below wx.heap.size wx w') ∧
    ∀ wx, Calls Try.prog 12 #[.string M] wx fun e w' => ∃ a1 c1 a2 c2, e = .returned (.tuple #[.agg #[.slice a1 0 c1, .slice a2 l.length c2, .string S], .int .i64 0]) ∧ Below wx.heap.size wx w' ∧ RowAt w' (.slice a2 l.length c2) l.length 2 (pfCells l))

set_option maxRecDepth 20000 in
set_option maxHeartbeats 4000000 in
theorem told_raw (v : Int) (vr : Value) (w : World) (S A C M : ByteArray) (L0 LL : List (Int × Int)) (E : Int) (N : Nat)
    (pT : CallsStr 19 #[.int .i64 v, .bool true] S) (pF : CallsStr 19 #[.int .i64 v, .bool false] A)
    (pR : ∀ wx, Below w.heap.size w wx → Calls Try.prog 20 #[vr, .int .i64 60] wx fun e w' => HandsL e wx w' L0)
    (pV : L0.length = 0 → ∀ wx (b : Nat), wx.cell? ⟨b, 0, none⟩ = some (.int .i64 v) → b < wx.heap.size → Calls Try.prog 20 #[.slice (some ⟨b, 0, none⟩) 1 1, .int .i64 1] wx fun e w' => HandsL e wx w' LL)
    (hLL : L0.length ≠ 0 → LL = L0)
    (pC : ∀ vv wx, RowAt wx vv LL.length 2 (pfCells LL) → Calls Try.prog 21 #[vv] wx fun e w' => e = .returned (.string C) ∧ Below wx.heap.size wx w')
    (pAnn : ∀ a c wx, RowAt wx (.slice a LL.length c) LL.length 2 (pfCells LL) → Calls Try.prog 17 #[.string S, .slice a LL.length c] wx fun e w' => e = .returned (.tuple #[.string M, .int .i64 E]) ∧ Below wx.heap.size wx w')
    (HC : Hid (ToldCase N S M E LL)) (hN : 23 + (A.size : Int) + (C.size : Int) = (N : Int)) (_hN2 : N ≤ 1000) (hl : LL.length ≤ 1000) (_h0l : L0.length ≤ 1000) (hA : A.size ≤ 300) (_hC : C.size ≤ 300) :
    Calls Try.prog 6 #[.int .i64 v, vr] w fun e w' => e = .returned (.bool true) ∧ Below w.heap.size w w' := by
  have HL := hide hLL
  clear hLL
  go_enter Try.func6, Try.ntmps6
  go_wp2_with fail
  refine (pT _).mono ?_
  rintro e w1 ⟨rfl, B1⟩
  go_wp2_with fail
  refine (pR _ B1).mono ?_
  rintro e w2 ⟨a2, c2, rfl, hr2, hb2⟩
  have B2 := below_held B1 hb2
  clear pR B1 hb2
  go_upto_if 22 with fail
  go_cut [6] (fun s6 wx => ∃ a c, s6 = .slice a LL.length c ∧ RowAt wx (.slice a LL.length c) LL.length 2 (pfCells LL) ∧ Below w.heap.size w wx)
  case first =>
    by_cases h0 : L0.length = 0
    · have hz : ((L0.length : Int) == 0) = true := by rw [h0]; rfl
      have pV' := pV h0
      go_wp2_with fail
      refine (pV' _ w2.heap.size (by simp) (by simp)).mono ?_
      rintro e w3 ⟨a3, c3, rfl, hr3, hb3⟩
      go_wp2_with fail
      go_meet
      case rel => exact ⟨a3, c3, rfl, hr3, below_held (B2.alloc B2.size _) hb3⟩
    · have hz : ((L0.length : Int) == 0) = false := by rw [beq_eq_false_iff_ne]; omega
      go_wp2_with fail
      go_meet
      case rel => rw [HL.out h0]; exact ⟨a2, c2, rfl, hr2, B2⟩
  case rest =>
    clear B2 hr2 pV HL
    obtain ⟨a, c, rfl, hr, B⟩ := hcut
    go_wp2_with fail
    refine (pAnn _ _ _ hr).mono ?_
    rintro e w3 ⟨rfl, hb3⟩
    have B3 := below_held B hb3
    have hr3 := hr.later hb3
    clear B hb3 hr
    go_wp2_with fail
    refine (pF _).mono ?_
    rintro e w4 ⟨rfl, hb4⟩
    have B4 := below_held B3 hb4
    have hr4 := hr3.later hb4
    clear B3 hb4 hr3
    go_wp2_with fail
    refine (pC _ _ hr4).mono ?_
    rintro e w5 ⟨rfl, hb5⟩
    have B5 := below_held B4 hb5
    have hr5 := hr4.later hb5
    clear B4 hb5 hr4
    rcases HC.out with ⟨h2, rfl, rfl⟩ | ⟨h2, rfl, hM, pFr, pU⟩
    · clear HC
      have hlt : (200 : Int) < (N : Int) := by omega
      go_wp2_with fail
      go_ret
      exact ⟨rfl, B5⟩
    · clear HC
      have hlt : ¬ (200 : Int) < (N : Int) := by omega
      go_wp2_with fail
      refine (pFr _).mono ?_
      rintro e w6 ⟨rfl, hb6⟩
      have B6 := below_held B5 hb6
      have hr6 := hr5.later hb6
      clear B5 hb6 hr5
      go_wp2_with fail
      refine (pU _).mono ?_
      rintro e w7 ⟨x1, y1, x2, y2, rfl, hb7, hu7⟩
      have B7 := below_held B6 hb7
      have hr7 := hr6.later hb7
      clear B6 hb7 hr6
      go_wp2_with fail
      refine (keepSame_any _ _ LL x2 a y2 c _ (by omega) rfl rfl (hu7.later ((Below.refl _ _).alloc (Nat.le_refl _) _)) (hr7.later ((Below.refl _ _).alloc (Nat.le_refl _) _))).mono ?_
      rintro e w8 ⟨rfl, hb8⟩
      have i3 := (box3_new w7 (.slice x1 0 y1) (.slice x2 LL.length y2) (.string S) 28).later hb8
      have B8 := below_held (B7.alloc B7.size _) hb8
      obtain ⟨q0, q1, q2, _, _, _, xl⟩ := i3
      clear hu7 hr7 hb8
      go_wp2
      go_ret
      exact ⟨rfl, B8⟩

set_option maxRecDepth 20000 in
set_option maxHeartbeats 4000000 in
theorem told_walk (v : Int) (vr : Value) (raw : List Int) (w : World) (hv : inI64 v) (hr : RowAt w vr raw.length 1 (ints raw)) (hri : ∀ c ∈ raw, inI64 c) (hrl : raw.length ≤ 9223372036854775807) :
    Calls Try.prog 6 #[.int .i64 v, vr] w fun e w' => e = .returned (.bool true) ∧ Below w.heap.size w w' := by
  have hk := kaL_ann v
  have lt := kaW_len true v
  have lf := kaW_len false v
  have hLa := toldL_all v raw
  obtain ⟨hL1, hL2⟩ := toldL_len v raw
  have pT := fun wx => keepAttributes_any v true wx hv
  have pF := fun wx => keepAttributes_any v false wx hv
  have pR := fun wx h => keepPrefixes_any vr raw 60 wx h hri (by omega) hrl
  have pV := fun vv wx h => keepPrefixes_any vv [v] 1 wx h (by simpa using hv) (by omega) (by simp)
  have HLL : Hid (toldL v raw = if (keepL raw 60).length = 0 then keepL [v] 1 else keepL raw 60) := rfl
  have hS := txt_len (kaW true (kaL v))
  have hAs := txt_len (kaW false (kaL v))
  have hCl := pfWire_nats_le (toldL v raw) hLa
  have hCs := txt_len (pfWire (pfNats (toldL v raw)))
  have pC := fun vv wx h => told_keep vv (toldL v raw) wx hLa (by omega) h
  have hann := fun vv a c wx e h => announce_outer (txt (kaW true (kaL v))) vv (toldL v raw) a c wx (by omega) (by omega) e h
  have hok : annOk (txt (kaW true (kaL v))) (toldL v raw) = true := annOk_yes _ _ hk.1 (by omega) hLa
  have hcl : 19 + (annC (txt (kaW true (kaL v))) (toldL v raw)).length = 23 + (txt (kaW false (kaL v))).size + (txt (pfWire (pfNats (toldL v raw)))).size := by
    rw [annC_length, hk.2, hAs, hCs]; omega
  have hlong := ann_long _ _ hok
  have hgood := ann_good _ _ hok
  have hupd : ¬ 200 < 19 + (annC (txt (kaW true (kaL v))) (toldL v raw)).length → upd (txt (msgOf 2 (annC (txt (kaW true (kaL v))) (toldL v raw)))) = ⟨0, [], toldL v raw, kaW true (kaL v)⟩ := by
    intro h
    have e := annC_upd (kaW false (kaL v)) (toldL v raw) _ hk.2
    rw [e] at h ⊢
    rw [upd_wire [] (toldL v raw) _ (kaL v) false rfl hLa (by rw [kaW_false]; exact akOf_wire _ (kaL_can v)) (by omega)]
    unfold updBody
    rw [if_neg (by omega), if_neg (by rw [kaL_need]; simp), canTo_kaL]
  have hS2 : (⟨(kaW true (kaL v)).toArray⟩ : ByteArray) = txt (kaW true (kaL v)) := rfl
  obtain ⟨N, hN⟩ : ∃ N : Nat, N = 23 + (txt (kaW false (kaL v))).size + (txt (pfWire (pfNats (toldL v raw)))).size := ⟨_, rfl⟩
  have hcase : ToldCase N (txt (kaW true (kaL v))) (txt (annM (txt (kaW true (kaL v))) (toldL v raw))) (annE (txt (kaW true (kaL v))) (toldL v raw)) (toldL v raw) := by
    by_cases h : 200 < 19 + (annC (txt (kaW true (kaL v))) (toldL v raw)).length
    · obtain ⟨e1, e2⟩ := hlong h
      exact .inl ⟨by omega, by rw [e1]; rfl, e2⟩
    · obtain ⟨e1, e2⟩ := hgood h
      obtain ⟨f1, f2, f3⟩ := msg_frame (annC (txt (kaW true (kaL v))) (toldL v raw)) 2 (by omega) (by omega)
      have hms : (txt (msgOf 2 (annC (txt (kaW true (kaL v))) (toldL v raw)))).size = N := by rw [txt_len, msgOf_length]; omega
      have hml : (txt (msgOf 2 (annC (txt (kaW true (kaL v))) (toldL v raw)))).size ≤ maxLen := by unfold maxLen; omega
      rw [e1, e2]
      refine .inr ⟨by omega, rfl, hms, ?_, ?_⟩
      · intro wx
        have hf := frame_outer (txt (msgOf 2 (annC (txt (kaW true (kaL v))) (toldL v raw)))) wx hml
        rw [txt_data, f1, f2, f3, show 19 + (annC (txt (kaW true (kaL v))) (toldL v raw)).length = N from by omega] at hf
        exact hf
      · intro wx
        refine (update_outer (txt (msgOf 2 (annC (txt (kaW true (kaL v))) (toldL v raw)))) wx hml).mono ?_
        rw [hupd h]
        rintro e w' ⟨v1, v2, rfl, hb, g1, g2, _⟩
        obtain ⟨x1, y1, rfl⟩ := slice_of_owns g1
        obtain ⟨x2, y2, rfl⟩ := slice_of_owns g2
        exact ⟨x1, y1, x2, y2, rfl, hb, rowAt_of_owns g2⟩
  refine told_raw v vr w (txt (kaW true (kaL v))) (txt (kaW false (kaL v))) (txt (pfWire (pfNats (toldL v raw)))) (txt (annM (txt (kaW true (kaL v))) (toldL v raw))) (keepL raw 60) (toldL v raw) (annE (txt (kaW true (kaL v))) (toldL v raw)) N
    pT pF ?_ ?_ ?_ pC ?_ hcase (by rw [hN]; push_cast; omega) (by omega) (by omega) (by rw [keepL_length]; omega) (by omega) (by omega)
  · intro wx hb
    exact (pR wx (hr.later hb)).mono fun e w' h => handsL_of h
  · intro h0 wx b hc hb
    have e : toldL v raw = keepL [v] 1 := by unfold toldL; rw [if_pos h0]
    rw [e]
    refine (pV (.slice (some ⟨b, 0, none⟩) 1 1) wx ⟨rfl, .inr ⟨b, 0, 1, rfl, by simp, hb, ?_⟩⟩).mono fun e w' h => handsL_of h
    intro j u hu
    cases j with
    | zero => simp [ints] at hu; rw [← hu]; exact hc
    | succ j => simp [ints] at hu
  · intro h0
    unfold toldL; rw [if_neg h0]
  · intro a c wx h
    exact hann _ a c wx rfl h

end Go.Proofs.Ytjjakgmjoplhoaa
/-
  The attributes of Spoilt's update: one needed one is missing or wrong.
-/
namespace Go.Proofs.Ytjjakgmjoplhoaa
open Go.RowKit
open Rl

/-- a right value of the type i + 1. -/
def spVal : Nat → ByteArray
  | 0 => ⟨#[1]⟩
  | 1 => ⟨#[]⟩
  | _ => ⟨#[1, 2, 3, 4]⟩
def spBad : ByteArray := ⟨#[7, 7]⟩

/-- the i-th attribute's bytes. -/
def spPiece (W : Nat) (wrong : Bool) (i : Nat) : List UInt8 :=
  if i = W then (if wrong = true then atBytes 64 (i + 1) 1 spBad else []) else atBytes 64 (i + 1) 1 (spVal i)
def spTo (W : Nat) (wrong : Bool) : Nat → List UInt8
  | 0 => []
  | k + 1 => spTo W wrong k ++ spPiece W wrong k

theorem sp_len (i : Nat) : (spVal i).size ≤ 4 := by
  unfold spVal; split <;> decide

theorem spPiece_len (W : Nat) (wrong : Bool) (i : Nat) : (spPiece W wrong i).length ≤ 7 := by
  have := sp_len i
  unfold spPiece
  split
  · split
    · rw [atBytes_length]; decide
    · simp
  · rw [atBytes_length]; omega

theorem spTo_len (W : Nat) (wrong : Bool) (k : Nat) : (spTo W wrong k).length ≤ 7 * k := by
  induction k with
  | zero => simp [spTo]
  | succ k ih =>
    have := spPiece_len W wrong k
    unfold spTo
    rw [List.length_append]; omega

theorem sp_did : didOf 64 1 (spVal 0) = .keep 64 ∧ didOf 64 2 (spVal 1) = .keep 64 ∧ didOf 64 3 (spVal 2) = .keep 64 ∧ didOf 64 1 spBad = .spoil ∧ didOf 64 2 spBad = .spoil ∧ didOf 64 3 spBad = .spoil := by decide

theorem spoilt_ak (W : Nat) (wrong : Bool) (hW : W < 3) : ∃ l sp, akOf (txt (spTo W wrong 3)) = some (l, sp) ∧ (sp = true ∨ needN l ≠ 3) := by
  obtain ⟨d0, d1, d2, b0, b1, b2⟩ := sp_did
  have one : ∀ (k : Nat) (v : ByteArray) (r : List UInt8) (sn : Nat → Bool) (l : List At) (sp : Bool), k < 256 → v.size < 256 → sn k = false → _ := fun k v r sn l sp h1 h2 h3 => akAll_one 64 k 1 v r sn l sp (by omega) (by decide) h1 (by simpa using h2) h3
  have e : ∀ x, txt x = txt (x ++ []) := fun x => by rw [List.append_nil]
  have nil : ∀ sn l sp, akAll (txt []) sn l sp = some (l, sp) := fun sn l sp => akAll_end (by rw [txt_len]; rfl)
  have s0 : (spVal 0).size < 256 := by decide
  have s1 : (spVal 1).size < 256 := by decide
  have s2 : (spVal 2).size < 256 := by decide
  have sb : spBad.size < 256 := by decide
  have hw : W = 0 ∨ W = 1 ∨ W = 2 := by omega
  unfold akOf
  cases wrong with
  | true =>
    rcases hw with rfl | rfl | rfl
    · have h : spTo 0 true 3 = atBytes 64 1 1 spBad ++ (atBytes 64 2 1 (spVal 1) ++ (atBytes 64 3 1 (spVal 2) ++ [])) := by decide
      rw [h, one 1 _ _ _ _ _ (by omega) sb rfl, b0]
      simp only
      rw [one 2 _ _ _ _ _ (by omega) s1 (by decide), d1]
      simp only
      rw [one 3 _ _ _ _ _ (by omega) s2 (by decide), d2]
      simp only
      rw [nil]
      exact ⟨_, _, rfl, .inl rfl⟩
    · have h : spTo 1 true 3 = atBytes 64 1 1 (spVal 0) ++ (atBytes 64 2 1 spBad ++ (atBytes 64 3 1 (spVal 2) ++ [])) := by decide
      rw [h, one 1 _ _ _ _ _ (by omega) s0 rfl, d0]
      simp only
      rw [one 2 _ _ _ _ _ (by omega) sb (by decide), b1]
      simp only
      rw [one 3 _ _ _ _ _ (by omega) s2 (by decide), d2]
      simp only
      rw [nil]
      exact ⟨_, _, rfl, .inl rfl⟩
    · have h : spTo 2 true 3 = atBytes 64 1 1 (spVal 0) ++ (atBytes 64 2 1 (spVal 1) ++ (atBytes 64 3 1 spBad ++ [])) := by decide
      rw [h, one 1 _ _ _ _ _ (by omega) s0 rfl, d0]
      simp only
      rw [one 2 _ _ _ _ _ (by omega) s1 (by decide), d1]
      simp only
      rw [one 3 _ _ _ _ _ (by omega) sb (by decide), b2]
      simp only
      rw [nil]
      exact ⟨_, _, rfl, .inl rfl⟩
  | false =>
    rcases hw with rfl | rfl | rfl
    · have h : spTo 0 false 3 = atBytes 64 2 1 (spVal 1) ++ (atBytes 64 3 1 (spVal 2) ++ []) := by decide
      rw [h, one 2 _ _ _ _ _ (by omega) s1 rfl, d1]
      simp only
      rw [one 3 _ _ _ _ _ (by omega) s2 (by decide), d2]
      simp only
      rw [nil]
      exact ⟨_, _, rfl, .inr (by unfold needN; simp)⟩
    · have h : spTo 1 false 3 = atBytes 64 1 1 (spVal 0) ++ (atBytes 64 3 1 (spVal 2) ++ []) := by decide
      rw [h, one 1 _ _ _ _ _ (by omega) s0 rfl, d0]
      simp only
      rw [one 3 _ _ _ _ _ (by omega) s2 (by decide), d2]
      simp only
      rw [nil]
      exact ⟨_, _, rfl, .inr (by unfold needN; simp)⟩
    · have h : spTo 2 false 3 = atBytes 64 1 1 (spVal 0) ++ (atBytes 64 2 1 (spVal 1) ++ []) := by decide
      rw [h, one 1 _ _ _ _ _ (by omega) s0 rfl, d0]
      simp only
      rw [one 2 _ _ _ _ _ (by omega) s1 (by decide), d1]
      simp only
      rw [nil]
      exact ⟨_, _, rfl, .inr (by unfold needN; simp)⟩

end Go.Proofs.Ytjjakgmjoplhoaa
