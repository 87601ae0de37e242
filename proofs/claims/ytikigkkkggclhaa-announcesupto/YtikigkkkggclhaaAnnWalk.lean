/-
  Announces, walked.
-/
import Derived.Test.YtikigkkkggclhaaAnnOwn
import Derived.Test.YtikigkkkggclhaaSameP
import Derived.Test.YtikigkkkggclhaaCopyLaws
import Derived.Test.YtikigkkkggclhaaAnnRef
namespace Go.Proofs.Ytikigkkkggclhaa
open Go.RowKit
open Rl

theorem pfx_size : (Try.prog.info? 36).map (·.size) = some 2 := by kernel_rfl

/-- the copy of the list that is handed over: l, j marks behind it, then zeros. -/
def annRow (l : List (Int × Int)) (j : Nat) : List (Int × Int) := l ++ (List.replicate j (-9, 9) ++ List.replicate (3 - j) (0, 0))

theorem annRow_length (l : List (Int × Int)) (j : Nat) (h : j ≤ 3) : (annRow l j).length = l.length + 3 := by simp [annRow]; omega

theorem zeros_pfx (m : Nat) : (madeCells (Value.agg #[.int .i64 0, .int .i64 0]).cells (m * 2)).toList = pfCells (List.replicate m (0, 0)) := by
  apply List.ext_getElem?
  intro j
  have hl : (pfCells (List.replicate m ((0 : Int), (0 : Int)))).length = m * 2 := by rw [pfCells_length]; simp
  by_cases h : j < m * 2
  · have h2 : j / 2 < (List.replicate m ((0 : Int), (0 : Int))).length := by simp; omega
    obtain ⟨g1, g2⟩ := pfCells_get (List.replicate m (0, 0)) (j / 2) h2
    rcases Nat.mod_two_eq_zero_or_one j with e | e
    · have ej : j / 2 * 2 = j := by omega
      rw [ej] at g1
      rw [g1]
      simp [madeCells, Value.cells, h, e]
    · have ej : j / 2 * 2 + 1 = j := by omega
      rw [ej] at g2
      rw [g2]
      simp [madeCells, Value.cells, h, e]
  · rw [List.getElem?_eq_none (l := pfCells _) (by rw [hl]; omega)]
    simp [madeCells, h]

theorem own_full {w : World} {B : Nat} {e : TypeId} {size g n : Nat} {xs : List Value} (h : w.ownsRow B e size (.slice (some ⟨g, 0, none⟩) n n) n xs) : w.heap[g]? = some (.cells xs.toArray e (0, 0)) ∧ B ≤ g := by
  rcases h.2 with ⟨e1, _⟩ | ⟨g', cap, cur, e1, hb, hg, _, _, hcs, ht⟩
  · simp at e1
  · simp only [Value.slice.injEq, Option.some.injEq, Addr.mk.injEq, and_true, true_and] at e1
    obtain ⟨rfl, rfl⟩ := e1
    refine ⟨?_, hb⟩
    rw [hg]
    have : xs = cur.toList := by rw [← ht]; exact List.take_of_length_le (by rw [Array.length_toList, hcs]; exact Nat.le_refl _)
    rw [this]

theorem owns_setRow {w : World} {g m : Nat} {cur : Array Value} {e : TypeId} {size : Nat} {B : Nat} (hg : w.heap[g]? = some (.cells cur e (0, 0))) (new : List Value) (hB : B ≤ g) (hm : m ≤ maxLen) (hn : new.length = m * size) :
    (w.setRow g new.toArray).ownsRow B e size (.slice (some ⟨g, 0, none⟩) m m) m new :=
  ⟨hn, .inr ⟨g, m, new.toArray, rfl, hB, setRow_heap w g cur _ e _ hg, Nat.le_refl _, hm, by simpa using hn, List.take_of_length_le (by simp; omega)⟩⟩

theorem pfCells_set : ∀ (l : List (Int × Int)) (k : Nat) (p : Int × Int), ((pfCells l).set (k * 2) (.int .i64 p.1)).set (k * 2 + 1) (.int .i64 p.2) = pfCells (l.set k p) := by
  intro l; induction l with
  | nil => intro k p; simp [pfCells]
  | cons a l ih =>
    intro k p
    have e : pfCells (a :: l) = .int .i64 a.1 :: .int .i64 a.2 :: pfCells l := rfl
    cases k with
    | zero => simp [pfCells]
    | succ k =>
      rw [e, show (k + 1) * 2 = k * 2 + 1 + 1 from by omega]
      simp only [List.set_cons_succ]
      rw [ih k p]
      rfl

theorem annRow_step (l : List (Int × Int)) (j : Nat) (h : j < 3) : (annRow l j).set (l.length + j) (-9, 9) = annRow l (j + 1) := by
  unfold annRow
  have e : 3 - j = (3 - (j + 1)) + 1 := by omega
  rw [List.set_append, if_neg (by omega), Nat.add_sub_cancel_left, e, List.set_append, List.replicate_succ, List.replicate_succ']
  simp

/-- both cells of an element written. -/
theorem stored2 {w : World} {B g n cap : Nat} {e : TypeId} {l : List (Int × Int)} (h : w.ownsRow B e 2 (.slice (some ⟨g, 0, none⟩) n cap) n (pfCells l)) (k : Nat) (p : Int × Int) :
    ((w.setCell ⟨g, k * 2, none⟩ (.int .i64 p.1)).setCell ⟨g, k * 2 + 1, none⟩ (.int .i64 p.2)).ownsRow B e 2 (.slice (some ⟨g, 0, none⟩) n cap) n (pfCells (l.set k p)) := by
  have h2 := ((h.stored (k * 2) (.int .i64 p.1)).1.stored (k * 2 + 1) (.int .i64 p.2)).1
  rwa [pfCells_set] at h2

theorem pfCells_append (a b : List (Int × Int)) : pfCells (a ++ b) = pfCells a ++ pfCells b := by unfold pfCells; rw [List.flatMap_append]

/-- the first elements of the row. -/
theorem row_head {w : World} {B g : Nat} {l : List (Int × Int)} (h : w.ownsRow B 36 2 (.slice (some ⟨g, 0, none⟩) (l.length + 3) (l.length + 3)) (l.length + 3) (pfCells (annRow l 3))) :
    RowAt w (.slice (some ⟨g, 0, none⟩) l.length (l.length + 3)) l.length 2 (pfCells l) := by
  refine ⟨pfCells_length l, ?_⟩
  by_cases hn : l.length = 0
  · exact .inl ⟨_, _, by rw [hn], hn⟩
  · refine .inr ⟨g, 0, _, rfl, by omega, (h.lt g rfl).2, fun j u hu => ?_⟩
    have hj : j < l.length * 2 := by
      have := (List.getElem?_eq_some_iff.1 hu).1
      rwa [pfCells_length] at this
    rw [Nat.zero_add, h.cellAt j (by omega)]
    unfold annRow
    rw [pfCells_append, List.getElem?_append_left (by rw [pfCells_length]; exact hj)]
    exact hu

theorem row_marks (l : List (Int × Int)) (j : Nat) (h : j < 3) : (pfCells (annRow l 3))[(l.length + j) * 2]? = some (.int .i64 (-9)) ∧ (pfCells (annRow l 3))[(l.length + j) * 2 + 1]? = some (.int .i64 9) := by
  have hk : l.length + j < (annRow l 3).length := by rw [annRow_length _ _ (by omega)]; omega
  obtain ⟨g1, g2⟩ := pfCells_get (annRow l 3) (l.length + j) hk
  have e0 : (annRow l 3)[l.length + j]? = some (-9, 9) := by
    unfold annRow
    rw [List.getElem?_append_right (by omega), Nat.add_sub_cancel_left, List.getElem?_append_left (by simpa using h), List.getElem?_replicate]
    simp [h]
  have e : (annRow l 3)[l.length + j]'hk = (-9, 9) := by
    rw [List.getElem?_eq_getElem hk] at e0
    exact Option.some.inj e0
  rw [e] at g1 g2
  exact ⟨g1, g2⟩

/-- the list that is handed over, copied onto the new row. -/
theorem copied (l : List (Int × Int)) (b o cap g : Nat) (w1 : World) (B : Nat) (hm : l.length + 3 ≤ maxLen) (hown : w1.ownsRow B 36 2 (.slice (some ⟨g, 0, none⟩) (l.length + 3) (l.length + 3)) (l.length + 3) (pfCells (List.replicate (l.length + 3) (0, 0))))
    (hc : ∀ j u, (pfCells l)[j]? = some u → w1.cell? ⟨b, o + j, none⟩ = some u) :
    ∃ w2, (Builtin.copy_ #[26, 26] 3 #[.slice (some ⟨g, 0, none⟩) (l.length + 3) (l.length + 3), .slice (some ⟨b, o, none⟩) l.length cap]).run Try.prog w1 = .ok (goInt l.length) w2 ∧
      w2.ownsRow B 36 2 (.slice (some ⟨g, 0, none⟩) (l.length + 3) (l.length + 3)) (l.length + 3) (pfCells (annRow l 0)) ∧ Below B w1 w2 := by
  obtain ⟨hg, hB⟩ := own_full hown
  have hlen : (pfCells l).length = l.length * 2 := pfCells_length l
  have hmin : Nat.min l.length (l.length + 3) = l.length := by show min _ _ = _; omega
  have h := run_copy_rowN (P := Try.prog) w1 26 26 3 36 2 g 0 (l.length + 3) (l.length + 3) ⟨b, o, none⟩ l.length cap _ _ (pfCells l) Try.underlying26 pfx_size hg (by rw [hmin, hlen]) (by
    intro j u hu
    have e : (⟨b, o, none⟩ : Addr).add j = ⟨b, o + j, none⟩ := by unfold Addr.add; split <;> simp_all
    rw [e]; exact hc j u hu) (by simp [pfCells_length]; omega) (by
    intro u hu
    unfold pfCells at hu
    simp only [List.mem_flatMap, List.mem_cons, List.not_mem_nil, or_false] at hu
    obtain ⟨p, _, rfl | rfl⟩ := hu <;> rfl)
  rw [hmin] at h
  refine ⟨_, h, ?_, ?_⟩
  · have e : (((pfCells (List.replicate (l.length + 3) ((0 : Int), (0 : Int)))).toArray.toList.take 0 ++ pfCells l) ++ ((pfCells (List.replicate (l.length + 3) ((0 : Int), (0 : Int)))).toArray.toList.drop (0 + (pfCells l).length))) = pfCells (annRow l 0) := by
      have e1 : pfCells (List.replicate (l.length + 3) ((0 : Int), (0 : Int))) = pfCells (List.replicate l.length (0, 0)) ++ pfCells (List.replicate 3 (0, 0)) := by
        rw [← List.replicate_append_replicate]; unfold pfCells; rw [List.flatMap_append]
      have e2 : (pfCells (List.replicate l.length ((0 : Int), (0 : Int)))).length = (pfCells l).length := by rw [pfCells_length, pfCells_length]; simp
      rw [e1, Nat.zero_add, ← e2]
      simp only [List.take_zero, List.nil_append, List.drop_left']
      unfold annRow pfCells
      simp
    rw [e]
    exact owns_setRow hg _ hB hm (by rw [pfCells_length, annRow_length _ _ (by omega)])
  · exact below_setRow (Below.refl _ _) hB _

/-- the same, whatever list it is. -/
theorem copied' (l : List (Int × Int)) (a0 : Option Addr) (c0 g : Nat) (w1 : World) (B : Nat) (hm : l.length + 3 ≤ maxLen) (hown : w1.ownsRow B 36 2 (.slice (some ⟨g, 0, none⟩) (l.length + 3) (l.length + 3)) (l.length + 3) (pfCells (List.replicate (l.length + 3) (0, 0))))
    (hr : RowAt w1 (.slice a0 l.length c0) l.length 2 (pfCells l)) :
    ∃ w2, (Builtin.copy_ #[26, 26] 3 #[.slice (some ⟨g, 0, none⟩) (l.length + 3) (l.length + 3), .slice a0 l.length c0]).run Try.prog w1 = .ok (goInt l.length) w2 ∧
      w2.ownsRow B 36 2 (.slice (some ⟨g, 0, none⟩) (l.length + 3) (l.length + 3)) (l.length + 3) (pfCells (annRow l 0)) ∧ Below B w1 w2 := by
  rcases hr.2 with ⟨x, y, hv, hn⟩ | ⟨b, o, cap, hv, hn, hbk, hc⟩
  · have e0 : l = [] := List.eq_nil_of_length_eq_zero hn
    subst e0
    refine ⟨w1, run_copy_noneN (P := Try.prog) w1 _ _ _ 36 2 _ _ _ _ _ _ Try.underlying26 pfx_size (by show min _ _ = _; simp), ?_, Below.refl _ _⟩
    have e : annRow [] 0 = List.replicate 3 (0, 0) := by simp [annRow]
    rw [e]; exact hown
  · cases hv
    exact copied l b o _ g w1 B hm hown hc

set_option maxRecDepth 20000 in
set_option maxHeartbeats 8000000 in
theorem annWalk (s : ByteArray) (v : Value) (l : List (Int × Int)) (a0 : Option Addr) (c0 : Nat) (w : World) (hs : s.size ≤ 1048576) (hl : l.length ≤ 1048576) (hv : v = .slice a0 l.length c0) (hr : RowAt w v l.length 2 (pfCells l)) :
    Calls Try.prog 5 #[.string s, v] w fun e w' => e = .returned (.bool true) ∧ Below w.heap.size w w' := by
  obtain ⟨i0, hi, hz0, hz1, hz2⟩ := info_parts info_pfx
  subst hv
  have hr0 := hr
  go_enter Try.func5, Try.ntmps5
  go_wp2_with (at_make; refine wpList_make_full _ rfl _ _ 26 rfl w.heap.size 36 i0 (.agg #[.int .i64 0, .int .i64 0]) 2 Try.underlying26 hi hz0 hz1 .i64 .i64 _ _ (l.length + 3) rfl rfl (by omega) (by omega) (by rw [hz2]; omega) (by unfold maxLen; omega) (Nat.le_refl _) ?_; intro w1 hown hgrow; rw [zeros_pfx] at hown; have hb1 := (Below.refl w.heap.size w).grown hgrow (Nat.le_refl _) (by simp); obtain ⟨w2, hcopy, hown2, hb2⟩ := copied' l a0 c0 w.heap.size w1 w.heap.size (by unfold maxLen; omega) hown (hr.later hb1))
  have hb2' : Below w.heap.size w w2 := hb1.trans hb2
  have hs2 : w.heap.size < w2.heap.size := by
    have := (own_full hown2).1
    exact (Array.getElem?_eq_some_iff.1 this).1
  go_loopw [8] (fun i wr => ∃ k : Nat, l.length ≤ k ∧ k ≤ l.length + 3 ∧ i = .int .i64 k ∧ wr.ownsRow w.heap.size 36 2 (.slice (some ⟨w.heap.size, 0, none⟩) (l.length + 3) (l.length + 3)) (l.length + 3) (pfCells (annRow l (k - l.length))) ∧ wr.cell? ⟨w2.heap.size, 0, none⟩ = some (.int .i64 (-9)) ∧ wr.cell? ⟨w2.heap.size, 1, none⟩ = some (.int .i64 9) ∧ w2.heap.size < wr.heap.size ∧ Below w.heap.size w wr) (fun i _ => l.length + 3 - (intOf i).toNat)
  case atStart => exact ⟨l.length, Nat.le_refl _, by omega, rfl, by rw [Nat.sub_self]; exact hown2.alloc _, by simp, by simp, by simp, hb2'.alloc hb2'.size _⟩
  case round =>
    obtain ⟨k, hk0, hk1, rfl, hr, m0, m1, ms, hbel⟩ := hrel
    clear hcopy hown hown2 hgrow hb1 hb2
    by_cases hlt : k < l.length + 3
    · have hlen := annRow_length l (k - l.length) (by omega)
      obtain ⟨g1, g2⟩ := pfCells_get (annRow l (k - l.length)) k (by omega)
      obtain ⟨p, q1⟩ : ∃ p, wr.cell? ⟨w.heap.size, k * 2, none⟩ = some (.int .i64 p) := ⟨_, (hr.cellAt (k * 2) (by omega)).trans g1⟩
      obtain ⟨q, q2⟩ : ∃ q, wr.cell? ⟨w.heap.size, k * 2 + 1, none⟩ = some (.int .i64 q) := ⟨_, (hr.cellAt (k * 2 + 1) (by omega)).trans g2⟩
      have f1 := hr.frozenAt (k * 2)
      have f2 := hr.frozenAt (k * 2 + 1)
      have H := hide (stored2 hr k (-9, 9))
      have HS : Hid ((annRow l (k - l.length)).set k (-9, 9) = annRow l (k + 1 - l.length)) := by
        have e := annRow_step l (k - l.length) (by omega)
        rw [show l.length + (k - l.length) = k from by omega, show k - l.length + 1 = k + 1 - l.length from by omega] at e
        exact e
      clear hr g1 g2 hlen
      go_wp2
      have n0 : (⟨w.heap.size, k * 2, none⟩ : Addr) ≠ ⟨w2.heap.size, 0, none⟩ := by intro e; injection e; omega
      have n1 : (⟨w.heap.size, k * 2 + 1, none⟩ : Addr) ≠ ⟨w2.heap.size, 0, none⟩ := by intro e; injection e; omega
      have n2 : (⟨w.heap.size, k * 2, none⟩ : Addr) ≠ ⟨w2.heap.size, 1, none⟩ := by intro e; injection e; omega
      have n3 : (⟨w.heap.size, k * 2 + 1, none⟩ : Addr) ≠ ⟨w2.heap.size, 1, none⟩ := by intro e; injection e; omega
      refine ⟨⟨k + 1, by omega, by omega, by go_num, by rw [← HS.out]; exact H.out, ?_, ?_, by simp; exact ms, (hbel.setCell (by simp) _).setCell (by simp) _⟩, by simp [intOf]; omega⟩
      · rw [World.cell?_setCell_other _ _ _ _ n1, World.cell?_setCell_other _ _ _ _ n0, m0]
      · rw [World.cell?_setCell_other _ _ _ _ n3, World.cell?_setCell_other _ _ _ _ n2, m1]
    · have hk3 : k = l.length + 3 := by omega
      subst hk3
      rw [show l.length + 3 - l.length = 3 from by omega] at hr
      have hrow : ∀ wx, Below wr.heap.size wr wx → RowAt wx (.slice (some ⟨w.heap.size, 0, none⟩) l.length (l.length + 3)) l.length 2 (pfCells l) := fun wx hb => (row_head hr).later hb
      obtain ⟨y0, y1⟩ := row_marks l 0 (by omega)
      obtain ⟨y2, y3⟩ := row_marks l 1 (by omega)
      obtain ⟨y4, y5⟩ := row_marks l 2 (by omega)
      have hx0 := (hr.cellAt (l.length * 2) (by omega)).trans y0
      have hx1 := (hr.cellAt (l.length * 2 + 1) (by omega)).trans y1
      have hx2 := (hr.cellAt ((l.length + 1) * 2) (by omega)).trans y2
      have hx3 := (hr.cellAt ((l.length + 1) * 2 + 1) (by omega)).trans y3
      have hx4 := (hr.cellAt ((l.length + 2) * 2) (by omega)).trans y4
      have hx5 := (hr.cellAt ((l.length + 2) * 2 + 1) (by omega)).trans y5
      have gs : w.heap.size < wr.heap.size := (hr.lt w.heap.size rfl).2
      have hrl : ∀ wx, Below w.heap.size w wx → RowAt wx (.slice a0 l.length c0) l.length 2 (pfCells l) := fun wx hb => RowAt.later hr0 hb
      clear hr y0 y1 y2 y3 y4 y5
      have hA := announce_outer s (.slice (some ⟨w.heap.size, 0, none⟩) l.length (l.length + 3)) l (some ⟨w.heap.size, 0, none⟩) (l.length + 3) wr hs hl rfl (hrow wr (Below.refl _ _))
      have hB := fun wx hb => announceRef_any s (.slice a0 l.length c0) l a0 c0 wx hs hl rfl (hrl wx hb)
      have hS := fun wx hb hb2 => sameP_any (.slice (some ⟨w.heap.size, 0, none⟩) l.length (l.length + 3)) (.slice a0 l.length c0) l (some ⟨w.heap.size, 0, none⟩) a0 (l.length + 3) c0 wx (by omega) rfl rfl (hrow wx hb) (hrl wx hb2)
      clear hrow hrl
      generalize (⟨(annM s l).toArray⟩ : ByteArray) = M at *
      generalize annE s l = E at *
      go_wp2_with fail
      refine hA.mono ?_
      rintro e w4 ⟨rfl, hb4⟩
      have b4 := later_below hbel hb4 hbel.size
      go_wp2_with fail
      refine (hB w4 b4).mono ?_
      rintro e w5 ⟨rfl, hb5⟩
      have b5 := later_below b4 hb5 b4.size
      have d5 := later_below hb4 hb5 hb4.size
      go_wp2_with fail
      refine (hS w5 d5 b5).mono ?_
      rintro e w6 ⟨rfl, hb6⟩
      have b6 := later_below b5 hb6 b5.size
      have d6 := later_below d5 hb6 d5.size
      have z0 := (d6.cell (p := ⟨w.heap.size, l.length * 2, none⟩) gs).trans hx0
      have z1 := (d6.cell (p := ⟨w.heap.size, l.length * 2 + 1, none⟩) gs).trans hx1
      have z2 := (d6.cell (p := ⟨w.heap.size, (l.length + 1) * 2, none⟩) gs).trans hx2
      have z3 := (d6.cell (p := ⟨w.heap.size, (l.length + 1) * 2 + 1, none⟩) gs).trans hx3
      have z4 := (d6.cell (p := ⟨w.heap.size, (l.length + 2) * 2, none⟩) gs).trans hx4
      have z5 := (d6.cell (p := ⟨w.heap.size, (l.length + 2) * 2 + 1, none⟩) gs).trans hx5
      have z6 := (d6.cell (p := ⟨w2.heap.size, 0, none⟩) ms).trans m0
      have z7 := (d6.cell (p := ⟨w2.heap.size, 1, none⟩) ms).trans m1
      clear hA hB hS hb4 hb5 hb6 b4 b5 d5 hx0 hx1 hx2 hx3 hx4 hx5 m0 m1
      go_wp2
      go_quiet (fail)
      go_wp2
      go_ret
      exact ⟨rfl, below_drewN b6 _⟩

end Go.Proofs.Ytikigkkkggclhaa
