/-
  routeloglaw.filled, walked: a list written full with a mark, and three longer ones.
-/
import Derived.Test.YtamngkbmhepciaaFillMath
import Derived.Deep.CutBlock
import Derived.Deep.CutRange
namespace Go.Proofs.Ytamngkbmhepciaa
open Go.RowKit
open Rl

theorem info_slices : (Try.prog.info? 26).map (fun i => (i.zero, i.size, i.bytes)) = some (some (.slice none 0 0), 1, 24) := by kernel_rfl

theorem pf_set : ∀ (l : List (Int × Int)) (k : Nat) (p : Int × Int), ((pfCells l).set (k * 2) (.int .i64 p.1)).set (k * 2 + 1) (.int .i64 p.2) = pfCells (l.set k p) := by
  intro l; induction l with
  | nil => intro k p; simp [pfCells]
  | cons a l ih =>
    intro k p
    have e : pfCells (a :: l) = .int .i64 a.1 :: .int .i64 a.2 :: pfCells l := rfl
    cases k with
    | zero => simp [pfCells]
    | succ k =>
      rw [e, show (k + 1) * 2 = k * 2 + 1 + 1 from by omega]
      simp only [List.set_cons_succ]
      rw [ih k p]
      rfl

/-- both cells of an element written. -/
theorem stored_two {w : World} {B g n cap : Nat} {e : TypeId} {l : List (Int × Int)} (h : w.ownsRow B e 2 (.slice (some ⟨g, 0, none⟩) n cap) n (pfCells l)) (k : Nat) (p : Int × Int) :
    ((w.setCell ⟨g, k * 2, none⟩ (.int .i64 p.1)).setCell ⟨g, k * 2 + 1, none⟩ (.int .i64 p.2)).ownsRow B e 2 (.slice (some ⟨g, 0, none⟩) n cap) n (pfCells (l.set k p)) := by
  have h2 := ((h.stored (k * 2) (.int .i64 p.1)).1.stored (k * 2 + 1) (.int .i64 p.2)).1
  rwa [pf_set] at h2

/-- between the appends of 'filled': the list, the slices that have been put aside, and where all that lies. -/
structure FillMid (w wr : World) (B : Nat) (v0 : Value) (n : Int) (m k c : Nat) (lv av : Value) (vs : List Value) : Prop where
  row : wr.ownsRow B 36 2 lv (m + k) (pfCells (marksN n (m + k)))
  all : wr.ownsRow w.heap.size 26 1 av c vs
  full : ∀ u ∈ vs, FullS wr n (m + k) u
  place : ∀ u, (u ∈ vs ∨ u = lv) → ∀ j, u.ownBlock = some j → v0.ownBlock = some j ∨ w.heap.size ≤ j
  apart : ∀ u, (u ∈ vs ∨ u = lv) → ∀ j, u.ownBlock = some j → j < wr.heap.size ∧ av.ownBlock ≠ some j
  box0 : wr.cell? ⟨w.heap.size, 0, none⟩ = some (.int .i64 (-n))
  box1 : wr.cell? ⟨w.heap.size, 1, none⟩ = some (.int .i64 n)
  boxlt : w.heap.size < wr.heap.size
  boxl : lv.ownBlock ≠ some w.heap.size
  boxa : av.ownBlock ≠ some w.heap.size
  grown : w.grownBy wr v0.ownBlock

theorem fl_two (p q : Int) : ∀ u ∈ [Value.int .i64 p, Value.int .i64 q], u.oneCell' = true := by
  intro u hu; simp at hu; rcases hu with rfl | rfl <;> rfl
theorem fl_one (a : Option Addr) (n c : Nat) : ∀ u ∈ [Value.slice a n c], u.oneCell' = true := by
  intro u hu; simp at hu; subst hu; rfl

theorem FullS.alloc {w : World} {n : Int} {M : Nat} {u : Value} (h : FullS w n M u) (o : Obj) : FullS (w.alloc o) n M u :=
  h.block (fun k _ hk => Below.heap_alloc w o k hk) (by simp)

theorem fill_start {w wc : World} {B : Nat} {v0 : Value} {n : Int} {m : Nat} (hr : wc.ownsRow B 36 2 v0 m (pfCells (marksN n m))) (m0 : wc.cell? ⟨w.heap.size, 0, none⟩ = some (.int .i64 (-n))) (m1 : wc.cell? ⟨w.heap.size, 1, none⟩ = some (.int .i64 n)) (ms : w.heap.size < wc.heap.size) (hgw : w.grownBy wc v0.ownBlock) (hb : v0.ownBlock ≠ some w.heap.size) {xs : List Value} {c : Nat} (_h : w.ownsRow B 36 2 v0 c xs) :
    FillMid w (wc.alloc (.cells #[v0] 26)) B v0 n m 0 1 v0 (.slice (some ⟨wc.heap.size, 0, none⟩) 1 1) [v0] := by
  have hlt := hr.lt
  refine ⟨hr.alloc _, World.ownsRow_lit wc #[v0] 1 (Nat.le_of_lt ms) (by unfold maxLen; omega) rfl, ?_, ?_, ?_, ?_, ?_, by simp; omega, hb, ?_, ?_⟩
  · intro u hu
    simp at hu; subst hu
    exact (FullS.of_owns hr).alloc _
  · intro u hu j hj
    have e : u = v0 := by simpa using hu
    subst e; exact .inl hj
  · intro u hu j hj
    have e : u = v0 := by simpa using hu
    subst e
    have := (hlt j hj).2
    refine ⟨by simp; omega, ?_⟩
    simp [Value.ownBlock]; omega
  · rw [World.cell?_of_block (Below.heap_alloc wc _ w.heap.size ms)]; exact m0
  · rw [World.cell?_of_block (Below.heap_alloc wc _ w.heap.size ms)]; exact m1
  · simp [Value.ownBlock]; omega
  · exact grown_trans hgw (World.grownBy_alloc wc _ none) (fun j hj => by simp at hj)

theorem fill_row {w wr w6 : World} {B : Nat} {v0 lv lv' av : Value} {n : Int} {m k c : Nat} {vs : List Value} {o : Obj} (h : FillMid w wr B v0 n m k c lv av vs) (hrow : w6.ownsRow B 36 2 lv' (m + k + 1) (pfCells (marksN n (m + k + 1)))) (hg : (wr.alloc o).grownBy w6 lv.ownBlock) (hl : Laid (wr.alloc o) w6 lv lv') :
    FillMid w w6 B v0 n m (k + 1) c lv' av vs := by
  have hsz : wr.heap.size < w6.heap.size := Nat.lt_of_lt_of_le (by simp) hg.size
  have hlv := h.row.lt
  have hav := h.all.lt
  have hrl := hrow.lt
  refine ⟨hrow, (h.all.alloc o).kept hg ?_, ?_, ?_, ?_, ?_, ?_, Nat.lt_trans h.boxlt hsz, ?_, h.boxa, ?_⟩
  · cases e : av.ownBlock with
    | none => exact .inl rfl
    | some j => right; intro e2; exact (h.apart lv (.inr rfl) j e2.symm).2 e
  · intro u hu
    exact ((h.full u hu).alloc o).laid hrow hg hl
  · intro u hu j hj
    rcases hu with hu | rfl
    · exact h.place u (.inl hu) j hj
    · rcases hl with e | ⟨⟨j2, e, hj2⟩, _⟩
      · exact h.place lv (.inr rfl) j (e ▸ hj)
      · rw [e] at hj; injection hj with hj; subst hj
        right; have := h.boxlt; simp at hj2; omega
  · intro u hu j hj
    rcases hu with hu | rfl
    · obtain ⟨q1, q2⟩ := h.apart u (.inl hu) j hj
      exact ⟨by omega, q2⟩
    · refine ⟨(hrl j hj).2, ?_⟩
      rcases hl with e | ⟨⟨j2, e, hj2⟩, _⟩
      · exact (h.apart lv (.inr rfl) j (e ▸ hj)).2
      · rw [e] at hj; injection hj with hj; subst hj
        intro e2; have := (hav _ e2).2; simp at hj2; omega
  · exact grown_cell hg h.box0 (fun e => h.boxl e.symm)
  · exact grown_cell hg h.box1 (fun e => h.boxl e.symm)
  · exact laid_ne hl h.boxl (by have := h.boxlt; simp; omega)
  · exact grown_trans (grown_trans h.grown (World.grownBy_alloc wr o none) (fun j hj => by simp at hj)) hg (fun j hj => h.place lv (.inr rfl) j hj)

theorem fill_all {w wr w7 : World} {B : Nat} {v0 lv av av' : Value} {n : Int} {m k c : Nat} {vs : List Value} {o : Obj} (h : FillMid w wr B v0 n m k c lv av vs) (hall : w7.ownsRow w.heap.size 26 1 av' (c + 1) (vs ++ [lv])) (hg : (wr.alloc o).grownBy w7 av.ownBlock) (hl : Laid (wr.alloc o) w7 av av') :
    FillMid w w7 B v0 n m k (c + 1) lv av' (vs ++ [lv]) := by
  have hsz : wr.heap.size < w7.heap.size := Nat.lt_of_lt_of_le (by simp) hg.size
  have hav := h.all.lt
  have hmem : ∀ u, (u ∈ vs ++ [lv] ∨ u = lv) → (u ∈ vs ∨ u = lv) := by
    intro u hu; simpa using hu
  have hrow : w7.ownsRow B 36 2 lv (m + k) (pfCells (marksN n (m + k))) := by
    refine (h.row.alloc o).kept hg ?_
    cases e : lv.ownBlock with
    | none => exact .inl rfl
    | some j => right; intro e2; exact (h.apart lv (.inr rfl) j e).2 e2.symm
  refine ⟨hrow, hall, ?_, fun u hu => h.place u (hmem u hu), ?_, ?_, ?_, Nat.lt_trans h.boxlt hsz, h.boxl, ?_, ?_⟩
  · intro u hu
    rcases List.mem_append.1 hu with hu | hu
    · refine ((h.full u hu).alloc o).block (fun j hj hlt => hg.block j hlt ?_) hg.size
      intro e; exact (h.apart u (.inl hu) j hj).2 e.symm
    · simp at hu; subst hu; exact FullS.of_owns hrow
  · intro u hu j hj
    obtain ⟨q1, q2⟩ := h.apart u (hmem u hu) j hj
    exact ⟨by omega, laid_ne hl q2 (by simp; omega)⟩
  · exact grown_cell hg h.box0 (fun e => h.boxa e.symm)
  · exact grown_cell hg h.box1 (fun e => h.boxa e.symm)
  · exact laid_ne hl h.boxa (by have := h.boxlt; simp; omega)
  · exact grown_trans (grown_trans h.grown (World.grownBy_alloc wr o none) (fun j hj => by simp at hj)) hg (fun j hj => .inr (hav j hj).1)

/-- what 'filled' answers: four slices, all of them full of the mark; where they lie. -/
def FilledAns (w w' : World) (v : Value) (n : Int) (M : Nat) (e : Ending) : Prop :=
  ∃ av vs, e = .returned av ∧ w'.ownsRow w.heap.size 26 1 av 4 vs ∧ (∀ u ∈ vs, FullS w' n M u) ∧ (∀ u ∈ vs, ∀ j, u.ownBlock = some j → v.ownBlock = some j ∨ w.heap.size ≤ j) ∧ w.grownBy w' v.ownBlock

set_option maxRecDepth 20000 in
set_option maxHeartbeats 4000000 in
theorem filled_any (B : Nat) (v : Value) (l : List (Int × Int)) (n : Int) (w : World) (hn : 1 ≤ n ∧ n ≤ 9) (hB : B ≤ w.heap.size) (hl : l.length ≤ 1048576) (hown : w.ownsRow B 36 2 v l.length (pfCells l)) :
    Calls Try.prog 14 #[v, .int .i64 n] w fun e w' => FilledAns w w' v n (l.length + 3) e := by
  obtain ⟨i0, hi, hz0, hz1, hz2⟩ := info_parts info_pfx
  obtain ⟨i1, hj, hy0, hy1, hy2⟩ := info_parts info_slices
  obtain ⟨a0, c0, rfl⟩ := slice_of_owns hown
  have hng : wrap64 (-n) = -n := wrap64_in' _ (by omega) (by omega)
  go_enter Try.func14, Try.ntmps14
  go_upto_block 0 with fail
  go_cut [6] from 13 to 22 (fun _ wx => wx.ownsRow B 36 2 (.slice a0 l.length c0) l.length (pfCells (marksN n l.length)) ∧ wx.cell? ⟨w.heap.size, 0, none⟩ = some (.int .i64 (-n)) ∧ wx.cell? ⟨w.heap.size, 1, none⟩ = some (.int .i64 n) ∧ w.heap.size < wx.heap.size ∧ w.grownBy wx (Value.slice a0 l.length c0).ownBlock)
  case first =>
    go_wp2_with fail
    go_loopw [6] (fun i wr => ∃ k : Nat, k ≤ l.length ∧ i = .int .i64 k ∧ wr.ownsRow B 36 2 (.slice a0 l.length c0) l.length (pfCells (marksN n k ++ l.drop k)) ∧ wr.cell? ⟨w.heap.size, 0, none⟩ = some (.int .i64 (-n)) ∧ wr.cell? ⟨w.heap.size, 1, none⟩ = some (.int .i64 n) ∧ w.heap.size < wr.heap.size ∧ w.grownBy wr (Value.slice a0 l.length c0).ownBlock) (fun i _ => l.length - (intOf i).toNat)
    case atStart => exact ⟨0, Nat.zero_le _, rfl, by simpa [marksN] using hown.alloc _, by simp, by simp, by simp, World.grownBy_alloc _ _ _⟩
    case round =>
      obtain ⟨k, hk, rfl, hr, m0, m1, ms, hgw⟩ := hrel
      by_cases hlt : k < l.length
      · rcases hr.2 with ⟨_, e0⟩ | ⟨g, cap, cur, e1, hgB, _⟩
        · omega
        · cases e1
          have hgw0 := (hown.lt g rfl).2
          have hlen : (marksN n k ++ l.drop k).length = l.length := by unfold marksN; simp; omega
          obtain ⟨g1, g2⟩ := pfCells_get (marksN n k ++ l.drop k) k (by omega)
          obtain ⟨p, q1⟩ : ∃ p, wr.cell? ⟨g, k * 2, none⟩ = some (.int .i64 p) := ⟨_, (hr.cellAt (k * 2) (by omega)).trans g1⟩
          obtain ⟨q, q2⟩ : ∃ q, wr.cell? ⟨g, k * 2 + 1, none⟩ = some (.int .i64 q) := ⟨_, (hr.cellAt (k * 2 + 1) (by omega)).trans g2⟩
          have f1 := hr.frozenAt (k * 2)
          have f2 := hr.frozenAt (k * 2 + 1)
          have H := hide (stored_two hr k (-n, n))
          have HS := hide (fill_set n l k hlt)
          have hgne : g ≠ w.heap.size := by omega
          have HGW := hide hgw
          have HR := hide hr
          clear hr g1 g2 hlen hgw hown
          go_wp2
          have n0 : (⟨g, k * 2, none⟩ : Addr) ≠ ⟨w.heap.size, 0, none⟩ := by intro e; injection e; omega
          have n1 : (⟨g, k * 2 + 1, none⟩ : Addr) ≠ ⟨w.heap.size, 0, none⟩ := by intro e; injection e; omega
          have n2 : (⟨g, k * 2, none⟩ : Addr) ≠ ⟨w.heap.size, 1, none⟩ := by intro e; injection e; omega
          have n3 : (⟨g, k * 2 + 1, none⟩ : Addr) ≠ ⟨w.heap.size, 1, none⟩ := by intro e; injection e; omega
          refine ⟨⟨k + 1, by omega, by go_num, by rw [← HS.out]; exact H.out, ?_, ?_, by simp; exact ms, grown_trans (grown_trans HGW.out (grown_set _ g _ _) (fun j hj => .inl hj)) (grown_set _ g _ _) (fun j hj => .inl hj)⟩, by simp [intOf]; omega⟩
          · rw [World.cell?_setCell_other _ _ _ _ n1, World.cell?_setCell_other _ _ _ _ n0, m0]
          · rw [World.cell?_setCell_other _ _ _ _ n3, World.cell?_setCell_other _ _ _ _ n2, m1]
      · have hk2 : k = l.length := by omega
        subst hk2
        rw [List.drop_length, List.append_nil] at hr
        go_wp2_with fail
        go_meet
        case rel => exact ⟨hr, m0, m1, ms, hgw⟩
  case rest =>
    obtain ⟨hr, m0, m1, ms, hgw⟩ := hcut
    have h0 := fill_start hr m0 m1 ms hgw (fun e => by have := (hown.lt _ e).2; omega) hown
    clear hr m0 m1 ms hgw
    go_wp2_with fail
    go_loopw [0, 7, 8] (fun x y i wr => ∃ (k : Nat) (lv av : Value) (vs : List Value), lv = x ∧ av = y ∧ k ≤ 3 ∧ i = .int .i64 k ∧ FillMid w wr B (.slice a0 l.length c0) n l.length k (k + 1) lv av vs) (fun _ _ i _ => 3 - (intOf i).toNat)
    case atStart => exact ⟨0, _, _, _, rfl, rfl, by omega, rfl, h0⟩
    case round =>
      obtain ⟨k, lv, av, vs, rfl, rfl, hk, rfl, h⟩ := hrel
      by_cases hlt : k < 3
      · obtain ⟨la, lc, rfl⟩ := slice_of_owns h.row
        have m0 := h.box0
        have m1 := h.box1
        have H := hide h
        have hrow := h.row
        have hall := h.all
        have hbw : B ≤ wr.heap.size := Nat.le_trans hB (Nat.le_of_lt h.boxlt)
        have hbw2 : w.heap.size ≤ wr.heap.size := Nat.le_of_lt h.boxlt
        clear h h0
        go_wp2_with (first | (at_builtin; refine wpList_append_laid _ rfl _ _ 26 rfl B 36 i0 (.agg #[.int .i64 0, .int .i64 0]) 2 16 Try.underlying26 hi hz0 hz1 hz2 rfl (by decide) _ _ _ rfl (hrow.alloc _) ⟨wr.heap.size, 0, none⟩ 1 1 [.int .i64 (-n), .int .i64 n] rfl rfl (cells_new _ _ _) (fl_two _ _) (by unfold maxLen; omega) (by omega) (Nat.le_trans hbw (by simp)) ?_; intro v6 w6 hown6 hgrow6 hlaid6; rw [← marksN_snoc] at hown6; have H6 := hide (fill_row H.out hown6 hgrow6 hlaid6); obtain ⟨la6, lc6, rfl⟩ := slice_of_owns hown6; have hall6 := H6.out.all; have hs6 : w.heap.size ≤ w6.heap.size := Nat.le_of_lt H6.out.boxlt; clear hrow hall hown6 hgrow6 hlaid6 m0 m1) | (at_builtin; refine wpList_append_laid _ rfl _ _ 32 rfl w.heap.size 26 i1 (.slice none 0 0) 1 24 Try.underlying32 hj hy0 hy1 hy2 rfl (by decide) _ _ _ rfl (hall6.alloc _) ⟨w6.heap.size, 0, none⟩ 1 1 [.slice la6 (l.length + k + 1) lc6] rfl rfl (cells_new _ _ _) (fl_one _ _ _) (by unfold maxLen; omega) (by omega) (Nat.le_trans hs6 (by simp)) ?_; intro v7 w7 hown7 hgrow7 hlaid7; have H7 := hide (fill_all H6.out hown7 hgrow7 hlaid7)))
        exact ⟨⟨k + 1, _, v7, _, rfl, rfl, by omega, by go_num, H7.out⟩, by simp [intOf]; omega⟩
      · have hk3 : k = 3 := by omega
        subst hk3
        clear h0
        go_wp2
        go_ret
        exact ⟨av, vs, rfl, h.all, h.full, fun u hu j hj => h.place u (.inl hu) j hj, h.grown⟩


theorem mk_two (n : Int) (j : Nat) : mk n (j * 2) = .int .i64 (-n) ∧ mk n (j * 2 + 1) = .int .i64 n := by
  unfold mk
  rw [if_pos (by omega), if_neg (by omega)]
  exact ⟨rfl, rfl⟩

set_option maxRecDepth 20000 in
set_option maxHeartbeats 4000000 in
theorem full_any (av : Value) (vs : List Value) (n : Int) (M : Nat) (w : World) (hn : 1 ≤ n ∧ n ≤ 9) (hM : M ≤ 2097152) (hv : vs.length = 4) (hr : RowAt w av 4 1 vs) (hf : ∀ u ∈ vs, FullS w n M u) :
    Calls Try.prog 15 #[av, .int .i64 n] w fun e w' => e = .returned (.bool true) ∧ Below w.heap.size w w' := by
  have hng : wrap64 (-n) = -n := wrap64_in' _ (by omega) (by omega)
  obtain ⟨_, hr⟩ := hr
  rcases hr with ⟨a, c, _, h0⟩ | ⟨b, o, cap, rfl, _, hb, hc⟩
  · omega
  · go_enter Try.func15, Try.ntmps15
    go_wp2
    go_loopw [6] (fun i wr => ∃ k : Nat, k ≤ 4 ∧ i = .int .i64 k ∧ wr.cell? ⟨w.heap.size, 0, none⟩ = some (.int .i64 (-n)) ∧ wr.cell? ⟨w.heap.size, 1, none⟩ = some (.int .i64 n) ∧ w.heap.size < wr.heap.size ∧ Below w.heap.size w wr) (fun i _ => 4 - (intOf i).toNat)
    case atStart => exact ⟨0, by omega, rfl, by simp, by simp, by simp, (Below.refl _ _).alloc (Nat.le_refl _) _⟩
    case round =>
      obtain ⟨k, hk, rfl, m0, m1, ms, hbel⟩ := hrel
      by_cases hlt : k < 4
      · have hku : k < vs.length := by omega
        obtain ⟨ua, len, uc, eu, hlen, hcells⟩ := hf vs[k] (List.getElem_mem hku)
        have cu := (hbel.cell (p := ⟨b, o + k, none⟩) hb).trans (hc k _ (List.getElem?_eq_getElem hku))
        rw [eu] at cu
        have hcu := fun wy (hby : Below w.heap.size w wy) => (hby.cell (p := ⟨b, o + k, none⟩) hb).trans (hc k _ (List.getElem?_eq_getElem hku))
        rw [eu] at hcu
        clear hf hc eu hku hv
        go_wp2
        go_loopw [7] (fun j wy => ∃ q : Nat, q ≤ len ∧ j = .int .i64 q ∧ wy.cell? ⟨w.heap.size, 0, none⟩ = some (.int .i64 (-n)) ∧ wy.cell? ⟨w.heap.size, 1, none⟩ = some (.int .i64 n) ∧ w.heap.size < wy.heap.size ∧ Below w.heap.size w wy) (fun j _ => len - (intOf j).toNat)
        case atStart => exact ⟨0, Nat.zero_le _, rfl, m0, m1, ms, hbel⟩
        case round =>
          obtain ⟨q, hq, rfl, p0, p1, ps, hbel2⟩ := hrel
          have cu2 := hcu _ hbel2
          by_cases hlq : q < len
          · rcases hcells with h0 | ⟨ub, rfl, hub, hcs⟩
            · omega
            · have d1 := (hbel2.cell (p := ⟨ub, q * 2, none⟩) hub).trans (hcs (q * 2) (by omega))
              have d2 := (hbel2.cell (p := ⟨ub, q * 2 + 1, none⟩) hub).trans (hcs (q * 2 + 1) (by omega))
              rw [(mk_two n q).1] at d1
              rw [(mk_two n q).2] at d2
              have hqi : (q : Int) < (len : Int) := by omega
              have hki : (k : Int) < 4 := by omega
              clear hcs hcu m0 m1 ms hbel cu
              go_wp2
              go_quiet (fail)
              go_wp2
              exact ⟨⟨q + 1, by omega, by go_num, p0, p1, ps, below_drewN hbel2 _⟩, by simp [intOf]; omega⟩
          · have hq2 : q = len := by omega
            subst hq2
            clear hcells hcu
            go_wp2
            exact ⟨⟨k + 1, by omega, by go_num, p0, p1, ps, hbel2⟩, by simp [intOf]; omega⟩
      · clear hf hc
        go_wp2
        go_ret
        exact ⟨rfl, hbel⟩

end Go.Proofs.Ytamngkbmhepciaa
