/-
  The books of lists that came out: a list more; are all still as they were?
-/
import Derived.Test.YthcnkbeognkjgaaGreatDoorGmBooks
import Derived.Deep.RegionHeld
import Derived.Deep.RegionHeld3
namespace Go.Proofs.YthcnkbeognkjgaaGreatDoor
open Go.RowKit
namespace Rl

/-- THE BOOKS WITH THE LIST THAT IS LEFT AS IT CAME: K its texts; s how many lists have come. -/
structure Books (w : World) (ow : Nat → Nat) (G : Nat) (cs : Nat → Value) (s : Nat) : Prop where
  ex : ∃ (n came : Nat) (ts : List (Nat × Value)) (K : List ByteArray), BooksI w ow G n came cs ts ∧ RowC w ow 9 1 (cs 6) K.length (nms K) 5 ∧ RowC w ow 9 1 (cs 7) K.length (nms K) 6 ∧ n ≤ 2 * s ∧ came ≤ s ∧ ts.length ≤ 8 * s ∧ K.length ≤ 4194304

theorem Books.frame {T : Nat → Prop} {w w' : World} {ow ow' : Nat → Nat} {G s : Nat} {cs : Nat → Value} (h : Books w ow G cs s) (hf : Fr T w ow w' ow') (hT : ∀ c, c = 1 ∨ c = 4 ∨ c = 5 ∨ c = 6 ∨ c = 7 ∨ c = 8 → ¬ T c) : Books w' ow' G cs s := by
  obtain ⟨n, came, ts, K, h1, h2, h3, h4⟩ := h.ex
  exact ⟨n, came, ts, K, h1.frame hf (fun c hc => hT c (by omega)), h2.frame hf (hT 5 (by omega)), h3.frame hf (hT 6 (by omega)), h4⟩
theorem BooksI.store {w : World} {ow : Nat → Nat} {G n came came' : Nat} {cs : Nat → Value} {ts : List (Nat × Value)} (h : BooksI w ow G n came cs ts) {j : Nat} (hj : j < 16) (v : Value) (h2 : upd cs j v 2 = .int .i64 (came' : Int)) (h3 : upd cs j v 3 = .bool false) (hn : j = 0 ∨ j = 2 ∨ j = 3 ∨ j = 6 ∨ j = 7) :
    BooksI (w.setCell ⟨G, j, none⟩ v) ow G n came' (upd cs j v) ts ∧ Fr (fun i => i = 1) w ow (w.setCell ⟨G, j, none⟩ v) ow := by
  have hf := fr_set w ow ⟨G, j, none⟩ v (c := 1) h.blk.own
  obtain ⟨n4, n5, n8, n9, n10, n11, n14, n15⟩ := h.nils
  refine ⟨⟨h.blk.set hj v, ?_, h2, h3, ⟨?_, ?_, ?_, ?_, ?_, ?_, ?_, ?_⟩, ?_, ?_, fun x hx => (h.full x hx).frame hf (by decide)⟩, hf⟩
  · rw [upd_other _ _ (by omega)]; exact h.c1
  · rw [upd_other _ _ (by omega)]; exact n4
  · rw [upd_other _ _ (by omega)]; exact n5
  · rw [upd_other _ _ (by omega)]; exact n8
  · rw [upd_other _ _ (by omega)]; exact n9
  · rw [upd_other _ _ (by omega)]; exact n10
  · rw [upd_other _ _ (by omega)]; exact n11
  · rw [upd_other _ _ (by omega)]; exact n14
  · rw [upd_other _ _ (by omega)]; exact n15
  · rw [upd_other _ _ (by omega)]; exact h.trow.frame hf (by decide)
  · rw [upd_other _ _ (by omega)]; exact h.nrow.frame hf (by decide)

theorem BooksI.put {w : World} {ow : Nat → Nat} {G n came : Nat} {cs : Nat → Value} {ts : List (Nat × Value)} (h : BooksI w ow G n came cs ts) {j : Nat} (v : Value) (hn : j = 0 ∨ j = 6 ∨ j = 7) :
    BooksI (w.setCell ⟨G, j, none⟩ v) ow G n came (upd cs j v) ts ∧ Fr (fun i => i = 1) w ow (w.setCell ⟨G, j, none⟩ v) ow :=
  h.store (by omega) v (by rw [upd_other _ _ (by omega)]; exact h.c2) (by rw [upd_other _ _ (by omega)]; exact h.c3) (by omega)

theorem BooksI.fine {w : World} {ow : Nat → Nat} {G n came : Nat} {cs : Nat → Value} {ts : List (Nat × Value)} (h : BooksI w ow G n came cs ts) :
    BooksI (w.setCell ⟨G, 3, none⟩ (.bool false)) ow G n came (upd cs 3 (.bool false)) ts ∧ Fr (fun i => i = 1) w ow (w.setCell ⟨G, 3, none⟩ (.bool false)) ow :=
  h.store (by omega) _ (by rw [upd_other _ _ (by omega)]; exact h.c2) (upd_same _ _ _) (by omega)

theorem BooksI.comes {w : World} {ow : Nat → Nat} {G n came : Nat} {cs : Nat → Value} {ts : List (Nat × Value)} (h : BooksI w ow G n came cs ts) (c : Nat) :
    BooksI (w.setCell ⟨G, 2, none⟩ (.int .i64 (c : Int))) ow G n c (upd cs 2 (.int .i64 (c : Int))) ts ∧ Fr (fun i => i = 1) w ow (w.setCell ⟨G, 2, none⟩ (.int .i64 (c : Int))) ow :=
  h.store (by omega) _ (upd_same _ _ _) (by rw [upd_other _ _ (by omega)]; exact h.c3) (by omega)

/-- the books' cells written behind the looks at a list: fine; nothing left; one more has come. -/
theorem texts_sets {w : World} {ow : Nat → Nat} {G n came : Nat} {cs : Nat → Value} {ts : List (Nat × Value)} (h : BooksI w ow G n came cs ts) (C : Nat) :
    ∃ cs', BooksI ((((w.setCell ⟨G, 3, none⟩ (.bool false)).setCell ⟨G, 6, none⟩ (.slice none 0 0)).setCell ⟨G, 7, none⟩ (.slice none 0 0)).setCell ⟨G, 2, none⟩ (.int .i64 (C : Int))) ow G n C cs' ts ∧
      Fr (fun i => i = 1) w ow ((((w.setCell ⟨G, 3, none⟩ (.bool false)).setCell ⟨G, 6, none⟩ (.slice none 0 0)).setCell ⟨G, 7, none⟩ (.slice none 0 0)).setCell ⟨G, 2, none⟩ (.int .i64 (C : Int))) ow ∧ cs' 0 = cs 0 ∧ cs' 6 = .slice none 0 0 ∧ cs' 7 = .slice none 0 0 := by
  obtain ⟨h1, f1⟩ := h.fine
  obtain ⟨h2, f2⟩ := h1.put (j := 6) (.slice none 0 0) (by omega)
  obtain ⟨h3, f3⟩ := h2.put (j := 7) (.slice none 0 0) (by omega)
  obtain ⟨h4, f4⟩ := h3.comes C
  refine ⟨_, h4, ((f1.trans f2 (fun _ x => x)).trans f3 (fun _ x => x)).trans f4 (fun _ x => x), ?_, ?_, ?_⟩
  · rw [upd_other _ _ (by omega), upd_other _ _ (by omega), upd_other _ _ (by omega), upd_other _ _ (by omega)]
  · rw [upd_other _ _ (by omega), upd_other _ _ (by omega), upd_same]
  · rw [upd_other _ _ (by omega), upd_same]

/-- a list is left as it came, what it was beside it. -/
theorem texts_left {w : World} {ow : Nat → Nat} {G n C s : Nat} {cs : Nat → Value} {ts : List (Nat × Value)} {lv wv : Value} {l : List ByteArray} (h : BooksI w ow G n C cs ts) (hl : RowC w ow 9 1 lv l.length (nms l) 9) (hw : RowC w ow 9 1 wv l.length (nms l) 10) (hn : n ≤ 2 * (s + 1)) (hC : C ≤ s + 1) (ht : ts.length ≤ 8 * (s + 1)) (hll : l.length ≤ 4194304) :
    ∃ ow' cs', Books ((w.setCell ⟨G, 6, none⟩ lv).setCell ⟨G, 7, none⟩ wv) ow' G cs' (s + 1) ∧ cs' 0 = cs 0 ∧ Fr (fun c => c = 1 ∨ c = 9 ∨ c = 10) w ow ((w.setCell ⟨G, 6, none⟩ lv).setCell ⟨G, 7, none⟩ wv) ow' := by
  obtain ⟨h1, f1⟩ := h.put (j := 6) lv (by omega)
  obtain ⟨h2, f2⟩ := h1.put (j := 7) wv (by omega)
  have f12 := f1.trans f2 (fun _ x => x)
  have l2 := hl.frame f12 (by omega)
  have w2 := hw.frame f12 (by omega)
  have r1 := Fr.recode (fun c => c = 9) ((w.setCell ⟨G, 6, none⟩ lv).setCell ⟨G, 7, none⟩ wv) ow 9 5 rfl
  have r2 := Fr.recode (fun c => c = 10) ((w.setCell ⟨G, 6, none⟩ lv).setCell ⟨G, 7, none⟩ wv) (recode ow 9 5) 10 6 rfl
  have l3 := (l2.recode 5).frame r2 (by omega)
  have w3 := (w2.frame r1 (by omega)).recode 6
  refine ⟨_, _, ⟨n, C, ts, l, (h2.frame r1 (by intro c hc hx; omega)).frame r2 (by intro c hc hx; omega), ?_, ?_, hn, hC, ht, hll⟩, ?_, (f12.mono (fun _ x => .inl x)).trans ((r1.mono (fun _ x => .inr (.inl x))).trans (r2.mono (fun _ x => .inr (.inr x))) (fun _ x => x)) (fun _ x => x)⟩
  · rw [upd_other _ _ (by omega), upd_same]; exact l3
  · rw [upd_same]; exact w3
  · rw [upd_other _ _ (by omega), upd_other _ _ (by omega)]

theorem keep67 {wc wx w3 : World} {G : Nat} {u v : Value} (hG : G < wc.heap.size) (h : wx.cell? ⟨G, 6, none⟩ = some u ∧ wx.cell? ⟨G, 7, none⟩ = some v ∧ Below wc.heap.size wc wx) (hb : Below wx.heap.size wx w3) :
    w3.cell? ⟨G, 6, none⟩ = some u ∧ w3.cell? ⟨G, 7, none⟩ = some v ∧ Below wc.heap.size wc w3 := by
  obtain ⟨h1, h2, h3⟩ := h
  have hl : G < wx.heap.size := Nat.lt_of_lt_of_le hG h3.size
  exact ⟨(hb.cell (p := ⟨G, 6, none⟩) hl).trans h1, (hb.cell (p := ⟨G, 7, none⟩) hl).trans h2, later_below h3 hb h3.size⟩

theorem nms_ones (l : List ByteArray) : ∀ u ∈ nms l, u.oneCell' = true := by
  intro u hu
  obtain ⟨s, _, rfl⟩ := List.mem_map.1 hu
  rfl
end Rl
open Rl

set_option maxRecDepth 20000 in
set_option maxHeartbeats 1000000 in
theorem texts_any (w : World) (ow : Nat → Nat) (G s : Nat) (cs : Nat → Value) (lv : Value) (l : List ByteArray) (h : Books w ow G cs s) (hl : RowC w ow 9 1 lv l.length (nms l) 9) (hll : l.length ≤ 4194304) (hs : s ≤ 2097151) :
    Calls Tryz.prog 20 #[.pointer (some ⟨G, 1, none⟩), lv] w fun e w' => e = .returned (.tuple #[]) ∧
      ∃ ow' cs', Books w' ow' G cs' (s + 1) ∧ cs' 0 = cs 0 ∧ Fr (fun c => c = 1 ∨ c = 4 ∨ c = 5 ∨ c = 6 ∨ c = 7 ∨ c = 8 ∨ c = 9 ∨ c = 10) w ow w' ow' := by
  obtain ⟨n, came, ts, K, hB, hK, hW, hn, hc, hts, hKl⟩ := h.ex
  obtain ⟨i0, hi, hz0, hz1, hz2⟩ := info_parts info_strT
  clear h
  obtain ⟨la, lc, rfl⟩ := slice_owned hl.row
  have HB := hide hB
  have HK := hide hK
  have HW := hide hW
  have HR := hide hl
  clear hB hK hW
  go_enter Tryz.func20, Tryz.ntmps20
  go_upto_region 1 with fail
  go_cut [4] (fun wv wx => ∃ ow1, RowC wx ow1 9 1 wv l.length (nms l) 10 ∧ Fr (fun c => c = 10) w ow wx ow1)
  case first =>
    rcases hl.row.2 with ⟨e, h0⟩ | ⟨g, cap, cur, e, _⟩
    · have e0 : l = [] := List.eq_nil_of_length_eq_zero h0
      subst e0
      cases e
      go_wp2_with fail
      go_meet
      case rel => exact ⟨ow, RowC.nil _ _ _ _ _, Fr.refl _ _ _⟩
    · cases e
      have lrow := fun j u hj => hl.row.cells (g := g) rfl j u hj
      clear hl
      go_wp2_with (at_builtin; refine wpList_append_own _ rfl _ _ 28 rfl w.heap.size 9 i0 (.string ⟨#[]⟩) 1 16 Tryz.underlying28 hi hz0 hz1 hz2 rfl (by decide) _ _ _ rfl (World.ownsRow_nil _ _ _ _) ⟨g, 0, none⟩ l.length lc (nms l) rfl (by rw [nms_length, Nat.mul_one]) lrow (nms_ones l) (by unfold maxLen; omega) (by omega) (Nat.le_refl _) ?_; intro v5 w5 hown5 hgrow5 _)
      go_meet
      case rel => exact ⟨_, RowC.fresh ow (by rw [Nat.zero_add, List.nil_append] at hown5; exact hown5) 10, Fr.ofBelow ow ((Below.refl _ _).grown hgrow5 (Nat.le_refl _) (fun k hk => by cases hk)) _ 10⟩
  case rest =>
    obtain ⟨ow1, hw1, f1⟩ := hcut
    obtain ⟨wa, wb, rfl⟩ := slice_owned hw1.row
    have B1 := HB.out.frame f1 (by intro c hc hx; omega)
    have K1 := HK.out.frame f1 (by decide)
    have W1 := HW.out.frame f1 (by decide)
    have R1 := HR.out.frame f1 (by decide)
    obtain ⟨ka, kc, ek⟩ := slice_owned K1.row
    obtain ⟨va, vc, ev⟩ := slice_owned W1.row
    have c6 := B1.blk.cells 6 (by omega)
    have c7 := B1.blk.cells 7 (by omega)
    rw [ek] at c6 K1
    rw [ev] at c7 W1
    have hG := B1.blk.lt
    have HB1 := hide B1
    have HK1 := hide K1
    have HR1 := hide R1
    have HW1 := hide hw1
    have HF1 := hide f1
    have HEK := hide ek
    have HEV := hide ev
    have HS1 := hide (fun wx (hb : Below wc.heap.size wc wx) => sameT_any _ _ K wx (by omega) ((rowAt_of_owns K1.row).later hb) ((rowAt_of_owns W1.row).later hb))
    clear B1 K1 W1 R1 hw1 f1 ek ev HB HK HW HR hl
    go_wp2_with fail
    go_region_held (fun w' => w'.cell? ⟨G, 6, none⟩ = some (.slice ka K.length kc) ∧ w'.cell? ⟨G, 7, none⟩ = some (.slice va K.length vc) ∧ Below wc.heap.size wc w') (first | assumption | (exact ⟨c6, c7, (Below.refl _ _).drew⟩) | (exact keep67 hG (by assumption) (by assumption))) (first | (go_at_call 19; refine (HS1.out _ (by first | exact (Below.refl _ _).drew | exact (by assumption : _ ∧ _ ∧ Below _ _ _).2.2)).mono ?_; rintro e w3 ⟨rfl, hb3⟩))
    rename_i hHeld
    have f3 := Fr.ofBelow ow1 hHeld.2.2 (fun _ => False) 0
    obtain ⟨ow3, how3⟩ : ∃ ow3, ow3 = ext wc ow1 0 := ⟨_, rfl⟩
    rw [← how3] at f3
    have B3 := HB1.out.frame f3 (fun _ _ x => x)
    have K3 := HK1.out.frame f3 (fun x => x)
    have R3 := HR1.out.frame f3 (fun x => x)
    have W3 := HW1.out.frame f3 (fun x => x)
    have F3 := HF1.out.trans (f3.mono (fun _ x => x.elim)) (fun _ x => x)
    have y6 : w3.cell? ⟨G, 6, none⟩ = some (.slice ka K.length kc) := hHeld.1
    have hll2 : l.length ≤ 1073741824 := by omega
    have HMT := hide (fun wx (e : wx = w3) => e ▸ markT_any w3 ow3 G n came cs ts _ K B3 K3 (by omega) hKl (by omega))
    have HR3 := hide R3
    have HW3 := hide W3
    have HF3 := hide F3
    have HB3 := hide B3
    clear f3 how3 B3 K3 R3 W3 F3 hHeld hb3 c6 c7 HB1 HK1 HR1 HW1 HF1 HS1
    go_upto_region 5 with (first
      | (go_at_call 57; refine (HMT.out _ rfl).mono ?_; rintro e w4 ⟨rfl, ow4, cs4, us, B4, hul, h40, h46, h47, F4⟩; have R4 := HR3.out.frame F4 (by omega); have W4 := HW3.out.frame F4 (by omega))
      | (go_at_call 19; refine (sameT_any _ _ l w4 hll2 (rowAt_of_owns R4.row) (rowAt_of_owns W4.row)).mono ?_; rintro e w5 ⟨rfl, hb5⟩; have f5 := Fr.ofBelow ow4 hb5 (fun _ => False) 0; have B5 := B4.frame f5 (fun _ _ x => x); have R5 := R4.frame f5 (fun x => x); have W5 := W4.frame f5 (fun x => x); have z2 := B5.blk.cells 2 (by omega); have z3 := B5.blk.cells 3 (by omega); have z6 := B5.blk.cells 6 (by omega); have z7 := B5.blk.cells 7 (by omega); rw [B5.c2] at z2; rw [B5.c3] at z3; have x2 := B5.blk.fz 2 (by omega); have x3 := B5.blk.fz 3 (by omega); have x6 := B5.blk.fz 6 (by omega); have x7 := B5.blk.fz 7 (by omega)))
    obtain ⟨C, hC⟩ : ∃ C, C = came + 1 := ⟨_, rfl⟩
    have hplus : (came : Int) + 1 = (C : Int) := by omega
    have hwr : IntKind.i64.wrap ((came : Int) + 1) = (C : Int) := by rw [IntKind.wrap_i64]; omega
    have F5 := (HF3.out.mono (fun c (x : c = 10) => (Or.inr x : (c = 1 ∨ c = 4 ∨ c = 5 ∨ c = 7 ∨ c = 8 ∨ c = 9) ∨ c = 10))).trans ((F4.mono (fun c x => (Or.inl (by omega) : (c = 1 ∨ c = 4 ∨ c = 5 ∨ c = 7 ∨ c = 8 ∨ c = 9) ∨ c = 10))).trans (f5.mono (fun _ x => x.elim)) (fun _ x => x)) (fun _ x => x)
    have h40' := h40
    generalize ext w4 ow4 0 = ow5 at *
    have hts5 : (ts ++ us).length ≤ 8 * s + 4 := by rw [List.length_append]; omega
    generalize ts ++ us = TS at *
    obtain ⟨cs9, B9, f9, e0, e6, e7⟩ := texts_sets B5 C
    have R9 := R5.frame f9 (by omega)
    have W9 := W5.frame f9 (by omega)
    have F9 := F5.trans (f9.mono (fun c (x : c = 1) => (Or.inl (Or.inl x) : (c = 1 ∨ c = 4 ∨ c = 5 ∨ c = 7 ∨ c = 8 ∨ c = 9) ∨ c = 10))) (fun _ x => x)
    have HB9 := hide B9
    have HR9 := hide R9
    have HW9 := hide W9
    have HF9 := hide F9
    have i6 := B9.blk.cells 6 (by omega)
    have i7 := B9.blk.cells 7 (by omega)
    have j6 := B9.blk.fz 6 (by omega)
    have j7 := B9.blk.fz 7 (by omega)
    clear B9 R9 W9 F9 f9 F5 f5 F4 B4 R4 W4 R5 W5 B5 hb5 HMT HR3 HW3 HF3 HB3 y6 h40' h46 h47 hul hi hz0 hz1 hz2
    have HC : Hid (C ≤ s + 1) := by unfold Hid; omega
    clear hC
    by_cases hpar : C % 2 = 0
    · have he : (((C : Int) % 2) == 0) = true := by rw [beq_iff_eq]; omega
      have he2 : (C : Int) % 2 = 0 := by omega
      go_upto_region 10 with fail
      clear he he2 hplus hwr z2 z3 z6 z7 x2 x3 x6 x7 i6 i7 j6 j7
      generalize (((w5.setCell ⟨G, 3, none⟩ (.bool false)).setCell ⟨G, 6, none⟩ (.slice none 0 0)).setCell ⟨G, 7, none⟩ (.slice none 0 0)).setCell ⟨G, 2, none⟩ (.int .i64 (C : Int)) = W9 at *
      have r10 := Fr.recode (fun c => c = 9) W9 ow5 9 5 rfl
      have B10 := HB9.out.frame r10 (by intro c hc hx; omega)
      have R10 := HR9.out.recode 5
      have HMT2 := hide (fun wx (e : wx = W9) => e ▸ markT_any W9 _ G (n + 1) C cs9 TS _ l B10 R10 (by omega) hll (by omega))
      have HR10 := hide r10
      clear r10 B10 R10
      go_wp2_with (go_at_call 57; refine (HMT2.out _ rfl).mono ?_; rintro e w11 ⟨rfl, ow11, cs11, us2, B11, hul2, h0, h6, h7, F11⟩)
      (try simp only [Exit.inBlock, Exit.then]); refine bodyPost_end (results_none rfl _ _ _) rfl ?_
      refine ⟨rfl, ow11, cs11, ⟨n + 1 + 1, C, TS ++ us2, [], B11, ?_, ?_, by omega, HC.out, by rw [List.length_append]; omega, by simp⟩, by rw [h0, e0, h40], (HF9.out.mono ?_).trans ((HR10.out.mono ?_).trans (F11.mono ?_) (fun _ x => x)) (fun _ x => x)⟩
      · rw [h6, e6]; exact RowC.nil _ _ _ _ _
      · rw [h7, e7]; exact RowC.nil _ _ _ _ _
      all_goals (intro i hi; omega)
    · have he : (((C : Int) % 2) == 0) = false := by rw [beq_eq_false_iff_ne]; omega
      have he2 : ¬ (C : Int) % 2 = 0 := by omega
      go_wp2_with fail
      obtain ⟨ow12, cs12, B12, e12, F12⟩ := texts_left HB9.out HR9.out HW9.out (s := s) (by omega) HC.out (by omega) hll
      refine bodyPost_end (results_none rfl _ _ _) rfl ?_
      refine ⟨rfl, ow12, cs12, B12, by rw [e12, e0, h40], (HF9.out.mono ?_).trans (F12.mono ?_) (fun _ x => x)⟩
      all_goals (intro i hi; omega)

end Go.Proofs.YthcnkbeognkjgaaGreatDoor
