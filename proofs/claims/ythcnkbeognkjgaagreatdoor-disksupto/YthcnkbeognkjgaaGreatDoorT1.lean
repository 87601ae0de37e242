/-
  The law's steps that look at a disk, walked.
-/
import Derived.Test.YthcnkbeognkjgaaGreatDoorGmWrites
import Derived.Test.YthcnkbeognkjgaaGreatDoorGmTexts
import Derived.Deep.RegionHeld
import Derived.Deep.RegionHeld3
import Derived.Test.YthcnkbeognkjgaaGreatDoorGmWorld
import Derived.Laws.CopyOwn
import Derived.Deep.DeepCutAuto
import Derived.Deep.CutBlock
import Derived.Deep.QuietTactic
import Derived.BigQuiet
namespace Go.Proofs.YthcnkbeognkjgaaGreatDoor
open Go.RowKit
open Rl

namespace Rl
theorem keep3c {wc wx w3 : World} {p q r : Addr} {u v t : Value} (hp : p.block < wc.heap.size) (hq : q.block < wc.heap.size) (hr : r.block < wc.heap.size) (h : wx.cell? p = some u ∧ wx.cell? q = some v ∧ wx.cell? r = some t ∧ Below wc.heap.size wc wx) (hb : Below wx.heap.size wx w3) :
    w3.cell? p = some u ∧ w3.cell? q = some v ∧ w3.cell? r = some t ∧ Below wc.heap.size wc w3 := by
  obtain ⟨h1, h2, h4, h3⟩ := h
  exact ⟨(hb.cell (p := p) (Nat.lt_of_lt_of_le hp h3.size)).trans h1, (hb.cell (p := q) (Nat.lt_of_lt_of_le hq h3.size)).trans h2, (hb.cell (p := r) (Nat.lt_of_lt_of_le hr h3.size)).trans h4, later_below h3 hb h3.size⟩

/-- what the two Reads, the two Useds, answer. -/
theorem bothRead {i a b : Nat} {xv dv : Value} {om : Option DiskM} (h : FineO om a b) (ha : a ≤ 4194304) (S : ByteArray) (hs : S.size ≤ 2097152) :
    ∃ (T : ByteArray) (E : Int), ∀ w1 ow1, Disks2 w1 ow1 i xv dv om → ∀ w2, Below w1.heap.size w1 w2 →
      Calls Tryz.prog 41 #[xv, .string S] w2 (fun e w' => e = .returned (.tuple #[.string T, .int .i64 E]) ∧ Below w2.heap.size w2 w') ∧
      Calls Tryz.prog 42 #[dv, .string S] w2 (fun e w' => e = .returned (.tuple #[.string T, .int .i64 E]) ∧ Below w2.heap.size w2 w') := by
  cases om with
  | none =>
    refine ⟨⟨#[]⟩, 1, fun w1 ow1 hd w2 _ => ?_⟩
    obtain ⟨rfl, rfl⟩ := hd
    exact ⟨n_read S w2, refRead_none S w2⟩
  | some m =>
    have hfm := h m rfl
    refine ⟨readS m S, readE m S, fun w1 ow1 hd w2 hb => ?_⟩
    obtain ⟨q, p, fv, rfl, rfl, hp, hr⟩ := hd
    exact ⟨p_read w2 _ q m (hp.later hb) S hs, refRead_any w2 _ p fv m (hr.later hb) (Nat.le_trans hfm.files ha) S hs⟩

theorem bothUsed {i a b : Nat} {xv dv : Value} {om : Option DiskM} (h : FineO om a b) (ha : a ≤ 4194304) (hb : b ≤ 4194304) :
    ∃ (T E : Int), ∀ w1 ow1, Disks2 w1 ow1 i xv dv om → ∀ w2, Below w1.heap.size w1 w2 →
      Calls Tryz.prog 45 #[xv] w2 (fun e w' => e = .returned (.tuple #[.int .i64 T, .int .i64 E]) ∧ Below w2.heap.size w2 w') ∧
      Calls Tryz.prog 46 #[dv] w2 (fun e w' => e = .returned (.tuple #[.int .i64 T, .int .i64 E]) ∧ Below w2.heap.size w2 w') := by
  cases om with
  | none =>
    refine ⟨0, 1, fun w1 ow1 hd w2 _ => ?_⟩
    obtain ⟨rfl, rfl⟩ := hd
    exact ⟨n_used w2, refUsed_none w2⟩
  | some m =>
    have hfm := h m rfl
    refine ⟨(usedF m.files : Int), 0, fun w1 ow1 hd w2 hb2 => ?_⟩
    obtain ⟨q, p, fv, rfl, rfl, hp, hr⟩ := hd
    exact ⟨p_used w2 _ q m (hp.later hb2) (Nat.le_trans hfm.bytes hb), refUsedM_any w2 _ p fv m (hr.later hb2) (Nat.le_trans hfm.bytes hb) (Nat.le_trans hfm.files ha)⟩

theorem bothList {i a b : Nat} {xv dv : Value} {om : Option DiskM} (h : FineO om a b) (ha : a ≤ 4194304) :
    ∃ (l : List ByteArray) (E : Int), l.length ≤ a ∧ ∀ w1 ow1, Disks2 w1 ow1 i xv dv om → ∀ w2, Below w1.heap.size w1 w2 →
      Calls Tryz.prog 43 #[xv] w2 (fun e w' => ∃ v, e = .returned (.tuple #[v, .int .i64 E]) ∧ w'.ownsRow w2.heap.size 9 1 v l.length (nms l) ∧ Below w2.heap.size w2 w') ∧
      Calls Tryz.prog 44 #[dv] w2 (fun e w' => ∃ v, e = .returned (.tuple #[v, .int .i64 E]) ∧ w'.ownsRow w2.heap.size 9 1 v l.length (nms l) ∧ Below w2.heap.size w2 w') := by
  cases om with
  | none =>
    refine ⟨[], 1, by simp, fun w1 ow1 hd w2 _ => ?_⟩
    obtain ⟨rfl, rfl⟩ := hd
    exact ⟨(n_list w2).mono (fun e w' ⟨he, hb⟩ => ⟨_, he, World.ownsRow_nil _ _ _ _, hb⟩), (refList_none w2).mono (fun e w' ⟨he, hb⟩ => ⟨_, he, World.ownsRow_nil _ _ _ _, hb⟩)⟩
  | some m =>
    have hfm := h m rfl
    refine ⟨m.files.map fun f => f.name, 0, by rw [List.length_map]; exact hfm.files, fun w1 ow1 hd w2 hb2 => ?_⟩
    obtain ⟨q, p, fv, rfl, rfl, hp, hr⟩ := hd
    rw [List.length_map]
    exact ⟨p_list w2 _ q m (hp.later hb2) (Nat.le_trans hfm.files ha), refList_any w2 _ p fv m (hr.later hb2) (Nat.le_trans hfm.files ha)⟩
end Rl

set_option maxRecDepth 20000 in
set_option maxHeartbeats 1000000 in
theorem looksRead (w : World) (ow : Nat → Nat) (i B G a b : Nat) (xv dv : Value) (om : Option DiskM) (W A C : Int) (S T : ByteArray) (la : Option Addr) (ln lc : Nat) (h : WorldC w ow i B xv dv om) (hf : FineO om a b) (ha : a ≤ 4194304) (hs : S.size ≤ 2097152) :
    Calls Tryz.prog 12 #[.pointer (some ⟨G, 0, none⟩), .pointer (some ⟨B, 0, none⟩), opV 9 W A C S T la ln lc] w fun e w' => e = .returned (.bool true) ∧ Below w.heap.size w w' := by
  obtain ⟨T1, E, hc⟩ := bothRead (i := i) (xv := xv) (dv := dv) hf ha S hs
  have hc1 := fun w2 (hb : Below w.heap.size w w2) => (hc w ow h.disks w2 hb)
  have bx := bx7_new w (.int .i64 9) (.int .i64 W) (.int .i64 A) (.int .i64 C) (.string S) (.string T) (.slice la ln lc) 39
  have hb0 := (Below.refl w.heap.size w).alloc (Nat.le_refl _) (.cells #[.int .i64 9, .int .i64 W, .int .i64 A, .int .i64 C, .string S, .string T, .slice la ln lc] 39)
  have x0 := (hb0.cell (p := ⟨B, 0, none⟩) h.lt).trans h.c0
  have x1 := (hb0.cell (p := ⟨B, 1, none⟩) h.lt).trans h.c1
  have hl0 : B < (w.alloc (.cells #[.int .i64 9, .int .i64 W, .int .i64 A, .int .i64 C, .string S, .string T, .slice la ln lc] 39)).heap.size := Nat.lt_of_lt_of_le h.lt hb0.size
  have HC := hide hc1
  have HB0 := hide hb0
  obtain ⟨b0, b1, b2, b3, b4, b5, b6, bl⟩ := bx
  have hz0 := hb0.size
  clear h hc hc1 hb0
  unfold opV
  go_enter Tryz.func12, Tryz.ntmps12
  go_upto_region 3 with fail
  generalize w.alloc (.cells #[.int .i64 9, .int .i64 W, .int .i64 A, .int .i64 C, .string S, .string T, .slice la ln lc] 39) = w0 at *
  clear b0 b1 b2 b3 b5 b6
  go_region_held (fun w' => w'.cell? ⟨B, 0, none⟩ = some xv ∧ w'.cell? ⟨B, 1, none⟩ = some dv ∧ w'.cell? ⟨w.heap.size, 4, none⟩ = some (.string S) ∧ Below w0.heap.size w0 w') (first | assumption | (exact ⟨x0, x1, b4, (Below.refl _ _).drew⟩) | (exact keep3c hl0 hl0 bl (by assumption) (by assumption))) (first | (go_at_call 41; refine ((HC.out _ (later_below HB0.out (by first | exact (Below.refl _ _).drew | exact (by assumption : _ ∧ _ ∧ _ ∧ Below _ _ _).2.2.2) hz0)).1).mono ?_; rintro e w1 ⟨rfl, hb1⟩))
  rename_i hHeld
  obtain ⟨y0, y1, y4, hb01⟩ := hHeld
  clear x0 x1 b4 hb1
  have hl1 : B < w1.heap.size := Nat.lt_of_lt_of_le hl0 hb01.size
  have bl1 : w.heap.size < w1.heap.size := Nat.lt_of_lt_of_le bl hb01.size
  go_wp2_with fail
  go_region_held (fun w' => w'.cell? ⟨B, 0, none⟩ = some xv ∧ w'.cell? ⟨B, 1, none⟩ = some dv ∧ w'.cell? ⟨w.heap.size, 4, none⟩ = some (.string S) ∧ Below w1.heap.size w1 w') (first | assumption | (exact ⟨y0, y1, y4, (Below.refl _ _).drew⟩) | (exact keep3c hl1 hl1 bl1 (by assumption) (by assumption))) (first | (go_at_call 42; refine ((HC.out _ (later_below HB0.out (later_below hb01 (by first | exact (Below.refl _ _).drew | exact (by assumption : _ ∧ _ ∧ _ ∧ Below _ _ _).2.2.2) hb01.size) hz0)).2).mono ?_; rintro e w2 ⟨rfl, hb2⟩))
  rename_i hHeld2
  have hb12 := hHeld2.2.2.2
  clear hHeld2 hb2
  go_wp2_with fail
  go_ret
  exact ⟨by first | rfl | simp, later_below HB0.out (later_below hb01 hb12 hb01.size) hz0⟩

set_option maxRecDepth 20000 in
set_option maxHeartbeats 1000000 in
theorem looksUsed (w : World) (ow : Nat → Nat) (i B G a b : Nat) (xv dv : Value) (om : Option DiskM) (W A C : Int) (S T : ByteArray) (la : Option Addr) (ln lc : Nat) (h : WorldC w ow i B xv dv om) (hf : FineO om a b) (ha : a ≤ 4194304) (hb : b ≤ 4194304) :
    Calls Tryz.prog 12 #[.pointer (some ⟨G, 0, none⟩), .pointer (some ⟨B, 0, none⟩), opV 11 W A C S T la ln lc] w fun e w' => e = .returned (.bool true) ∧ Below w.heap.size w w' := by
  obtain ⟨T1, E, hc⟩ := bothUsed (i := i) (xv := xv) (dv := dv) hf ha hb
  have hc1 := fun w2 (hb : Below w.heap.size w w2) => (hc w ow h.disks w2 hb)
  have bx := bx7_new w (.int .i64 11) (.int .i64 W) (.int .i64 A) (.int .i64 C) (.string S) (.string T) (.slice la ln lc) 39
  have hb0 := (Below.refl w.heap.size w).alloc (Nat.le_refl _) (.cells #[.int .i64 11, .int .i64 W, .int .i64 A, .int .i64 C, .string S, .string T, .slice la ln lc] 39)
  have x0 := (hb0.cell (p := ⟨B, 0, none⟩) h.lt).trans h.c0
  have x1 := (hb0.cell (p := ⟨B, 1, none⟩) h.lt).trans h.c1
  have hl0 : B < (w.alloc (.cells #[.int .i64 11, .int .i64 W, .int .i64 A, .int .i64 C, .string S, .string T, .slice la ln lc] 39)).heap.size := Nat.lt_of_lt_of_le h.lt hb0.size
  have HC := hide hc1
  have HB0 := hide hb0
  obtain ⟨b0, b1, b2, b3, b4, b5, b6, bl⟩ := bx
  have hz0 := hb0.size
  clear h hc hc1 hb0
  unfold opV
  go_enter Tryz.func12, Tryz.ntmps12
  go_upto_region 12 with fail
  generalize w.alloc (.cells #[.int .i64 11, .int .i64 W, .int .i64 A, .int .i64 C, .string S, .string T, .slice la ln lc] 39) = w0 at *
  clear b0 b1 b2 b3 b4 b5 b6
  go_wp2_with (first
    | (go_at_call 45; refine ((HC.out _ HB0.out).1).mono ?_; rintro e w1 ⟨rfl, hb1⟩; have y1 := (hb1.cell (p := ⟨B, 1, none⟩) hl0).trans x1; have hb01 := later_below HB0.out hb1 hz0)
    | (go_at_call 46; refine ((HC.out _ hb01).2).mono ?_; rintro e w2 ⟨rfl, hb2⟩))
  go_ret
  exact ⟨by first | rfl | simp, later_below hb01 hb2 hb01.size⟩

set_option maxRecDepth 20000 in
set_option maxHeartbeats 1000000 in
theorem looksList (w : World) (ow : Nat → Nat) (i B G a b : Nat) (xv dv : Value) (om : Option DiskM) (W A C : Int) (S T : ByteArray) (la : Option Addr) (ln lc : Nat) (h : WorldC w ow i B xv dv om) (hf : FineO om a b) (ha : a ≤ 4194304) (s : Nat) (cs : Nat → Value) (hB : Books w ow G cs s) (hs : s ≤ 2097151) :
    Calls Tryz.prog 12 #[.pointer (some ⟨G, 0, none⟩), .pointer (some ⟨B, 0, none⟩), opV 10 W A C S T la ln lc] w fun e w' => e = .returned (.bool true) ∧ ∃ ow' cs', Books w' ow' G cs' (s + 1) ∧ cs' 0 = cs 0 ∧ Fr (fun c => c = 1 ∨ c = 4 ∨ c = 5 ∨ c = 6 ∨ c = 7 ∨ c = 8 ∨ c = 9 ∨ c = 10) w ow w' ow' := by
  obtain ⟨l, E, hll, hc⟩ := bothList (i := i) (xv := xv) (dv := dv) hf ha
  have hc1 := fun w2 (hb : Below w.heap.size w w2) => (hc w ow h.disks w2 hb)
  have bx := bx7_new w (.int .i64 10) (.int .i64 W) (.int .i64 A) (.int .i64 C) (.string S) (.string T) (.slice la ln lc) 39
  have hb0 := (Below.refl w.heap.size w).alloc (Nat.le_refl _) (.cells #[.int .i64 10, .int .i64 W, .int .i64 A, .int .i64 C, .string S, .string T, .slice la ln lc] 39)
  have x0 := (hb0.cell (p := ⟨B, 0, none⟩) h.lt).trans h.c0
  have x1 := (hb0.cell (p := ⟨B, 1, none⟩) h.lt).trans h.c1
  have hl0 : B < (w.alloc (.cells #[.int .i64 10, .int .i64 W, .int .i64 A, .int .i64 C, .string S, .string T, .slice la ln lc] 39)).heap.size := Nat.lt_of_lt_of_le h.lt hb0.size
  have HC := hide hc1
  have HB0 := hide hb0
  have HBK := hide hB
  obtain ⟨b0, b1, b2, b3, b4, b5, b6, bl⟩ := bx
  have hz0 := hb0.size
  have hG : G < w.heap.size := by obtain ⟨_, _, _, _, h1, _⟩ := hB.ex; exact h1.blk.lt
  have hl1073 : l.length ≤ 1073741824 := by omega
  clear h hc hc1 hb0 hB
  unfold opV
  go_enter Tryz.func12, Tryz.ntmps12
  go_upto_region 7 with fail
  generalize w.alloc (.cells #[.int .i64 10, .int .i64 W, .int .i64 A, .int .i64 C, .string S, .string T, .slice la ln lc] 39) = w0 at *
  clear b0 b1 b2 b3 b4 b5 b6 bl
  go_upto_region 9 with (first
    | (go_at_call 43; refine ((HC.out _ HB0.out).1).mono ?_; rintro e w1 ⟨v1, rfl, ho1, hb1⟩; have y1 := (hb1.cell (p := ⟨B, 1, none⟩) hl0).trans x1; have hb01 := later_below HB0.out hb1 hz0)
    | (go_at_call 44; refine ((HC.out _ hb01).2).mono ?_; rintro e w2 ⟨v2, rfl, ho2, hb2⟩))
  have f1 := Fr.ofBelow ow hb01 (fun _ => False) 9
  have hcd : ∀ k, w1.heap.size ≤ k → ext w1 (ext w ow 9) 12 k = 12 := fun k hk => by unfold ext; rw [if_neg (by omega)]
  have r1 : RowC w1 (ext w ow 9) 9 1 v1 l.length (nms l) 9 := ⟨⟨ho1.1, ho1.2.imp id (fun ⟨g, cap, cur, e, hb, r⟩ => ⟨g, cap, cur, e, Nat.zero_le _, r⟩)⟩, fun k hk => by unfold ext; rw [if_neg (by have := (ho1.lt k hk).1; omega)]⟩
  have f2 := Fr.ofBelow (ext w ow 9) hb2 (fun _ => False) 12
  have r2 := r1.frame f2 (fun x => x)
  have rr2 : RowAt w2 v2 l.length 1 (nms l) := rowAt_of_owns ho2
  have HK2 := hide ((HBK.out.frame f1 (fun _ _ x => x)).frame f2 (fun _ _ x => x))
  have HR2 := hide r2
  have HRR := hide rr2
  have HF := hide (f1.trans f2 (fun _ x => x))
  obtain ⟨va, vc, rfl⟩ := slice_owned r2.row
  obtain ⟨ua, uc, rfl⟩ := slice_owned ho2
  clear f1 hcd r1 f2 r2 rr2 ho1 ho2 hb1 hb2 hb01 y1 x0 x1
  generalize ext w1 (ext w ow 9) 12 = ow2 at *
  go_wp2_with (first
    | (go_at_call 19; refine (sameT_any _ _ l w2 hl1073 (rowAt_of_owns HR2.out.row) HRR.out).mono ?_; rintro e w3 ⟨rfl, hb3⟩; have f3 := Fr.ofBelow ow2 hb3 (fun _ => False) 0; have K3 := HK2.out.frame f3 (fun _ _ x => x); have R3 := HR2.out.frame f3 (fun x => x))
    | (go_at_call 20; refine (texts_any w3 _ G s cs _ l K3 R3 (by omega) hs).mono ?_; rintro e w4 ⟨rfl, ow4, cs4, K4, e4, f4⟩))
  go_ret
  refine ⟨by first | rfl | simp, ow4, cs4, K4, e4, ((HF.out.mono ?_).trans (f3.mono ?_) (fun _ x => x)).trans f4 (fun _ x => x)⟩
  · intro c hc; exact hc.elim
  · intro c hc; exact hc.elim

end Go.Proofs.YthcnkbeognkjgaaGreatDoor
/-
  The calls of a step that writes: both sides answer the same error, and leave the same data.
-/
namespace Go.Proofs.YthcnkbeognkjgaaGreatDoor
open Go.RowKit
open Rl

theorem bothAppend {i a b : Nat} {xv dv : Value} {om : Option DiskM} (h : FineO om a b) (ha : a ≤ 4194304) (hb : b ≤ 4194304) (S T : ByteArray) (hs : S.size ≤ 2097152) (ht : T.size ≤ 4194304) :
    ∃ om' E, (∀ w1 ow1, Disks2 w1 ow1 i xv dv om → Both 27 28 [.string S, .string T] w1 ow1 i xv dv om' E) ∧ FineO om' (a + 1) (b + T.size) := by
  cases om with
  | none =>
    refine ⟨none, 1, fun w1 ow1 hd => ?_, fun m hm => by cases hm⟩
    obtain ⟨rfl, rfl⟩ := hd
    exact ⟨(n_append S T w1).mono (fun e w' ⟨he, hb⟩ => ⟨he, _, Fr.ofBelow ow1 hb _ 0, fun m hm => by cases hm⟩), fun w' ow' hf => (refAppend_none S T _).mono (fun e w'' ⟨he, hb⟩ => ⟨he, _, Fr.ofBelow ow' hb _ 0, fun m hm => by cases hm⟩), fun _ => ⟨rfl, rfl⟩⟩
  | some m =>
    have hfm := h m rfl
    have hl : m.files.length ≤ 4194304 := Nat.le_trans hfm.files ha
    have hu : usedF m.files ≤ 4194304 := Nat.le_trans hfm.bytes hb
    refine ⟨some (changeM m [S] (apE m T) (apM m S T)), changeE m [S] (apE m T), fun w1 ow1 hd => ?_, fun m' hm => by cases hm; exact fine_change _ _ hfm (fine_append S T hfm) (by omega) (by omega)⟩
    obtain ⟨q, p, fv, rfl, rfl, hp, hr⟩ := hd
    refine ⟨(p_append w1 _ q m hp hl hu hfm.left0 hfm.left1 hfm.room0 hfm.room1 S T hs ht).mono (fun e w' ⟨he, hb⟩ => ?_), fun w' ow' hf => (refAppend_any _ _ p fv m (hr.frame hf (by omega)) hl hu hfm.left1 S hs T hfm.room0 hfm.room1 ht).mono (fun e w'' ⟨he, hb⟩ => ?_), fun hm => by cases hm⟩
    · obtain ⟨ow', h1, h2⟩ := p_step hb
      exact ⟨he, ow', h2, fun m' hm => by cases hm; exact ⟨q, rfl, h1⟩⟩
    · obtain ⟨ow'', fv', h1, h2⟩ := r_step hb
      exact ⟨he, ow'', h2, fun m' hm => by cases hm; exact ⟨p, fv', rfl, h1⟩⟩

theorem bothSync {i a b : Nat} {xv dv : Value} {om : Option DiskM} (h : FineO om a b) (ha : a ≤ 4194304) (hb : b ≤ 4194304) (S : ByteArray) (hs : S.size ≤ 2097152) :
    ∃ om' E, (∀ w1 ow1, Disks2 w1 ow1 i xv dv om → Both 29 30 [.string S] w1 ow1 i xv dv om' E) ∧ FineO om' (a + 1) b := by
  cases om with
  | none =>
    refine ⟨none, 1, fun w1 ow1 hd => ?_, fun m hm => by cases hm⟩
    obtain ⟨rfl, rfl⟩ := hd
    exact ⟨(n_sync S w1).mono (fun e w' ⟨he, hb⟩ => ⟨he, _, Fr.ofBelow ow1 hb _ 0, fun m hm => by cases hm⟩), fun w' ow' hf => (refSync_none S _).mono (fun e w'' ⟨he, hb⟩ => ⟨he, _, Fr.ofBelow ow' hb _ 0, fun m hm => by cases hm⟩), fun _ => ⟨rfl, rfl⟩⟩
  | some m =>
    have hfm := h m rfl
    have hl : m.files.length ≤ 4194304 := Nat.le_trans hfm.files ha
    have hu : usedF m.files ≤ 4194304 := Nat.le_trans hfm.bytes hb
    refine ⟨some (changeM m [S] (fileE m S 0) (fileM m S (syncM m S))), changeE m [S] (fileE m S 0), fun w1 ow1 hd => ?_, fun m' hm => by cases hm; exact fine_change _ _ hfm (fine_file S hfm (fine_sync S hfm) (by omega) (by omega)) (by omega) (by omega)⟩
    obtain ⟨q, p, fv, rfl, rfl, hp, hr⟩ := hd
    refine ⟨(p_sync w1 _ q m hp hl hu hfm.left0 hfm.left1 S hs).mono (fun e w' ⟨he, hb⟩ => ?_), fun w' ow' hf => (refSync_any _ _ p fv m (hr.frame hf (by omega)) hl hu hfm.left1 S hs).mono (fun e w'' ⟨he, hb⟩ => ?_), fun hm => by cases hm⟩
    · obtain ⟨ow', h1, h2⟩ := p_step hb
      exact ⟨he, ow', h2, fun m' hm => by cases hm; exact ⟨q, rfl, h1⟩⟩
    · obtain ⟨ow'', fv', h1, h2⟩ := r_step hb
      exact ⟨he, ow'', h2, fun m' hm => by cases hm; exact ⟨p, fv', rfl, h1⟩⟩

theorem bothRename {i a b : Nat} {xv dv : Value} {om : Option DiskM} (h : FineO om a b) (ha : a ≤ 4194304) (hb : b ≤ 4194304) (S T : ByteArray) (hs : S.size ≤ 2097152) (ht : T.size ≤ 2097152) :
    ∃ om' E, (∀ w1 ow1, Disks2 w1 ow1 i xv dv om → Both 31 32 [.string S, .string T] w1 ow1 i xv dv om' E) ∧ FineO om' (a + 1) b := by
  cases om with
  | none =>
    refine ⟨none, 1, fun w1 ow1 hd => ?_, fun m hm => by cases hm⟩
    obtain ⟨rfl, rfl⟩ := hd
    exact ⟨(n_rename S T w1).mono (fun e w' ⟨he, hb⟩ => ⟨he, _, Fr.ofBelow ow1 hb _ 0, fun m hm => by cases hm⟩), fun w' ow' hf => (refRename_none S T _).mono (fun e w'' ⟨he, hb⟩ => ⟨he, _, Fr.ofBelow ow' hb _ 0, fun m hm => by cases hm⟩), fun _ => ⟨rfl, rfl⟩⟩
  | some m =>
    have hfm := h m rfl
    have hl : m.files.length ≤ 4194304 := Nat.le_trans hfm.files ha
    have hu : usedF m.files ≤ 4194304 := Nat.le_trans hfm.bytes hb
    refine ⟨some (changeM m [T, S] (fileE m S 0) (fileM m S (renameM m S T))), changeE m [T, S] (fileE m S 0), fun w1 ow1 hd => ?_, fun m' hm => by cases hm; exact fine_change _ _ hfm (fine_file S hfm (fine_rename S T hfm) (by omega) (by omega)) (by omega) (by omega)⟩
    obtain ⟨q, p, fv, rfl, rfl, hp, hr⟩ := hd
    refine ⟨(p_rename w1 _ q m hp hl hu hfm.left0 hfm.left1 S T hs ht).mono (fun e w' ⟨he, hb⟩ => ?_), fun w' ow' hf => (refRename_any _ _ p fv m (hr.frame hf (by omega)) hp.ord hl hfm.left1 S T hs ht).mono (fun e w'' ⟨he, hb⟩ => ?_), fun hm => by cases hm⟩
    · obtain ⟨ow', h1, h2⟩ := p_step hb
      exact ⟨he, ow', h2, fun m' hm => by cases hm; exact ⟨q, rfl, h1⟩⟩
    · obtain ⟨ow'', fv', h1, h2⟩ := r_step hb
      exact ⟨he, ow'', h2, fun m' hm => by cases hm; exact ⟨p, fv', rfl, h1⟩⟩

theorem bothDelete {i a b : Nat} {xv dv : Value} {om : Option DiskM} (h : FineO om a b) (ha : a ≤ 4194304) (hb : b ≤ 4194304) (S : ByteArray) (hs : S.size ≤ 2097152) :
    ∃ om' E, (∀ w1 ow1, Disks2 w1 ow1 i xv dv om → Both 33 34 [.string S] w1 ow1 i xv dv om' E) ∧ FineO om' (a + 1) b := by
  cases om with
  | none =>
    refine ⟨none, 1, fun w1 ow1 hd => ?_, fun m hm => by cases hm⟩
    obtain ⟨rfl, rfl⟩ := hd
    exact ⟨(n_delete S w1).mono (fun e w' ⟨he, hb⟩ => ⟨he, _, Fr.ofBelow ow1 hb _ 0, fun m hm => by cases hm⟩), fun w' ow' hf => (refDelete_none S _).mono (fun e w'' ⟨he, hb⟩ => ⟨he, _, Fr.ofBelow ow' hb _ 0, fun m hm => by cases hm⟩), fun _ => ⟨rfl, rfl⟩⟩
  | some m =>
    have hfm := h m rfl
    have hl : m.files.length ≤ 4194304 := Nat.le_trans hfm.files ha
    have hu : usedF m.files ≤ 4194304 := Nat.le_trans hfm.bytes hb
    refine ⟨some (changeM m [S] (fileE m S 0) (fileM m S (deleteM m S))), changeE m [S] (fileE m S 0), fun w1 ow1 hd => ?_, fun m' hm => by cases hm; exact fine_change _ _ hfm (fine_file S hfm (fine_delete S hfm) (by omega) (by omega)) (by omega) (by omega)⟩
    obtain ⟨q, p, fv, rfl, rfl, hp, hr⟩ := hd
    refine ⟨(p_delete w1 _ q m hp hl hu hfm.left0 hfm.left1 S hs).mono (fun e w' ⟨he, hb⟩ => ?_), fun w' ow' hf => (refDelete_any _ _ p fv m (hr.frame hf (by omega)) hl hu hfm.left1 S hs).mono (fun e w'' ⟨he, hb⟩ => ?_), fun hm => by cases hm⟩
    · obtain ⟨ow', h1, h2⟩ := p_step hb
      exact ⟨he, ow', h2, fun m' hm => by cases hm; exact ⟨q, rfl, h1⟩⟩
    · obtain ⟨ow'', fv', h1, h2⟩ := r_step hb
      exact ⟨he, ow'', h2, fun m' hm => by cases hm; exact ⟨p, fv', rfl, h1⟩⟩

theorem bothTruncate {i a b : Nat} {xv dv : Value} {om : Option DiskM} (h : FineO om a b) (ha : a ≤ 4194304) (hb : b ≤ 4194304) (S : ByteArray) (hs : S.size ≤ 2097152) (A : Int) :
    ∃ om' E, (∀ w1 ow1, Disks2 w1 ow1 i xv dv om → Both 35 36 [.string S, .int .i64 A] w1 ow1 i xv dv om' E) ∧ FineO om' (a + 1) b := by
  cases om with
  | none =>
    refine ⟨none, 1, fun w1 ow1 hd => ?_, fun m hm => by cases hm⟩
    obtain ⟨rfl, rfl⟩ := hd
    exact ⟨(n_truncate S A w1).mono (fun e w' ⟨he, hb⟩ => ⟨he, _, Fr.ofBelow ow1 hb _ 0, fun m hm => by cases hm⟩), fun w' ow' hf => (refTruncate_none S A _).mono (fun e w'' ⟨he, hb⟩ => ⟨he, _, Fr.ofBelow ow' hb _ 0, fun m hm => by cases hm⟩), fun _ => ⟨rfl, rfl⟩⟩
  | some m =>
    have hfm := h m rfl
    have hl : m.files.length ≤ 4194304 := Nat.le_trans hfm.files ha
    have hu : usedF m.files ≤ 4194304 := Nat.le_trans hfm.bytes hb
    refine ⟨some (changeM m [S] (fileE m S (truncE m S A)) (fileM m S (truncM m S A))), changeE m [S] (fileE m S (truncE m S A)), fun w1 ow1 hd => ?_, fun m' hm => by cases hm; exact fine_change _ _ hfm (fine_file S hfm (fine_trunc S A hfm) (by omega) (by omega)) (by omega) (by omega)⟩
    obtain ⟨q, p, fv, rfl, rfl, hp, hr⟩ := hd
    refine ⟨(p_truncate w1 _ q m hp hl hu hfm.left0 hfm.left1 S hs A).mono (fun e w' ⟨he, hb⟩ => ?_), fun w' ow' hf => (refTruncate_any _ _ p fv m (hr.frame hf (by omega)) hl hu hfm.left1 S hs A).mono (fun e w'' ⟨he, hb⟩ => ?_), fun hm => by cases hm⟩
    · obtain ⟨ow', h1, h2⟩ := p_step hb
      exact ⟨he, ow', h2, fun m' hm => by cases hm; exact ⟨q, rfl, h1⟩⟩
    · obtain ⟨ow'', fv', h1, h2⟩ := r_step hb
      exact ⟨he, ow'', h2, fun m' hm => by cases hm; exact ⟨p, fv', rfl, h1⟩⟩

theorem bothBreak {i a b : Nat} {xv dv : Value} {om : Option DiskM} (h : FineO om a b) (ha : a ≤ 4194304) (hb : b ≤ 4194304) (A : Int) (hA : A ≤ 9223372036854775807) :
    ∃ om' E, (∀ w1 ow1, Disks2 w1 ow1 i xv dv om → Both 37 38 [.int .i64 A] w1 ow1 i xv dv om' E) ∧ FineO om' (a + 1) b := by
  cases om with
  | none =>
    refine ⟨none, 1, fun w1 ow1 hd => ?_, fun m hm => by cases hm⟩
    obtain ⟨rfl, rfl⟩ := hd
    exact ⟨(n_break A w1).mono (fun e w' ⟨he, hb⟩ => ⟨he, _, Fr.ofBelow ow1 hb _ 0, fun m hm => by cases hm⟩), fun w' ow' hf => (refBreak_none A _).mono (fun e w'' ⟨he, hb⟩ => ⟨he, _, Fr.ofBelow ow' hb _ 0, fun m hm => by cases hm⟩), fun _ => ⟨rfl, rfl⟩⟩
  | some m =>
    have hfm := h m rfl
    have hl : m.files.length ≤ 4194304 := Nat.le_trans hfm.files ha
    have hu : usedF m.files ≤ 4194304 := Nat.le_trans hfm.bytes hb
    refine ⟨some ((if A < 0 then m else { m with left := A })), (if A < 0 then 5 else 0), fun w1 ow1 hd => ?_, fun m' hm => by cases hm; exact fine_break A hfm hA⟩
    obtain ⟨q, p, fv, rfl, rfl, hp, hr⟩ := hd
    refine ⟨(p_break w1 _ q m hp A).mono (fun e w' ⟨he, hb⟩ => ?_), fun w' ow' hf => (refBreak_any _ _ p fv m (hr.frame hf (by omega)) A).mono (fun e w'' ⟨he, hb⟩ => ?_), fun hm => by cases hm⟩
    · obtain ⟨ow', h1, h2⟩ := p_step hb
      exact ⟨he, ow', h2, fun m' hm => by cases hm; exact ⟨q, rfl, h1⟩⟩
    · obtain ⟨ow'', fv', h1, h2⟩ := r_step hb
      exact ⟨he, ow'', h2, fun m' hm => by cases hm; exact ⟨p, fv', rfl, h1⟩⟩

end Go.Proofs.YthcnkbeognkjgaaGreatDoor
/-
  The law's step that crashes a disk, walked.
-/
namespace Go.Proofs.YthcnkbeognkjgaaGreatDoor
open Go.RowKit
open Rl

theorem info_intC : (Tryz.prog.info? 3).map (fun i => (i.zero, i.size, i.bytes)) = some (some (.int .i64 0), 1, 8) := by kernel_rfl
theorem size_int : (Tryz.prog.info? 3).map (·.size) = some 1 := by kernel_rfl

theorem zeros_int (m : Nat) : (madeCells (Value.int .i64 0).cells (m * 1)).toList = ints (List.replicate m 0) := by
  apply List.ext_getElem?
  intro j
  by_cases h : j < m
  · simp [madeCells, ints, Value.cells, h, Nat.mod_one]
  · simp [madeCells, ints, h]

theorem ints_ones (l : List Int) : ∀ u ∈ ints l, u.oneCell' = true := by
  intro u hu
  obtain ⟨s, _, rfl⟩ := List.mem_map.1 hu
  rfl

namespace Rl
theorem own_cells {w : World} {B : Nat} {e : TypeId} {g n : Nat} {xs : List Value} (h : w.ownsRow B e 1 (.slice (some ⟨g, 0, none⟩) n n) n xs) : w.heap[g]? = some (.cells xs.toArray e (0, 0)) := by
  rcases h.2 with ⟨h', _⟩ | ⟨g', cap', cur, h', _, hg, hnc, _, hcs, htake⟩
  · simp at h'
  · simp only [Value.slice.injEq, Option.some.injEq, Addr.mk.injEq, and_true, true_and] at h'
    obtain ⟨rfl, rfl⟩ := h'
    rw [hg]
    rw [List.take_of_length_le (by rw [Array.length_toList]; omega)] at htake
    rw [← htake]

theorem cells_own {w : World} {e : TypeId} {g n : Nat} {xs : List Value} (h : w.heap[g]? = some (.cells xs.toArray e (0, 0))) (hx : xs.length = n) (hn : n ≤ maxLen) : w.ownsRow 0 e 1 (.slice (some ⟨g, 0, none⟩) n n) n xs :=
  ⟨by omega, .inr ⟨g, n, xs.toArray, rfl, Nat.zero_le _, h, Nat.le_refl _, hn, by simpa using hx, by simp; rw [List.take_of_length_le (by omega)]⟩⟩

theorem splice_ints (keep : List Int) (n : Nat) (hn : keep.length = n) : splice (ints (List.replicate (n + 2) 0)) 0 (ints keep) = ints (keep ++ [0, 0]) := by
  unfold splice ints
  rw [List.take_zero, List.nil_append, Nat.zero_add, List.length_map, hn, List.map_append, ← List.map_drop, List.drop_replicate]
  congr 2
  rw [show n + 2 - n = 2 by omega]
  rfl

theorem marks_ints (keep : List Int) (n : Nat) (hn : keep.length = n) (a b : Int) : ((ints (keep ++ [0, 0])).set n (.int .i64 a)).set (n + 1) (.int .i64 b) = ints (keep ++ [a, b]) := by
  unfold ints
  rw [List.map_append, List.map_append]
  rw [List.set_append_right _ _ (by simp; omega), List.set_append_right _ _ (by simp; omega)]
  simp [hn]

theorem below_one {w0 w2 : World} {g a : Nat} {u : Value} (h : Below g w0 w2) : Below g w0 (w2.setCell ⟨g, a, none⟩ u) :=
  ⟨h.os, h.tape, h.output, Nat.le_trans h.size (by simp), fun k hk => (Below.heap_setCell w2 ⟨g, a, none⟩ u k (fun e => by have e' : k = g := e; omega)).trans (h.block k hk)⟩

theorem below_two {w0 w2 : World} {g a b : Nat} {u v : Value} (h : Below g w0 w2) : Below g w0 ((w2.setCell ⟨g, a, none⟩ u).setCell ⟨g, b, none⟩ v) := below_one (below_one h)

theorem rowAt_prefix {w : World} {g n n2 c : Nat} {keep x : List Int} (h : w.ownsRow 0 3 1 (.slice (some ⟨g, 0, none⟩) n2 n2) n2 (ints (keep ++ x))) (hn : keep.length = n) (hlt : n ≤ n2) (hc : n2 = c) : RowAt w (.slice (some ⟨g, 0, none⟩) n c) n 1 (ints keep) := by
  subst hc
  refine ⟨by simp [ints, hn], ?_⟩
  by_cases h0 : n = 0
  · exact .inl ⟨_, _, by rw [h0], h0⟩
  · refine .inr ⟨g, 0, n2, rfl, by omega, (h.lt g rfl).2, fun j u hj => ?_⟩
    have hjl : j < keep.length := by have := (List.getElem?_eq_some_iff.1 hj).1; simpa [ints] using this
    rw [Nat.zero_add, h.cellAt j (by omega)]
    unfold ints at hj ⊢
    rw [List.map_append, List.getElem?_append_left (by simpa using hjl)]
    exact hj

theorem hold3 {T : Nat → Prop} {w w1 : World} {ow ow1 : Nat → Nat} {i B n : Nat} {xv dv a b c d e f g : Value} {om : Option DiskM} (h : WorldC w ow i B xv dv om) (hb : Bx7 w n a b c d e f g) (hn : ow n = 0) (hf : Fr T w ow w1 ow1) (h0 : ¬ T (20 + 3 * i)) (h1 : ¬ T 0) :
    w1.cell? ⟨B, 0, none⟩ = some xv ∧ w1.cell? ⟨B, 1, none⟩ = some dv ∧ w1.cell? ⟨n, 6, none⟩ = some g :=
  ⟨(hf.cell (p := ⟨B, 0, none⟩) h.lt h.own h0).trans h.c0, (hf.cell (p := ⟨B, 1, none⟩) h.lt h.own h0).trans h.c1, (hb.frame hf hn h1).c6⟩

/-- what the two crashes have to do. -/
structure BothK (keep : List Int) (w : World) (ow : Nat → Nat) (i : Nat) (xv dv kx kd : Value) (om' : Option DiskM) (E : Int) : Prop where
  x : Calls Tryz.prog 39 #[xv, kx] w (XEnd w ow i E xv om')
  d : ∀ w' ow', Fr (fun c => c = 21 + 3 * i) w ow w' ow' → Calls Tryz.prog 40 #[dv, kd] w' (DEnd w' ow' i E dv om')
  nil : om' = none → xv = .pointer none ∧ dv = .pointer none

theorem rowAt_fr0 {T : Nat → Prop} {w w' : World} {ow ow' : Nat → Nat} {v : Value} {n size : Nat} {xs : List Value} (h : RowAt w v n size xs) (hf : Fr T w ow w' ow') (hs : n ≠ 0 → ∀ k, v.ownBlock = some k → ¬ T (ow k)) : RowAt w' v n size xs := rowAt_touch0 h hf.tch hs

theorem rowAt_fr {T : Nat → Prop} {w w' : World} {ow ow' : Nat → Nat} {v : Value} {n size : Nat} {xs : List Value} (h : RowAt w v n size xs) (hf : Fr T w ow w' ow') (hs : ∀ k, v.ownBlock = some k → ¬ T (ow k)) : RowAt w' v n size xs := rowAt_touch h hf.tch hs

theorem bothCrash {i a b : Nat} {xv dv : Value} {om : Option DiskM} (h : FineO om a b) (ha : a ≤ 4194304) (hb : b ≤ 4194304) (keep : List Int) (hkl : keep.length ≤ 4194304) :
    ∃ om' E, (∀ w1 ow1 kx kd, Disks2 w1 ow1 i xv dv om → RowAt w1 kx keep.length 1 (ints keep) → (∀ k, kx.ownBlock = some k → ow1 k ≠ 21 + 3 * i) → RowAt w1 kd keep.length 1 (ints keep) → (keep.length ≠ 0 → ∀ k, kd.ownBlock = some k → k < w1.heap.size ∧ ow1 k ≠ 21 + 3 * i ∧ ow1 k ≠ 22 + 3 * i) → BothK keep w1 ow1 i xv dv kx kd om' E) ∧ FineO om' (a + 1) b := by
  cases om with
  | none =>
    refine ⟨none, 1, fun w1 ow1 kx kd hd _ _ _ _ => ?_, fun m hm => by cases hm⟩
    obtain ⟨rfl, rfl⟩ := hd
    exact ⟨(n_crash kx w1).mono (fun e w' ⟨he, hb⟩ => ⟨he, _, Fr.ofBelow ow1 hb _ 0, fun m hm => by cases hm⟩), fun w' ow' hf => (refCrash_none kd _).mono (fun e w'' ⟨he, hb⟩ => ⟨he, _, Fr.ofBelow ow' hb _ 0, fun m hm => by cases hm⟩), fun _ => ⟨rfl, rfl⟩⟩
  | some m =>
    have hfm := h m rfl
    have hl : m.files.length ≤ 4194304 := Nat.le_trans hfm.files ha
    have hu : usedF m.files ≤ 4194304 := Nat.le_trans hfm.bytes hb
    refine ⟨some (crashM m keep), 0, fun w1 ow1 kx kd hd hrx hcx hrd hcd => ?_, fun m' hm => by cases hm; exact fine_crash keep hfm⟩
    obtain ⟨q, p, fv, rfl, rfl, hp, hr⟩ := hd
    refine ⟨(p_crash w1 _ q m hp hl hu kx keep hrx hkl (fun k hk x => hcx k hk x.2)).mono (fun e w' ⟨he, hb⟩ => ?_), fun w' ow' hf => (refCrash_any w' _ p fv m (hr.frame hf (by omega)) hl hu hp.sync kd keep (rowAt_fr0 hrd hf (fun h0 k hk => (hcd h0 k hk).2.1)) hkl (fun h0 k hk x => ?_)).mono (fun e w'' ⟨he, hb⟩ => ?_), fun hm => by cases hm⟩
    · obtain ⟨ow', h1, h2⟩ := p_step hb
      exact ⟨he, ow', h2, fun m' hm => by cases hm; exact ⟨q, rfl, h1⟩⟩
    · have h3 := (hf.keep k (hcd h0 k hk).1 (hcd h0 k hk).2.1).1
      exact (hcd h0 k hk).2.2 (by rw [← h3]; exact x.2)
    · obtain ⟨ow'', fv', h1, h2⟩ := r_step hb
      exact ⟨he, ow'', h2, fun m' hm => by cases hm; exact ⟨p, fv', rfl, h1⟩⟩
end Rl

set_option maxRecDepth 20000 in
set_option maxHeartbeats 1000000 in
theorem writesCrash (w : World) (ow : Nat → Nat) (i B : Nat) (xv dv : Value) (om om' : Option DiskM) (E : Int) (W A C : Int) (S T : ByteArray) (la : Option Addr) (lc : Nat) (keep : List Int) (h : WorldC w ow i B xv dv om) (hk : RowAt w (.slice la keep.length lc) keep.length 1 (ints keep)) (hkl : keep.length ≤ 4194304)
    (hkc : keep.length ≠ 0 → ∀ k, (Value.slice la keep.length lc).ownBlock = some k → k < w.heap.size ∧ ow k = 11)
    (hb : ∀ w1 ow1 kx kd, Disks2 w1 ow1 i xv dv om → RowAt w1 kx keep.length 1 (ints keep) → (∀ k, kx.ownBlock = some k → ow1 k ≠ 21 + 3 * i) → RowAt w1 kd keep.length 1 (ints keep) → (keep.length ≠ 0 → ∀ k, kd.ownBlock = some k → k < w1.heap.size ∧ ow1 k ≠ 21 + 3 * i ∧ ow1 k ≠ 22 + 3 * i) → BothK keep w1 ow1 i xv dv kx kd om' E) :
    Calls Tryz.prog 11 #[.pointer (some ⟨B, 0, none⟩), opV 8 W A C S T la keep.length lc] w fun e w' => e = .returned (.bool true) ∧ ∃ ow', WorldC w' ow' i B xv dv om' ∧ Fr (fun c => c = 20 + 3 * i ∨ c = 21 + 3 * i ∨ c = 22 + 3 * i) w ow w' ow' := by
  obtain ⟨i0, hi, hz0, hz1, hz2⟩ := info_parts info_intC
  have bx := bx7_new w (.int .i64 8) (.int .i64 W) (.int .i64 A) (.int .i64 C) (.string S) (.string T) (.slice la keep.length lc) 39
  have f0 := Fr.ofBelow ow ((Below.refl _ w).alloc (Nat.le_refl _) (.cells #[.int .i64 8, .int .i64 W, .int .i64 A, .int .i64 C, .string S, .string T, .slice la keep.length lc] 39)) (fun _ => False) 0
  have hn0 : ext w ow 0 w.heap.size = 0 := by unfold ext; rw [if_neg (by omega)]
  have h0 := h.frame f0 (fun x => x) (fun x => x) (fun x => x)
  have hk0 := rowAt_fr hk f0 (fun _ _ x => x)
  have hc0 : keep.length ≠ 0 → ∀ k, (Value.slice la keep.length lc).ownBlock = some k → k < (w.alloc (.cells #[.int .i64 8, .int .i64 W, .int .i64 A, .int .i64 C, .string S, .string T, .slice la keep.length lc] 39)).heap.size ∧ ext w ow 0 k = 11 := fun hz k hk => by
    obtain ⟨h1, h2⟩ := hkc hz k hk
    exact ⟨Nat.lt_of_lt_of_le h1 f0.size, f0.ow h1 h2 (fun x => x)⟩
  have HF0 := hide f0
  have HB := hide hb
  clear h hk hkc hb f0
  unfold opV
  generalize hK : keep.length = n at *
  have hw2 : IntKind.i64.wrap ((n : Int) + 2) = ((n + 2 : Nat) : Int) := by rw [IntKind.wrap_i64]; omega
  obtain ⟨b0, b1, b2, b3, b4, b5, b6, bl⟩ := id bx
  go_enter Tryz.func11, Tryz.ntmps11
  go_upto_region 24 with fail
  generalize w.alloc (.cells #[.int .i64 8, .int .i64 W, .int .i64 A, .int .i64 C, .string S, .string T, .slice la n lc] 39) = w0 at *
  generalize ext w ow 0 = ow0 at *
  generalize w.heap.size = N at *
  have HW0 := hide h0
  have HK0 := hide hk0
  have HC0 := hide hc0
  have HBX := hide bx
  have HN0 := hide hn0
  have HKL := hide hK
  clear h0 hk0 hc0 bx b0 b1 b2 b3 b4 b5 hn0 hK
  obtain ⟨n2, hn2⟩ : ∃ n2, n2 = n + 2 := ⟨_, rfl⟩
  have hplus : (n : Int) + 2 = (n2 : Int) := by omega
  rw [← hn2] at hw2
  have HN2 := hide hn2
  have hn2b : n2 ≤ 4194306 := by omega
  clear hn2
  go_upto_region 25 with (at_make; refine wpList_make_full _ rfl _ _ 31 rfl w0.heap.size 3 i0 (.int .i64 0) 1 Tryz.underlying31 hi hz0 hz1 .i64 .i64 _ _ n2 rfl rfl rfl rfl (by rw [hz2]; omega) (by unfold maxLen; omega) (Nat.le_refl _) ?_; intro w1 hown hgrow)
  rw [zeros_int] at hown
  have hb1 := (Below.refl w0.heap.size w0).grown hgrow (Nat.le_refl _) (fun k hk => by cases hk)
  have hg1 := own_cells hown
  have x6 := (hb1.cell (p := ⟨N, 6, none⟩) HBX.out.lt).trans HBX.out.c6
  have HZ : Hid (splice (ints (List.replicate n2 0)) 0 (ints keep) = ints (keep ++ [0, 0])) := by unfold Hid; rw [HN2.out]; exact splice_ints keep n HKL.out
  have HR1 := hide ((HK0.out).later hb1)
  have hfit : 0 + (ints keep).length ≤ (ints (List.replicate n2 0)).length := by simp only [ints, List.length_map, List.length_replicate]; have := HKL.out; have := HN2.out; omega
  have hlen : (ints keep).length = Nat.min n n2 := by simp only [ints, List.length_map]; have h1 := HKL.out; have h2 := HN2.out; rw [h1, h2]; exact (Nat.min_eq_left (by omega)).symm
  have hglt : w0.heap.size < w1.heap.size := (Array.getElem?_eq_some_iff.1 hg1).1
  clear hown hgrow hw2 hplus hi hz0 hz1 hz2 bl b6
  generalize hgg : w0.heap.size = g at *
  have HGG := hide hgg
  clear hgg
  have hpos : 0 < (ints keep).length → (some ⟨g, 0, none⟩ : Option Addr) = some ⟨g, 0, none⟩ ∧ ∃ ad, la = some ad ∧ ∀ j v, (ints keep)[j]? = some v → w1.cell? (ad.add j) = some v := by
    intro hp
    refine ⟨rfl, ?_⟩
    rcases HR1.out.2 with ⟨a', c', e, e0⟩ | ⟨b', o', c', e, _, _, hcell⟩
    · have h1 := HKL.out; simp only [ints, List.length_map] at hp; omega
    · injection e with e1 _ _
      exact ⟨⟨b', o', none⟩, e1, fun j v hj => by rw [show (⟨b', o', none⟩ : Addr).add j = ⟨b', o' + j, none⟩ by unfold Addr.add; split <;> simp_all]; exact hcell j v hj⟩
  have HPOS := hide hpos
  have HLEN := hide hlen
  have HFIT := hide hfit
  clear hpos hlen hfit
  go_upto_region 26 with (refine wpList_copy_splice rfl _ _ 31 31 rfl 3 Tryz.underlying31 size_int _ _ _ _ _ _ rfl rfl g 0 (ints (List.replicate n2 0)) 3 hg1 (ints keep) HLEN.out HPOS.out HFIT.out (ints_ones keep) g w0 hb1 (Nat.le_refl _) ?_; intro w2 hg2 hb2)
  have hr2 : w2.ownsRow 0 3 1 (.slice (some ⟨g, 0, none⟩) n2 n2) n2 (ints (keep ++ [0, 0])) := cells_own (by rw [← HZ.out]; exact hg2.out) (by simp only [ints, List.length_map, List.length_append]; have := HKL.out; have := HN2.out; simp; omega) (by unfold maxLen; omega)
  have hN2 := HN2.out
  have l2 : (ints (keep ++ [0, 0])).length = n2 := by have := hr2.1; omega
  obtain ⟨v0, y0⟩ : ∃ v, w2.cell? ⟨g, n, none⟩ = some v := ⟨_, (hr2.cellAt n (by omega)).trans (List.getElem?_eq_getElem (by omega))⟩
  obtain ⟨v1, y1⟩ : ∃ v, w2.cell? ⟨g, n + 1, none⟩ = some v := ⟨_, (hr2.cellAt (n + 1) (by omega)).trans (List.getElem?_eq_getElem (by omega))⟩
  have z0 := hr2.frozenAt n
  have z1 := hr2.frozenAt (n + 1)
  have hr4 := ((hr2.stored n (.int .i64 (-77))).1.stored (n + 1) (.int .i64 (-77))).1
  rw [marks_ints keep n HKL.out] at hr4
  have HR4 := hide hr4
  have HB4 : Hid (Below g w0 ((w2.setCell ⟨g, n, none⟩ (.int .i64 (-77))).setCell ⟨g, n + 1, none⟩ (.int .i64 (-77)))) := below_two hb2
  have hx0 : (n : Int) < (n2 : Int) := by omega
  have hx1 : (n : Int) + 1 < (n2 : Int) := by omega
  have hn0 : (0 : Int) ≤ (n : Int) := by omega
  have hw1 : IntKind.i64.wrap ((n : Int) + 1) = (n : Int) + 1 := by rw [IntKind.wrap_i64]; omega
  clear hr2 l2 hr4 hN2 hg2 hb2 hg1 HPOS HFIT HLEN hb1 x6
  go_upto_region 28 with fail
  clear y0 y1 z0 z1
  generalize ((w2.setCell ⟨g, n, none⟩ (.int .i64 (-77))).setCell ⟨g, n + 1, none⟩ (.int .i64 (-77))) = W4 at *
  have hb4 : Below w0.heap.size w0 W4 := by rw [HGG.out]; exact HB4.out
  obtain ⟨ow4, how4⟩ : ∃ ow4, ow4 = ext w0 ow0 0 := ⟨_, rfl⟩
  have f4 : Fr (fun _ => False) w0 ow0 W4.drew ow4 := by rw [how4]; exact (Fr.ofBelow ow0 hb4 _ 0).drew'
  have hg0 : ow4 g = 0 := by rw [how4, ← HGG.out]; unfold ext; rw [if_neg (by omega)]
  have hW4 := HW0.out.frame f4 (fun x => x) (fun x => x) (fun x => x)
  have hB4 := HBX.out.frame f4 HN0.out (fun x => x)
  have hK4 := rowAt_fr HK0.out f4 (fun _ _ x => x)
  have hc4 : n ≠ 0 → ∀ k, (Value.slice la n lc).ownBlock = some k → k < W4.drew.heap.size ∧ ow4 k = 11 := fun hz k hk => by
    obtain ⟨h1, h2⟩ := HC0.out hz k hk
    have h1' : k < w0.heap.size := by rw [HGG.out]; exact h1
    exact ⟨Nat.lt_of_lt_of_le h1' f4.size, f4.ow h1' h2 (fun x => x)⟩
  have hN4 : ow4 N = 0 := f4.ow HBX.out.lt HN0.out (fun x => x)
  have HBK := hide (HB.out W4.drew ow4 (.slice (some ⟨g, 0, none⟩) n n2) (.slice la n lc) hW4.disks (rowAt_prefix (w := W4.drew) HR4.out HKL.out (by omega) rfl) (fun k hk => by cases hk; rw [hg0]; omega) hK4 (fun hz k hk => ⟨(hc4 hz k hk).1, by rw [(hc4 hz k hk).2]; omega, by rw [(hc4 hz k hk).2]; omega⟩))
  have hS1 : W4.drew.cell? ⟨B, 0, none⟩ = some xv ∧ W4.drew.cell? ⟨B, 1, none⟩ = some dv ∧ W4.drew.cell? ⟨N, 6, none⟩ = some (.slice la n lc) := ⟨hW4.c0, hW4.c1, hB4.c6⟩
  have HW4 := hide hW4
  have HBB4 := hide hB4
  have HK4 := hide hK4
  have HC4 := hide hc4
  have HN4 := hide hN4
  have HF4 := hide f4
  have HG0 := hide hg0
  have hnn : (n : Int) ≤ (n2 : Int) := by omega
  clear hb4 how4 f4 hg0 hW4 hB4 hK4 hc4 hN4 HB HB4 HZ HR1 HK0 HC0 hx0 hx1 hw1
  go_wp2_with fail
  go_region_held (fun w' => w'.cell? ⟨B, 0, none⟩ = some xv ∧ w'.cell? ⟨B, 1, none⟩ = some dv ∧ w'.cell? ⟨N, 6, none⟩ = some (.slice la n lc)) (first | assumption | (exact hS1) | (exact hold3 HW4.out HBB4.out HN4.out f5 (by omega) (by omega))) (first | (go_at_call 39; refine HBK.out.x.mono ?_; rintro e w5 ⟨rfl, ow5, f5, hx5⟩))
  rename_i hHeld
  have hS2 : w5.drew.cell? ⟨B, 0, none⟩ = some xv ∧ w5.drew.cell? ⟨B, 1, none⟩ = some dv ∧ w5.drew.cell? ⟨N, 6, none⟩ = some (.slice la n lc) := hHeld
  have f5d := f5.drew'
  have HX5 := hide hx5
  clear hS1 hHeld f5 hx5
  go_wp2_with fail
  go_region_held (fun w' => w'.cell? ⟨B, 0, none⟩ = some xv ∧ w'.cell? ⟨B, 1, none⟩ = some dv ∧ w'.cell? ⟨N, 6, none⟩ = some (.slice la n lc)) (first | assumption | (exact hS2) | (exact hold3 HW4.out HBB4.out HN4.out ((f5d.mono (fun _ x => Or.inl x)).trans (f6.mono (fun c x => (Or.inr x : c = 21 + 3 * i ∨ c = 22 + 3 * i))) (fun _ x => x)) (by omega) (by omega))) (first | (go_at_call 40; refine (HBK.out.d _ ow5 f5d).mono ?_; rintro e w6 ⟨rfl, ow6, f6, hx6⟩))
  clear hS2
  have f56 := (f5d.mono (fun c (x : c = 21 + 3 * i) => (Or.inl x : c = 21 + 3 * i ∨ c = 22 + 3 * i))).trans (f6.mono (fun c (x : c = 22 + 3 * i) => (Or.inr x : c = 21 + 3 * i ∨ c = 22 + 3 * i))) (fun _ x => x)
  have hx2 : ∀ m, om' = some m → ∃ q, xv = .pointer (some ⟨q, 0, none⟩) ∧ PDisk w5.drew (Own w5.drew ow5 (21 + 3 * i)) q m := fun m hm => by
    obtain ⟨q, e, hq⟩ := HX5.out m hm
    exact ⟨q, e, hq.later (Below.refl _ _).drew⟩
  have HEND : Hid (WorldC w6 ow6 i B xv dv om' ∧ Fr (fun c => c = 20 + 3 * i ∨ c = 21 + 3 * i ∨ c = 22 + 3 * i) w ow w6 ow6) := by
    refine ⟨HW4.out.shell f56 (by omega) (disks2_end HBK.out.nil f6 hx2 hx6), ((HF0.out.mono ?_).trans (HF4.out.mono ?_) (fun _ x => x)).trans (f56.mono ?_) (fun _ x => x)⟩
    · intro c hc; exact hc.elim
    · intro c hc; exact hc.elim
    · intro c hc; omega
  have lrow := rowAt_fr0 HK4.out f56 (fun hz k hk => by rw [(HC4.out hz k hk).2]; omega)
  have b6 := (HBB4.out.frame f56 HN4.out (by omega)).c6
  have hbl := (HBB4.out.frame f56 HN4.out (by omega)).lt
  have hgl : g < W4.drew.heap.size := (HR4.out.lt g rfl).2
  have hgc : ∀ j, j < n2 → w6.cell? ⟨g, j, none⟩ = (ints (keep ++ [-77, -77]))[j]? := fun j hj => (f56.cell (p := ⟨g, j, none⟩) hgl HG0.out (by omega)).trans ((HR4.out.cellAt j (by omega)))
  have HGC := hide hgc
  have HLR := hide lrow
  have hgl6 : g < w6.heap.size := Nat.lt_of_lt_of_le hgl f56.size
  clear f5d f6 f56 hx2 hx6 HX5 HBK HW4 HBB4 HK4 HC4 HN4 HF4 HG0 HF0 HW0 HBX HN0 hgl lrow hgc HR4
  go_wp2_with fail
  go_loopw [9] (fun j wr => ∃ k : Nat, k ≤ n ∧ j = .int .i64 k ∧ Below w6.heap.size w6 wr) (fun j _ => n - (intOf j).toNat)
  case atStart => exact ⟨0, Nat.zero_le _, rfl, Below.refl _ _⟩
  case round =>
    obtain ⟨k, hk, rfl, hb⟩ := hrel
    have c6 := (hb.cell (p := ⟨N, 6, none⟩) hbl).trans b6
    have hkn := HKL.out
    by_cases hlt : k < n
    · have q0 := (hb.cell (p := ⟨g, k, none⟩) hgl6).trans (HGC.out k (by have := HN2.out; omega))
      unfold ints at q0
      rw [List.map_append, List.getElem?_append_left (by simp; omega), List.getElem?_map, List.getElem?_eq_getElem (by omega)] at q0
      rcases ((HLR.out).later hb).2 with ⟨a', c', e, e0⟩ | ⟨lb, lo, lcap, e, _, hlb, hlc⟩
      · omega
      · cases e
        have q1 := hlc _ _ (ints_get keep k (by omega))
        rw [Nat.mul_one] at q1
        have q2 : wr.cell? ⟨g, k, none⟩ = some (.int .i64 keep[k]) := q0
        have hx : (k : Int) < (n2 : Int) := by have := HN2.out; omega
        have hx2 : (k : Int) < (n : Int) := by omega
        have hk0 : (0 : Int) ≤ (k : Int) := by omega
        clear hlc q0 b6
        generalize keep[k] = z at *
        clear hkn
        go_wp2_with fail
        go_quiet (fail)
        go_wp2_with fail
        exact ⟨⟨k + 1, by omega, by go_num, below_drewN hb _⟩, by simp [intOf]; omega⟩
    · have e : k = n := by omega
      subst e
      have q0 := (hb.cell (p := ⟨g, k, none⟩) hgl6).trans (HGC.out k (by have := HN2.out; omega))
      have q1 := (hb.cell (p := ⟨g, k + 1, none⟩) hgl6).trans (HGC.out (k + 1) (by have := HN2.out; omega))
      unfold ints at q0 q1
      rw [List.map_append, List.getElem?_append_right (by simp; omega)] at q0 q1
      have e0 : k - (List.map (Value.int .i64) keep).length = 0 := by simp; omega
      have e1 : k + 1 - (List.map (Value.int .i64) keep).length = 1 := by simp; omega
      rw [e0] at q0
      rw [e1] at q1
      have q2 : wr.cell? ⟨g, k, none⟩ = some (.int .i64 (-77)) := q0
      have q3 : wr.cell? ⟨g, k + 1, none⟩ = some (.int .i64 (-77)) := q1
      have hx : (k : Int) < (n2 : Int) := by have := HN2.out; omega
      have hx1 : (k : Int) + 1 < (n2 : Int) := by have := HN2.out; omega
      have hk0 : (0 : Int) ≤ (k : Int) := by omega
      have hw1 : IntKind.i64.wrap ((k : Int) + 1) = (k : Int) + 1 := by rw [IntKind.wrap_i64]; omega
      have hm : IntKind.i64.wrap (-77) = -77 := by decide
      clear q0 q1 e0 e1 hkn b6
      go_wp2_with fail
      go_ret
      obtain ⟨h1, h2⟩ := HEND.out
      have f7 := Fr.ofBelow ow6 hb (fun _ => False) 0
      exact ⟨by first | rfl | simp, _, h1.frame f7 (fun x => x) (fun x => x) (fun x => x), h2.trans (f7.mono (fun _ x => x.elim)) (fun _ x => x)⟩

end Go.Proofs.YthcnkbeognkjgaaGreatDoor
