/-
  The law's steps that write on a disk, walked over what the two calls have to do.
-/
import Derived.Test.YthcnkbeognkjgaaGreatDoorGmWorld
import Derived.Deep.RegionHeld
import Derived.Deep.RegionHeld3
namespace Go.Proofs.YthcnkbeognkjgaaGreatDoor
open Go.RowKit
open Rl

namespace Rl
/-- a step as it is handed over. -/
def opV (kind W A C : Int) (S T : ByteArray) (la : Option Addr) (ln lc : Nat) : Value := .agg #[.int .i64 kind, .int .i64 W, .int .i64 A, .int .i64 C, .string S, .string T, .slice la ln lc]

/-- a box of seven cells. -/
structure Bx7 (w : World) (n : Nat) (a b c d e f g : Value) : Prop where
  c0 : w.cell? ⟨n, 0, none⟩ = some a
  c1 : w.cell? ⟨n, 1, none⟩ = some b
  c2 : w.cell? ⟨n, 2, none⟩ = some c
  c3 : w.cell? ⟨n, 3, none⟩ = some d
  c4 : w.cell? ⟨n, 4, none⟩ = some e
  c5 : w.cell? ⟨n, 5, none⟩ = some f
  c6 : w.cell? ⟨n, 6, none⟩ = some g
  lt : n < w.heap.size

theorem bx7_new (w : World) (a b c d e f g : Value) (T : TypeId) : Bx7 (w.alloc (.cells #[a, b, c, d, e, f, g] T)) w.heap.size a b c d e f g :=
  ⟨by simp, by simp, by simp, by simp, by simp, by simp, by simp, by simp⟩

theorem Bx7.frame {T : Nat → Prop} {w w' : World} {ow ow' : Nat → Nat} {n k : Nat} {a b c d e f g : Value} (h : Bx7 w n a b c d e f g) (hf : Fr T w ow w' ow') (hk : ow n = k) (hT : ¬ T k) : Bx7 w' n a b c d e f g :=
  ⟨(hf.cell (p := ⟨n, 0, none⟩) h.lt hk hT).trans h.c0, (hf.cell (p := ⟨n, 1, none⟩) h.lt hk hT).trans h.c1, (hf.cell (p := ⟨n, 2, none⟩) h.lt hk hT).trans h.c2, (hf.cell (p := ⟨n, 3, none⟩) h.lt hk hT).trans h.c3, (hf.cell (p := ⟨n, 4, none⟩) h.lt hk hT).trans h.c4, (hf.cell (p := ⟨n, 5, none⟩) h.lt hk hT).trans h.c5, (hf.cell (p := ⟨n, 6, none⟩) h.lt hk hT).trans h.c6, Nat.lt_of_lt_of_le h.lt hf.size⟩

theorem Bx7.drew {w : World} {n : Nat} {a b c d e f g : Value} (h : Bx7 w n a b c d e f g) : Bx7 w.drew n a b c d e f g := ⟨h.c0, h.c1, h.c2, h.c3, h.c4, h.c5, h.c6, h.lt⟩

theorem Fr.drew' {T : Nat → Prop} {w w' : World} {ow ow' : Nat → Nat} (h : Fr T w ow w' ow') : Fr T w ow w'.drew ow' := ⟨h.os, h.tape, h.output, h.size, h.keep⟩

theorem hold_start {w : World} {ow : Nat → Nat} {i B n : Nat} {xv dv a b d g : Value} {om : Option DiskM} {A : Int} {S T : ByteArray} (h : WorldC w ow i B xv dv om) (hb : Bx7 w n a b (.int .i64 A) d (.string S) (.string T) g) :
    w.cell? ⟨B, 0, none⟩ = some xv ∧ w.cell? ⟨B, 1, none⟩ = some dv ∧ w.cell? ⟨n, 2, none⟩ = some (.int .i64 A) ∧ w.cell? ⟨n, 4, none⟩ = some (.string S) ∧ w.cell? ⟨n, 5, none⟩ = some (.string T) := ⟨h.c0, h.c1, hb.c2, hb.c4, hb.c5⟩

theorem hold_call {Tt : Nat → Prop} {w w1 : World} {ow ow1 : Nat → Nat} {i B n : Nat} {xv dv a b d g : Value} {om : Option DiskM} {A : Int} {S T : ByteArray} (h : WorldC w ow i B xv dv om) (hb : Bx7 w n a b (.int .i64 A) d (.string S) (.string T) g) (hn : ow n = 0) (hf : Fr Tt w ow w1 ow1) (h0 : ¬ Tt (20 + 3 * i)) (h1 : ¬ Tt 0) :
    w1.cell? ⟨B, 0, none⟩ = some xv ∧ w1.cell? ⟨B, 1, none⟩ = some dv ∧ w1.cell? ⟨n, 2, none⟩ = some (.int .i64 A) ∧ w1.cell? ⟨n, 4, none⟩ = some (.string S) ∧ w1.cell? ⟨n, 5, none⟩ = some (.string T) := by
  have hb' := hb.frame hf hn h1
  exact ⟨(hf.cell (p := ⟨B, 0, none⟩) h.lt h.own h0).trans h.c0, (hf.cell (p := ⟨B, 1, none⟩) h.lt h.own h0).trans h.c1, hb'.c2, hb'.c4, hb'.c5⟩

theorem hold_call2 {Tt Tu : Nat → Prop} {w w1 w2 : World} {ow ow1 ow2 : Nat → Nat} {i B n : Nat} {xv dv a b d g : Value} {om : Option DiskM} {A : Int} {S T : ByteArray} (h : WorldC w ow i B xv dv om) (hb : Bx7 w n a b (.int .i64 A) d (.string S) (.string T) g) (hn : ow n = 0) (hf : Fr Tt w ow w1 ow1) (hf2 : Fr Tu w1 ow1 w2 ow2) (h0 : ¬ Tt (20 + 3 * i)) (h1 : ¬ Tt 0) (h2 : ¬ Tu (20 + 3 * i)) (h3 : ¬ Tu 0) :
    w2.cell? ⟨B, 0, none⟩ = some xv ∧ w2.cell? ⟨B, 1, none⟩ = some dv ∧ w2.cell? ⟨n, 2, none⟩ = some (.int .i64 A) ∧ w2.cell? ⟨n, 4, none⟩ = some (.string S) ∧ w2.cell? ⟨n, 5, none⟩ = some (.string T) :=
  hold_call h hb hn ((hf.mono (fun _ x => Or.inl x)).trans (hf2.mono (fun _ x => (Or.inr x : Tt _ ∨ Tu _))) (fun _ x => x)) (fun x => x.elim h0 h2) (fun x => x.elim h1 h3)

theorem disks2_end {w1 w2 : World} {ow1 ow2 : Nat → Nat} {i : Nat} {xv dv : Value} {om' : Option DiskM} (hn : om' = none → xv = .pointer none ∧ dv = .pointer none) (f2 : Fr (fun c => c = 22 + 3 * i) w1 ow1 w2 ow2)
    (hx : ∀ m, om' = some m → ∃ q, xv = .pointer (some ⟨q, 0, none⟩) ∧ PDisk w1 (Own w1 ow1 (21 + 3 * i)) q m) (hd : ∀ m, om' = some m → ∃ p fv, dv = .pointer (some ⟨p, 0, none⟩) ∧ RDisk w2 (Own w2 ow2 (22 + 3 * i)) p fv m) : Disks2 w2 ow2 i xv dv om' := by
  cases om' with
  | none => exact hn rfl
  | some m =>
    obtain ⟨q, e1, h1⟩ := hx m rfl
    obtain ⟨p, fv, e2, h2⟩ := hd m rfl
    exact ⟨q, p, fv, e1, e2, h1.frame f2 (by omega), h2⟩
end Rl

set_option maxRecDepth 20000 in
set_option maxHeartbeats 1000000 in
theorem writesAppend (w : World) (ow : Nat → Nat) (i B : Nat) (xv dv : Value) (om om' : Option DiskM) (E : Int) (W A C : Int) (S T : ByteArray) (la : Option Addr) (ln lc : Nat) (h : WorldC w ow i B xv dv om)
    (hb : ∀ w1 ow1, Disks2 w1 ow1 i xv dv om → Both 27 28 [.string S, .string T] w1 ow1 i xv dv om' E) :
    Calls Tryz.prog 11 #[.pointer (some ⟨B, 0, none⟩), opV 3 W A C S T la ln lc] w fun e w' => e = .returned (.bool true) ∧ ∃ ow', WorldC w' ow' i B xv dv om' ∧ Fr (fun c => c = 20 + 3 * i ∨ c = 21 + 3 * i ∨ c = 22 + 3 * i) w ow w' ow' := by
  have f0 := Fr.ofBelow ow (((Below.refl _ w).alloc (Nat.le_refl _) (.cells #[.int .i64 3, .int .i64 W, .int .i64 A, .int .i64 C, .string S, .string T, .slice la ln lc] 39)).drew) (fun _ => False) 0
  have hc0 : ext w ow 0 w.heap.size = 0 := by unfold ext; rw [if_neg (by omega)]
  have bx := bx7_new w (.int .i64 3) (.int .i64 W) (.int .i64 A) (.int .i64 C) (.string S) (.string T) (.slice la ln lc) 39
  have bxd := bx.drew
  have h0 := h.frame f0 (fun x => x) (fun x => x) (fun x => x)
  have HBO := hide (hb _ _ h0.disks)
  have HF0 := hide f0
  have HW0 := hide h0
  have HBX := hide bxd
  have HC0 := hide hc0
  obtain ⟨b0, b1, b2, b3, b4, b5, b6, bl⟩ := bx
  have hS1 := hold_start h0 bxd
  clear f0 hc0 h0 bxd h hb
  unfold opV
  go_enter Tryz.func11, Tryz.ntmps11
  go_wp2_with fail
  go_region_held (fun w' => w'.cell? ⟨B, 0, none⟩ = some xv ∧ w'.cell? ⟨B, 1, none⟩ = some dv ∧ w'.cell? ⟨w.heap.size, 2, none⟩ = some (.int .i64 A) ∧ w'.cell? ⟨w.heap.size, 4, none⟩ = some (.string S) ∧ w'.cell? ⟨w.heap.size, 5, none⟩ = some (.string T)) (first | assumption | (exact hS1) | (exact hold_call HW0.out HBX.out HC0.out f1 (by omega) (by omega))) (first | (go_at_call 27; refine HBO.out.x.mono ?_; rintro e w1 ⟨rfl, ow1, f1, hx⟩))
  rename_i hHeld
  have hS2 : w1.drew.cell? ⟨B, 0, none⟩ = some xv ∧ w1.drew.cell? ⟨B, 1, none⟩ = some dv ∧ w1.drew.cell? ⟨w.heap.size, 2, none⟩ = some (.int .i64 A) ∧ w1.drew.cell? ⟨w.heap.size, 4, none⟩ = some (.string S) ∧ w1.drew.cell? ⟨w.heap.size, 5, none⟩ = some (.string T) := hHeld
  have HX := hide hx
  have f1d := f1.drew'
  have HF1 := hide f1d
  clear b0 b1 b2 b3 b4 b5 b6 bl hS1 hHeld f1 hx
  go_wp2_with fail
  go_region_held (fun w' => w'.cell? ⟨B, 0, none⟩ = some xv ∧ w'.cell? ⟨B, 1, none⟩ = some dv ∧ w'.cell? ⟨w.heap.size, 2, none⟩ = some (.int .i64 A) ∧ w'.cell? ⟨w.heap.size, 4, none⟩ = some (.string S) ∧ w'.cell? ⟨w.heap.size, 5, none⟩ = some (.string T)) (first | assumption | (exact hS2) | (exact hold_call2 HW0.out HBX.out HC0.out f1d f2 (by omega) (by omega) (by omega) (by omega))) (first | (go_at_call 28; refine (HBO.out.d _ ow1 f1d).mono ?_; rintro e w2 ⟨rfl, ow2, f2, hd⟩))
  clear hS2
  go_wp2_with fail
  go_ret
  have f12 := (f1d.mono (fun c (x : c = 21 + 3 * i) => (Or.inl x : c = 21 + 3 * i ∨ c = 22 + 3 * i))).trans (f2.mono (fun c (x : c = 22 + 3 * i) => (Or.inr x : c = 21 + 3 * i ∨ c = 22 + 3 * i))) (fun _ x => x)
  have hx2 : ∀ m, om' = some m → ∃ q, xv = .pointer (some ⟨q, 0, none⟩) ∧ PDisk w1.drew (Own w1.drew ow1 (21 + 3 * i)) q m := fun m hm => by
    obtain ⟨q, e, hq⟩ := HX.out m hm
    exact ⟨q, e, hq.later (Below.refl _ _).drew⟩
  refine ⟨by first | rfl | simp, ow2, HW0.out.shell f12 (by omega) (disks2_end HBO.out.nil f2 hx2 hd), (HF0.out.mono ?_).trans (f12.mono ?_) (fun _ x => x)⟩
  · intro c hc; exact hc.elim
  · intro c hc; omega

set_option maxRecDepth 20000 in
set_option maxHeartbeats 1000000 in
theorem writesSync (w : World) (ow : Nat → Nat) (i B : Nat) (xv dv : Value) (om om' : Option DiskM) (E : Int) (W A C : Int) (S T : ByteArray) (la : Option Addr) (ln lc : Nat) (h : WorldC w ow i B xv dv om)
    (hb : ∀ w1 ow1, Disks2 w1 ow1 i xv dv om → Both 29 30 [.string S] w1 ow1 i xv dv om' E) :
    Calls Tryz.prog 11 #[.pointer (some ⟨B, 0, none⟩), opV 4 W A C S T la ln lc] w fun e w' => e = .returned (.bool true) ∧ ∃ ow', WorldC w' ow' i B xv dv om' ∧ Fr (fun c => c = 20 + 3 * i ∨ c = 21 + 3 * i ∨ c = 22 + 3 * i) w ow w' ow' := by
  have f0 := Fr.ofBelow ow (((Below.refl _ w).alloc (Nat.le_refl _) (.cells #[.int .i64 4, .int .i64 W, .int .i64 A, .int .i64 C, .string S, .string T, .slice la ln lc] 39)).drew) (fun _ => False) 0
  have hc0 : ext w ow 0 w.heap.size = 0 := by unfold ext; rw [if_neg (by omega)]
  have bx := bx7_new w (.int .i64 4) (.int .i64 W) (.int .i64 A) (.int .i64 C) (.string S) (.string T) (.slice la ln lc) 39
  have bxd := bx.drew
  have h0 := h.frame f0 (fun x => x) (fun x => x) (fun x => x)
  have HBO := hide (hb _ _ h0.disks)
  have HF0 := hide f0
  have HW0 := hide h0
  have HBX := hide bxd
  have HC0 := hide hc0
  obtain ⟨b0, b1, b2, b3, b4, b5, b6, bl⟩ := bx
  have hS1 := hold_start h0 bxd
  clear f0 hc0 h0 bxd h hb
  unfold opV
  go_enter Tryz.func11, Tryz.ntmps11
  go_wp2_with fail
  go_region_held (fun w' => w'.cell? ⟨B, 0, none⟩ = some xv ∧ w'.cell? ⟨B, 1, none⟩ = some dv ∧ w'.cell? ⟨w.heap.size, 2, none⟩ = some (.int .i64 A) ∧ w'.cell? ⟨w.heap.size, 4, none⟩ = some (.string S) ∧ w'.cell? ⟨w.heap.size, 5, none⟩ = some (.string T)) (first | assumption | (exact hS1) | (exact hold_call HW0.out HBX.out HC0.out f1 (by omega) (by omega))) (first | (go_at_call 29; refine HBO.out.x.mono ?_; rintro e w1 ⟨rfl, ow1, f1, hx⟩))
  rename_i hHeld
  have hS2 : w1.drew.cell? ⟨B, 0, none⟩ = some xv ∧ w1.drew.cell? ⟨B, 1, none⟩ = some dv ∧ w1.drew.cell? ⟨w.heap.size, 2, none⟩ = some (.int .i64 A) ∧ w1.drew.cell? ⟨w.heap.size, 4, none⟩ = some (.string S) ∧ w1.drew.cell? ⟨w.heap.size, 5, none⟩ = some (.string T) := hHeld
  have HX := hide hx
  have f1d := f1.drew'
  have HF1 := hide f1d
  clear b0 b1 b2 b3 b4 b5 b6 bl hS1 hHeld f1 hx
  go_wp2_with fail
  go_region_held (fun w' => w'.cell? ⟨B, 0, none⟩ = some xv ∧ w'.cell? ⟨B, 1, none⟩ = some dv ∧ w'.cell? ⟨w.heap.size, 2, none⟩ = some (.int .i64 A) ∧ w'.cell? ⟨w.heap.size, 4, none⟩ = some (.string S) ∧ w'.cell? ⟨w.heap.size, 5, none⟩ = some (.string T)) (first | assumption | (exact hS2) | (exact hold_call2 HW0.out HBX.out HC0.out f1d f2 (by omega) (by omega) (by omega) (by omega))) (first | (go_at_call 30; refine (HBO.out.d _ ow1 f1d).mono ?_; rintro e w2 ⟨rfl, ow2, f2, hd⟩))
  clear hS2
  go_wp2_with fail
  go_ret
  have f12 := (f1d.mono (fun c (x : c = 21 + 3 * i) => (Or.inl x : c = 21 + 3 * i ∨ c = 22 + 3 * i))).trans (f2.mono (fun c (x : c = 22 + 3 * i) => (Or.inr x : c = 21 + 3 * i ∨ c = 22 + 3 * i))) (fun _ x => x)
  have hx2 : ∀ m, om' = some m → ∃ q, xv = .pointer (some ⟨q, 0, none⟩) ∧ PDisk w1.drew (Own w1.drew ow1 (21 + 3 * i)) q m := fun m hm => by
    obtain ⟨q, e, hq⟩ := HX.out m hm
    exact ⟨q, e, hq.later (Below.refl _ _).drew⟩
  refine ⟨by first | rfl | simp, ow2, HW0.out.shell f12 (by omega) (disks2_end HBO.out.nil f2 hx2 hd), (HF0.out.mono ?_).trans (f12.mono ?_) (fun _ x => x)⟩
  · intro c hc; exact hc.elim
  · intro c hc; omega

set_option maxRecDepth 20000 in
set_option maxHeartbeats 1000000 in
theorem writesRename (w : World) (ow : Nat → Nat) (i B : Nat) (xv dv : Value) (om om' : Option DiskM) (E : Int) (W A C : Int) (S T : ByteArray) (la : Option Addr) (ln lc : Nat) (h : WorldC w ow i B xv dv om)
    (hb : ∀ w1 ow1, Disks2 w1 ow1 i xv dv om → Both 31 32 [.string S, .string T] w1 ow1 i xv dv om' E) :
    Calls Tryz.prog 11 #[.pointer (some ⟨B, 0, none⟩), opV 5 W A C S T la ln lc] w fun e w' => e = .returned (.bool true) ∧ ∃ ow', WorldC w' ow' i B xv dv om' ∧ Fr (fun c => c = 20 + 3 * i ∨ c = 21 + 3 * i ∨ c = 22 + 3 * i) w ow w' ow' := by
  have f0 := Fr.ofBelow ow (((Below.refl _ w).alloc (Nat.le_refl _) (.cells #[.int .i64 5, .int .i64 W, .int .i64 A, .int .i64 C, .string S, .string T, .slice la ln lc] 39)).drew) (fun _ => False) 0
  have hc0 : ext w ow 0 w.heap.size = 0 := by unfold ext; rw [if_neg (by omega)]
  have bx := bx7_new w (.int .i64 5) (.int .i64 W) (.int .i64 A) (.int .i64 C) (.string S) (.string T) (.slice la ln lc) 39
  have bxd := bx.drew
  have h0 := h.frame f0 (fun x => x) (fun x => x) (fun x => x)
  have HBO := hide (hb _ _ h0.disks)
  have HF0 := hide f0
  have HW0 := hide h0
  have HBX := hide bxd
  have HC0 := hide hc0
  obtain ⟨b0, b1, b2, b3, b4, b5, b6, bl⟩ := bx
  have hS1 := hold_start h0 bxd
  clear f0 hc0 h0 bxd h hb
  unfold opV
  go_enter Tryz.func11, Tryz.ntmps11
  go_wp2_with fail
  go_region_held (fun w' => w'.cell? ⟨B, 0, none⟩ = some xv ∧ w'.cell? ⟨B, 1, none⟩ = some dv ∧ w'.cell? ⟨w.heap.size, 2, none⟩ = some (.int .i64 A) ∧ w'.cell? ⟨w.heap.size, 4, none⟩ = some (.string S) ∧ w'.cell? ⟨w.heap.size, 5, none⟩ = some (.string T)) (first | assumption | (exact hS1) | (exact hold_call HW0.out HBX.out HC0.out f1 (by omega) (by omega))) (first | (go_at_call 31; refine HBO.out.x.mono ?_; rintro e w1 ⟨rfl, ow1, f1, hx⟩))
  rename_i hHeld
  have hS2 : w1.drew.cell? ⟨B, 0, none⟩ = some xv ∧ w1.drew.cell? ⟨B, 1, none⟩ = some dv ∧ w1.drew.cell? ⟨w.heap.size, 2, none⟩ = some (.int .i64 A) ∧ w1.drew.cell? ⟨w.heap.size, 4, none⟩ = some (.string S) ∧ w1.drew.cell? ⟨w.heap.size, 5, none⟩ = some (.string T) := hHeld
  have HX := hide hx
  have f1d := f1.drew'
  have HF1 := hide f1d
  clear b0 b1 b2 b3 b4 b5 b6 bl hS1 hHeld f1 hx
  go_wp2_with fail
  go_region_held (fun w' => w'.cell? ⟨B, 0, none⟩ = some xv ∧ w'.cell? ⟨B, 1, none⟩ = some dv ∧ w'.cell? ⟨w.heap.size, 2, none⟩ = some (.int .i64 A) ∧ w'.cell? ⟨w.heap.size, 4, none⟩ = some (.string S) ∧ w'.cell? ⟨w.heap.size, 5, none⟩ = some (.string T)) (first | assumption | (exact hS2) | (exact hold_call2 HW0.out HBX.out HC0.out f1d f2 (by omega) (by omega) (by omega) (by omega))) (first | (go_at_call 32; refine (HBO.out.d _ ow1 f1d).mono ?_; rintro e w2 ⟨rfl, ow2, f2, hd⟩))
  clear hS2
  go_wp2_with fail
  go_ret
  have f12 := (f1d.mono (fun c (x : c = 21 + 3 * i) => (Or.inl x : c = 21 + 3 * i ∨ c = 22 + 3 * i))).trans (f2.mono (fun c (x : c = 22 + 3 * i) => (Or.inr x : c = 21 + 3 * i ∨ c = 22 + 3 * i))) (fun _ x => x)
  have hx2 : ∀ m, om' = some m → ∃ q, xv = .pointer (some ⟨q, 0, none⟩) ∧ PDisk w1.drew (Own w1.drew ow1 (21 + 3 * i)) q m := fun m hm => by
    obtain ⟨q, e, hq⟩ := HX.out m hm
    exact ⟨q, e, hq.later (Below.refl _ _).drew⟩
  refine ⟨by first | rfl | simp, ow2, HW0.out.shell f12 (by omega) (disks2_end HBO.out.nil f2 hx2 hd), (HF0.out.mono ?_).trans (f12.mono ?_) (fun _ x => x)⟩
  · intro c hc; exact hc.elim
  · intro c hc; omega

set_option maxRecDepth 20000 in
set_option maxHeartbeats 1000000 in
theorem writesDelete (w : World) (ow : Nat → Nat) (i B : Nat) (xv dv : Value) (om om' : Option DiskM) (E : Int) (W A C : Int) (S T : ByteArray) (la : Option Addr) (ln lc : Nat) (h : WorldC w ow i B xv dv om)
    (hb : ∀ w1 ow1, Disks2 w1 ow1 i xv dv om → Both 33 34 [.string S] w1 ow1 i xv dv om' E) :
    Calls Tryz.prog 11 #[.pointer (some ⟨B, 0, none⟩), opV 6 W A C S T la ln lc] w fun e w' => e = .returned (.bool true) ∧ ∃ ow', WorldC w' ow' i B xv dv om' ∧ Fr (fun c => c = 20 + 3 * i ∨ c = 21 + 3 * i ∨ c = 22 + 3 * i) w ow w' ow' := by
  have f0 := Fr.ofBelow ow (((Below.refl _ w).alloc (Nat.le_refl _) (.cells #[.int .i64 6, .int .i64 W, .int .i64 A, .int .i64 C, .string S, .string T, .slice la ln lc] 39)).drew) (fun _ => False) 0
  have hc0 : ext w ow 0 w.heap.size = 0 := by unfold ext; rw [if_neg (by omega)]
  have bx := bx7_new w (.int .i64 6) (.int .i64 W) (.int .i64 A) (.int .i64 C) (.string S) (.string T) (.slice la ln lc) 39
  have bxd := bx.drew
  have h0 := h.frame f0 (fun x => x) (fun x => x) (fun x => x)
  have HBO := hide (hb _ _ h0.disks)
  have HF0 := hide f0
  have HW0 := hide h0
  have HBX := hide bxd
  have HC0 := hide hc0
  obtain ⟨b0, b1, b2, b3, b4, b5, b6, bl⟩ := bx
  have hS1 := hold_start h0 bxd
  clear f0 hc0 h0 bxd h hb
  unfold opV
  go_enter Tryz.func11, Tryz.ntmps11
  go_wp2_with fail
  go_region_held (fun w' => w'.cell? ⟨B, 0, none⟩ = some xv ∧ w'.cell? ⟨B, 1, none⟩ = some dv ∧ w'.cell? ⟨w.heap.size, 2, none⟩ = some (.int .i64 A) ∧ w'.cell? ⟨w.heap.size, 4, none⟩ = some (.string S) ∧ w'.cell? ⟨w.heap.size, 5, none⟩ = some (.string T)) (first | assumption | (exact hS1) | (exact hold_call HW0.out HBX.out HC0.out f1 (by omega) (by omega))) (first | (go_at_call 33; refine HBO.out.x.mono ?_; rintro e w1 ⟨rfl, ow1, f1, hx⟩))
  rename_i hHeld
  have hS2 : w1.drew.cell? ⟨B, 0, none⟩ = some xv ∧ w1.drew.cell? ⟨B, 1, none⟩ = some dv ∧ w1.drew.cell? ⟨w.heap.size, 2, none⟩ = some (.int .i64 A) ∧ w1.drew.cell? ⟨w.heap.size, 4, none⟩ = some (.string S) ∧ w1.drew.cell? ⟨w.heap.size, 5, none⟩ = some (.string T) := hHeld
  have HX := hide hx
  have f1d := f1.drew'
  have HF1 := hide f1d
  clear b0 b1 b2 b3 b4 b5 b6 bl hS1 hHeld f1 hx
  go_wp2_with fail
  go_region_held (fun w' => w'.cell? ⟨B, 0, none⟩ = some xv ∧ w'.cell? ⟨B, 1, none⟩ = some dv ∧ w'.cell? ⟨w.heap.size, 2, none⟩ = some (.int .i64 A) ∧ w'.cell? ⟨w.heap.size, 4, none⟩ = some (.string S) ∧ w'.cell? ⟨w.heap.size, 5, none⟩ = some (.string T)) (first | assumption | (exact hS2) | (exact hold_call2 HW0.out HBX.out HC0.out f1d f2 (by omega) (by omega) (by omega) (by omega))) (first | (go_at_call 34; refine (HBO.out.d _ ow1 f1d).mono ?_; rintro e w2 ⟨rfl, ow2, f2, hd⟩))
  clear hS2
  go_wp2_with fail
  go_ret
  have f12 := (f1d.mono (fun c (x : c = 21 + 3 * i) => (Or.inl x : c = 21 + 3 * i ∨ c = 22 + 3 * i))).trans (f2.mono (fun c (x : c = 22 + 3 * i) => (Or.inr x : c = 21 + 3 * i ∨ c = 22 + 3 * i))) (fun _ x => x)
  have hx2 : ∀ m, om' = some m → ∃ q, xv = .pointer (some ⟨q, 0, none⟩) ∧ PDisk w1.drew (Own w1.drew ow1 (21 + 3 * i)) q m := fun m hm => by
    obtain ⟨q, e, hq⟩ := HX.out m hm
    exact ⟨q, e, hq.later (Below.refl _ _).drew⟩
  refine ⟨by first | rfl | simp, ow2, HW0.out.shell f12 (by omega) (disks2_end HBO.out.nil f2 hx2 hd), (HF0.out.mono ?_).trans (f12.mono ?_) (fun _ x => x)⟩
  · intro c hc; exact hc.elim
  · intro c hc; omega

set_option maxRecDepth 20000 in
set_option maxHeartbeats 1000000 in
theorem writesTruncate (w : World) (ow : Nat → Nat) (i B : Nat) (xv dv : Value) (om om' : Option DiskM) (E : Int) (W A C : Int) (S T : ByteArray) (la : Option Addr) (ln lc : Nat) (h : WorldC w ow i B xv dv om)
    (hb : ∀ w1 ow1, Disks2 w1 ow1 i xv dv om → Both 35 36 [.string S, .int .i64 A] w1 ow1 i xv dv om' E) :
    Calls Tryz.prog 11 #[.pointer (some ⟨B, 0, none⟩), opV 7 W A C S T la ln lc] w fun e w' => e = .returned (.bool true) ∧ ∃ ow', WorldC w' ow' i B xv dv om' ∧ Fr (fun c => c = 20 + 3 * i ∨ c = 21 + 3 * i ∨ c = 22 + 3 * i) w ow w' ow' := by
  have f0 := Fr.ofBelow ow (((Below.refl _ w).alloc (Nat.le_refl _) (.cells #[.int .i64 7, .int .i64 W, .int .i64 A, .int .i64 C, .string S, .string T, .slice la ln lc] 39)).drew) (fun _ => False) 0
  have hc0 : ext w ow 0 w.heap.size = 0 := by unfold ext; rw [if_neg (by omega)]
  have bx := bx7_new w (.int .i64 7) (.int .i64 W) (.int .i64 A) (.int .i64 C) (.string S) (.string T) (.slice la ln lc) 39
  have bxd := bx.drew
  have h0 := h.frame f0 (fun x => x) (fun x => x) (fun x => x)
  have HBO := hide (hb _ _ h0.disks)
  have HF0 := hide f0
  have HW0 := hide h0
  have HBX := hide bxd
  have HC0 := hide hc0
  obtain ⟨b0, b1, b2, b3, b4, b5, b6, bl⟩ := bx
  have hS1 := hold_start h0 bxd
  clear f0 hc0 h0 bxd h hb
  unfold opV
  go_enter Tryz.func11, Tryz.ntmps11
  go_wp2_with fail
  go_region_held (fun w' => w'.cell? ⟨B, 0, none⟩ = some xv ∧ w'.cell? ⟨B, 1, none⟩ = some dv ∧ w'.cell? ⟨w.heap.size, 2, none⟩ = some (.int .i64 A) ∧ w'.cell? ⟨w.heap.size, 4, none⟩ = some (.string S) ∧ w'.cell? ⟨w.heap.size, 5, none⟩ = some (.string T)) (first | assumption | (exact hS1) | (exact hold_call HW0.out HBX.out HC0.out f1 (by omega) (by omega))) (first | (go_at_call 35; refine HBO.out.x.mono ?_; rintro e w1 ⟨rfl, ow1, f1, hx⟩))
  rename_i hHeld
  have hS2 : w1.drew.cell? ⟨B, 0, none⟩ = some xv ∧ w1.drew.cell? ⟨B, 1, none⟩ = some dv ∧ w1.drew.cell? ⟨w.heap.size, 2, none⟩ = some (.int .i64 A) ∧ w1.drew.cell? ⟨w.heap.size, 4, none⟩ = some (.string S) ∧ w1.drew.cell? ⟨w.heap.size, 5, none⟩ = some (.string T) := hHeld
  have HX := hide hx
  have f1d := f1.drew'
  have HF1 := hide f1d
  clear b0 b1 b2 b3 b4 b5 b6 bl hS1 hHeld f1 hx
  go_wp2_with fail
  go_region_held (fun w' => w'.cell? ⟨B, 0, none⟩ = some xv ∧ w'.cell? ⟨B, 1, none⟩ = some dv ∧ w'.cell? ⟨w.heap.size, 2, none⟩ = some (.int .i64 A) ∧ w'.cell? ⟨w.heap.size, 4, none⟩ = some (.string S) ∧ w'.cell? ⟨w.heap.size, 5, none⟩ = some (.string T)) (first | assumption | (exact hS2) | (exact hold_call2 HW0.out HBX.out HC0.out f1d f2 (by omega) (by omega) (by omega) (by omega))) (first | (go_at_call 36; refine (HBO.out.d _ ow1 f1d).mono ?_; rintro e w2 ⟨rfl, ow2, f2, hd⟩))
  clear hS2
  go_wp2_with fail
  go_ret
  have f12 := (f1d.mono (fun c (x : c = 21 + 3 * i) => (Or.inl x : c = 21 + 3 * i ∨ c = 22 + 3 * i))).trans (f2.mono (fun c (x : c = 22 + 3 * i) => (Or.inr x : c = 21 + 3 * i ∨ c = 22 + 3 * i))) (fun _ x => x)
  have hx2 : ∀ m, om' = some m → ∃ q, xv = .pointer (some ⟨q, 0, none⟩) ∧ PDisk w1.drew (Own w1.drew ow1 (21 + 3 * i)) q m := fun m hm => by
    obtain ⟨q, e, hq⟩ := HX.out m hm
    exact ⟨q, e, hq.later (Below.refl _ _).drew⟩
  refine ⟨by first | rfl | simp, ow2, HW0.out.shell f12 (by omega) (disks2_end HBO.out.nil f2 hx2 hd), (HF0.out.mono ?_).trans (f12.mono ?_) (fun _ x => x)⟩
  · intro c hc; exact hc.elim
  · intro c hc; omega

set_option maxRecDepth 20000 in
set_option maxHeartbeats 1000000 in
theorem writesBreak (w : World) (ow : Nat → Nat) (i B : Nat) (xv dv : Value) (om om' : Option DiskM) (E : Int) (W A C : Int) (S T : ByteArray) (la : Option Addr) (ln lc : Nat) (h : WorldC w ow i B xv dv om)
    (hb : ∀ w1 ow1, Disks2 w1 ow1 i xv dv om → Both 37 38 [.int .i64 A] w1 ow1 i xv dv om' E) :
    Calls Tryz.prog 11 #[.pointer (some ⟨B, 0, none⟩), opV 24 W A C S T la ln lc] w fun e w' => e = .returned (.bool true) ∧ ∃ ow', WorldC w' ow' i B xv dv om' ∧ Fr (fun c => c = 20 + 3 * i ∨ c = 21 + 3 * i ∨ c = 22 + 3 * i) w ow w' ow' := by
  have f0 := Fr.ofBelow ow (((Below.refl _ w).alloc (Nat.le_refl _) (.cells #[.int .i64 24, .int .i64 W, .int .i64 A, .int .i64 C, .string S, .string T, .slice la ln lc] 39)).drew) (fun _ => False) 0
  have hc0 : ext w ow 0 w.heap.size = 0 := by unfold ext; rw [if_neg (by omega)]
  have bx := bx7_new w (.int .i64 24) (.int .i64 W) (.int .i64 A) (.int .i64 C) (.string S) (.string T) (.slice la ln lc) 39
  have bxd := bx.drew
  have h0 := h.frame f0 (fun x => x) (fun x => x) (fun x => x)
  have HBO := hide (hb _ _ h0.disks)
  have HF0 := hide f0
  have HW0 := hide h0
  have HBX := hide bxd
  have HC0 := hide hc0
  obtain ⟨b0, b1, b2, b3, b4, b5, b6, bl⟩ := bx
  have hS1 := hold_start h0 bxd
  clear f0 hc0 h0 bxd h hb
  unfold opV
  go_enter Tryz.func11, Tryz.ntmps11
  go_wp2_with fail
  go_region_held (fun w' => w'.cell? ⟨B, 0, none⟩ = some xv ∧ w'.cell? ⟨B, 1, none⟩ = some dv ∧ w'.cell? ⟨w.heap.size, 2, none⟩ = some (.int .i64 A) ∧ w'.cell? ⟨w.heap.size, 4, none⟩ = some (.string S) ∧ w'.cell? ⟨w.heap.size, 5, none⟩ = some (.string T)) (first | assumption | (exact hS1) | (exact hold_call HW0.out HBX.out HC0.out f1 (by omega) (by omega))) (first | (go_at_call 37; refine HBO.out.x.mono ?_; rintro e w1 ⟨rfl, ow1, f1, hx⟩))
  rename_i hHeld
  have hS2 : w1.drew.cell? ⟨B, 0, none⟩ = some xv ∧ w1.drew.cell? ⟨B, 1, none⟩ = some dv ∧ w1.drew.cell? ⟨w.heap.size, 2, none⟩ = some (.int .i64 A) ∧ w1.drew.cell? ⟨w.heap.size, 4, none⟩ = some (.string S) ∧ w1.drew.cell? ⟨w.heap.size, 5, none⟩ = some (.string T) := hHeld
  have HX := hide hx
  have f1d := f1.drew'
  have HF1 := hide f1d
  clear b0 b1 b2 b3 b4 b5 b6 bl hS1 hHeld f1 hx
  go_wp2_with fail
  go_region_held (fun w' => w'.cell? ⟨B, 0, none⟩ = some xv ∧ w'.cell? ⟨B, 1, none⟩ = some dv ∧ w'.cell? ⟨w.heap.size, 2, none⟩ = some (.int .i64 A) ∧ w'.cell? ⟨w.heap.size, 4, none⟩ = some (.string S) ∧ w'.cell? ⟨w.heap.size, 5, none⟩ = some (.string T)) (first | assumption | (exact hS2) | (exact hold_call2 HW0.out HBX.out HC0.out f1d f2 (by omega) (by omega) (by omega) (by omega))) (first | (go_at_call 38; refine (HBO.out.d _ ow1 f1d).mono ?_; rintro e w2 ⟨rfl, ow2, f2, hd⟩))
  clear hS2
  go_wp2_with fail
  go_ret
  have f12 := (f1d.mono (fun c (x : c = 21 + 3 * i) => (Or.inl x : c = 21 + 3 * i ∨ c = 22 + 3 * i))).trans (f2.mono (fun c (x : c = 22 + 3 * i) => (Or.inr x : c = 21 + 3 * i ∨ c = 22 + 3 * i))) (fun _ x => x)
  have hx2 : ∀ m, om' = some m → ∃ q, xv = .pointer (some ⟨q, 0, none⟩) ∧ PDisk w1.drew (Own w1.drew ow1 (21 + 3 * i)) q m := fun m hm => by
    obtain ⟨q, e, hq⟩ := HX.out m hm
    exact ⟨q, e, hq.later (Below.refl _ _).drew⟩
  refine ⟨by first | rfl | simp, ow2, HW0.out.shell f12 (by omega) (disks2_end HBO.out.nil f2 hx2 hd), (HF0.out.mono ?_).trans (f12.mono ?_) (fun _ x => x)⟩
  · intro c hc; exact hc.elim
  · intro c hc; omega

end Go.Proofs.YthcnkbeognkjgaaGreatDoor
