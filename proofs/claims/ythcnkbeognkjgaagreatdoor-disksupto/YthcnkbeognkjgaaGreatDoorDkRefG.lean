/-
  The document's disk, walked: Crash.
-/
import Derived.Test.YthcnkbeognkjgaaGreatDoorDkRefC
import Derived.Test.YthcnkbeognkjgaaGreatDoorDkTouch
namespace Go.Proofs.YthcnkbeognkjgaaGreatDoor
open Go.RowKit
open Rl

namespace Rl
theorem crashL_len (keep : List Int) (l : List FileM) (k : Nat) (h : k ≤ l.length) : (crashL keep l k).length = l.length := by simp [crashL]; omega

theorem crashL_at (keep : List Int) (l : List FileM) (k : Nat) (h : k < l.length) : (crashL keep l k)[k]? = some l[k] := by
  unfold crashL
  rw [List.getElem?_append_right (by simp; omega)]
  simp only [List.length_mapIdx, List.length_take]
  rw [show min k l.length = k by omega, Nat.sub_self, List.getElem?_drop, Nat.add_zero]
  exact List.getElem?_eq_getElem h

theorem crashL_step (keep : List Int) (l : List FileM) (k : Nat) (h : k < l.length) : (crashL keep l k).set k (crashF l[k] (keepAt keep k)) = crashL keep l (k + 1) := by
  unfold crashL
  have hl : ((l.take k).mapIdx (fun i f => crashF f (keepAt keep i))).length = k := by simp; omega
  rw [List.set_append_right _ _ (by omega), hl, Nat.sub_self, List.drop_eq_getElem_cons h, List.set_cons_zero, List.take_succ_eq_append_getElem h, List.mapIdx_append]
  simp
  rw [show min k l.length = k by omega]
theorem crashL_0 (keep : List Int) (l : List FileM) : crashL keep l 0 = l := by simp [crashL]
theorem crashL_full (keep : List Int) (l : List FileM) : crashL keep l l.length = l.mapIdx (fun i f => crashF f (keepAt keep i)) := by simp [crashL]

theorem RDisk.block' {w : World} {S : Nat → Prop} {p n c : Nat} {a : Option Addr} {m : DiskM} (h : RDisk w S p (.slice a n c) m) (hn : 0 < n) : ∃ g, a = some ⟨g, 0, none⟩ := by
  have e := h.len
  rcases h.row.2 with ⟨_, h0⟩ | ⟨g, cap, cur, e2, _⟩
  · omega
  · injection e2 with e3 _ _
    exact ⟨g, e3⟩

theorem rowAt_slice {w : World} {v : Value} {n size : Nat} {xs : List Value} (h : RowAt w v n size xs) : ∃ a c, v = .slice a n c := by
  rcases h.2 with ⟨a, c, rfl, rfl⟩ | ⟨b, o, cap, rfl, _⟩
  · exact ⟨a, c, rfl⟩
  · exact ⟨_, cap, rfl⟩

theorem crash_set {l l2 : List FileM} {k : Nat} {f : FileM} {mr : Int} {N : Nat} {D : ByteArray} (h : l.set k (crashF f mr) = l2) (hf : crashF f mr = { name := f.name, data := f.data.extract 0 N, sync := N }) (hD : D = f.data.extract 0 N) :
    (l.set k { f with data := D }).set k { name := f.name, data := D, sync := N } = l2 := by rw [List.set_set, ← h, hf, hD]

theorem rdisk_files {w : World} {S : Nat → Prop} {p : Nat} {fv : Value} {r a : Int} {l l2 : List FileM} (h : RDisk w S p fv ⟨r, l, a⟩) (e : l = l2) : RDisk w S p fv ⟨r, l2, a⟩ := e ▸ h

theorem crash_file (f : FileM) (mr : Int) (N : Nat) (h : crashN f mr = N) : crashF f mr = { name := f.name, data := f.data.extract 0 N, sync := N } := by unfold crashF; rw [h]

theorem box_behind (w : World) (g j : Nat) (u a b c : Value) (T : TypeId) : Bx3 ((w.setCell ⟨g, j, none⟩ u).alloc (.cells #[a, b, c] T)).drew w.heap.size a b c := by
  have h := bx3_new (w.setCell ⟨g, j, none⟩ u) a b c T
  rw [show (w.setCell ⟨g, j, none⟩ u).heap.size = w.heap.size by simp] at h
  exact h.later (Below.refl _ _).drew

theorem get_set {l : List FileM} {k : Nat} {f : FileM} (h : l[k]? = some f) (x : FileM) : (l.set k x)[k]? = some x := List.getElem?_set_self (List.getElem?_eq_some_iff.1 h).1

theorem box_cells {w : World} {n : Nat} {a b c : Value} (h : Bx3 w n a b c) : w.cell? ⟨n, 0, none⟩ = some a ∧ w.cell? ⟨n, 1, none⟩ = some b ∧ w.cell? ⟨n, 2, none⟩ = some c := ⟨h.c0, h.c1, h.c2⟩
end Rl

set_option maxRecDepth 20000 in
set_option maxHeartbeats 4000000 in
theorem refCrash_any (w : World) (S : Nat → Prop) (p : Nat) (fv : Value) (m : DiskM) (h : RDisk w S p fv m) (hn : m.files.length ≤ 4194304) (hu : usedF m.files ≤ 4194304) (hsy : ∀ f ∈ m.files, f.sync ≤ f.data.size) (kv : Value) (keep : List Int) (hk : RowAt w kv keep.length 1 (ints keep)) (_hkl : keep.length ≤ 4194304) (hks : keep.length ≠ 0 → ∀ k, kv.ownBlock = some k → ¬ S k) :
    Calls Tryz.prog 40 #[.pointer (some ⟨p, 0, none⟩), kv] w fun e w' => e = .returned (.int .i64 0) ∧ Becomes S w w' p (crashM m keep) := by
  have HI := hide h
  have HL : Hid (RDisk (w.setCell ⟨p, 2, none⟩ (.int .i64 (-1))) S p fv { m with files := crashL keep m.files 0, left := -1 }) := by rw [crashL_0]; exact h.setLeft (-1)
  have HT : Hid (Tch S w (w.setCell ⟨p, 2, none⟩ (.int .i64 (-1)))) := touch_set _ h.own
  have HNS : Hid (∀ j, w.heap.size ≤ j → ¬ S j) := fun j hj hs => by have := h.lt j hs; omega
  obtain ⟨c0, c1, c2, f0, f1, f2, hl⟩ := h.box
  obtain ⟨av, cv, rfl⟩ := slice_owned h.row
  obtain ⟨ka, kc, rfl⟩ := rowAt_slice hk
  have HK := hide hk
  have HKS := hide hks
  have HM : Hid (crashM m keep = { m with files := m.files.mapIdx (fun i f => crashF f (keepAt keep i)), left := -1 }) := rfl
  obtain ⟨M, hM⟩ : ∃ M, M = crashM m keep := ⟨_, rfl⟩
  rw [← hM] at HM ⊢
  clear hk hks h hM
  go_enter Tryz.func40, Tryz.ntmps40
  go_wp2
  go_loopw [5] (fun i wr => ∃ (k : Nat), k ≤ m.files.length ∧ i = .int .i64 k ∧ RDisk wr S p (.slice av m.files.length cv) { m with files := crashL keep m.files k, left := -1 } ∧ Tch S w wr) (fun i _ => m.files.length - (intOf i).toNat)
  case atStart => exact ⟨0, Nat.zero_le _, rfl, HL.out, HT.out⟩
  case round =>
    obtain ⟨k, hkm, rfl, hi, hT⟩ := hrel
    have HR := hide hi
    have HTT := hide hT
    obtain ⟨d0, d1, d2, y0, y1, y2, dl⟩ := hi.box
    by_cases hlt : k < m.files.length
    · obtain ⟨g, rfl⟩ := hi.block' (by omega)
      have HG := hide (crashL_at keep m.files k hlt)
      have HS := hide (crashL_step keep m.files k hlt)
      have hs1 := hsy _ (List.getElem_mem hlt)
      have hs2 := Nat.le_trans (usedF_mem (List.getElem_mem hlt)) hu
      obtain ⟨q0, q1, q2, qf, ql⟩ := hi.at' HG.out
      have qf1 := qf (k * 3 + 1)
      have qf2 := qf (k * 3 + 2)
      have hkr := rowAt_touch0 HK.out hT HKS.out
      have hns : ¬ S wr.heap.size := HNS.out _ hT.size
      clear qf hi hT c0 c1 c2 f0 f1 f2 hl hsy hu
      generalize m.files[k] = f at *
      have hx : (k : Int) < (m.files.length : Int) := by omega
      have hk0 : (0 : Int) ≤ (k : Int) := by omega
      by_cases hkk : k < keep.length
      · have hke : keepAt keep k = keep[k] := by unfold keepAt; rw [List.getD_eq_getElem?_getD, List.getElem?_eq_getElem hkk]; rfl
        rcases hkr.2 with ⟨_, _, _, e0⟩ | ⟨kg, ko, kcap, ek, _, hkb, hkc⟩
        · omega
        · cases ek
          have ck := hkc _ _ (ints_get keep k hkk)
          rw [Nat.mul_one, ← hke] at ck
          have hkki : (k : Int) < (keep.length : Int) := by omega
          clear hkc hkr hke
          generalize keepAt keep k = mr at *
          by_cases hpos : 0 < mr
          · obtain ⟨r, rfl⟩ : ∃ r : Nat, mr = (r : Int) := ⟨mr.toNat, by omega⟩
            have hdp : decide (0 < (r : Int)) = true := decide_eq_true hpos
            have hw : IntKind.i64.wrap ((f.data.size : Int) - (f.sync : Int)) = (f.data.size : Int) - (f.sync : Int) := by rw [IntKind.wrap_i64]; omega
            by_cases hbig : (f.data.size : Int) - (f.sync : Int) < (r : Int)
            · have hdb : decide ((f.data.size : Int) - (f.sync : Int) < (r : Int)) = true := decide_eq_true hbig
              have hw2 : IntKind.i64.wrap ((f.sync : Int) + ((f.data.size : Int) - (f.sync : Int))) = (f.data.size : Int) := by rw [IntKind.wrap_i64]; omega
              have hN : crashN f (r : Int) = f.data.size := by unfold crashN; omega
              have HE := hide (crash_set HS.out (crash_file f (r : Int) f.data.size hN) (D := f.data) (by first | rfl | exact ByteArray.extract_zero_size.symm))
              go_wp2_with fail
              go_region
              obtain ⟨H1, T1⟩ := HR.out.setData HG.out (f.data)
              have H2 := (H1.later ((Below.refl _ _).alloc (Nat.le_refl _) (.cells #[.string f.name, .string f.data, .int .i64 (f.sync : Int)] 127))).drew
              have T2 := (T1.alloc (.cells #[.string f.name, .string f.data, .int .i64 (f.sync : Int)] 127)).drew
              have bx : Bx3 (((wr.setCell ⟨g, k * 3 + 1, none⟩ (.string (f.data))).alloc (.cells #[.string f.name, .string f.data, .int .i64 (f.sync : Int)] 127)).drew) wr.heap.size (.string f.name) (.string f.data) (.int .i64 (f.sync : Int)) := box_behind wr g (k * 3 + 1) _ _ _ _ _
              obtain ⟨b0, b1, b2, _, _, _, bl⟩ := bx
              obtain ⟨r0, r1, r2, rf, rl⟩ := H2.at' (f := { f with data := f.data }) (get_set HG.out _)
              have rf2 := rf (k * 3 + 2)
              obtain ⟨e0, e1, e2, z0, z1, z2, el⟩ := H2.box
              have HH := hide (H2.setSync (f := { f with data := f.data }) (get_set HG.out _) f.data.size)
              have HT2 := hide T2
              clear H1 T1 H2 T2 rf q0 q1 q2 ql qf1 qf2 d0 d1 d2 y0 y1 y2 dl
              generalize ((wr.setCell ⟨g, k * 3 + 1, none⟩ (.string (f.data))).alloc (.cells #[.string f.name, .string f.data, .int .i64 (f.sync : Int)] 127)).drew = W1 at *
              go_wp2_with fail
              go_region
              go_wp2_with fail
              exact ⟨⟨k + 1, by omega, by go_num, rdisk_files HH.out.1.drew HE.out, (HTT.out.trans HT2.out (fun _ x => .inl x)).trans HH.out.2.drew (fun _ x => .inl x)⟩, by simp [intOf]; omega⟩
            · have hdb : decide ((f.data.size : Int) - (f.sync : Int) < (r : Int)) = false := decide_eq_false hbig
              have hw2 : IntKind.i64.wrap ((f.sync : Int) + (r : Int)) = ((f.sync + r : Nat) : Int) := by rw [IntKind.wrap_i64]; omega
              have hN : crashN f (r : Int) = f.sync + r := by unfold crashN; omega
              have hle : f.sync + r ≤ f.data.size := by omega
              have hle2 : ((f.sync + r : Nat) : Int) ≤ (f.data.size : Int) := by omega
              have HE := hide (crash_set HS.out (crash_file f (r : Int) (f.sync + r) hN) (D := f.data.extract 0 (f.sync + r)) (by first | rfl | exact ByteArray.extract_zero_size.symm))
              go_wp2_with fail
              go_region
              obtain ⟨H1, T1⟩ := HR.out.setData HG.out (f.data.extract 0 (f.sync + r))
              have H2 := (H1.later ((Below.refl _ _).alloc (Nat.le_refl _) (.cells #[.string f.name, .string f.data, .int .i64 (f.sync : Int)] 127))).drew
              have T2 := (T1.alloc (.cells #[.string f.name, .string f.data, .int .i64 (f.sync : Int)] 127)).drew
              have bx : Bx3 (((wr.setCell ⟨g, k * 3 + 1, none⟩ (.string (f.data.extract 0 (f.sync + r)))).alloc (.cells #[.string f.name, .string f.data, .int .i64 (f.sync : Int)] 127)).drew) wr.heap.size (.string f.name) (.string f.data) (.int .i64 (f.sync : Int)) := box_behind wr g (k * 3 + 1) _ _ _ _ _
              obtain ⟨b0, b1, b2, _, _, _, bl⟩ := bx
              obtain ⟨r0, r1, r2, rf, rl⟩ := H2.at' (f := { f with data := f.data.extract 0 (f.sync + r) }) (get_set HG.out _)
              have rf2 := rf (k * 3 + 2)
              obtain ⟨e0, e1, e2, z0, z1, z2, el⟩ := H2.box
              have HH := hide (H2.setSync (f := { f with data := f.data.extract 0 (f.sync + r) }) (get_set HG.out _) (f.sync + r))
              have HT2 := hide T2
              clear H1 T1 H2 T2 rf q0 q1 q2 ql qf1 qf2 d0 d1 d2 y0 y1 y2 dl
              generalize ((wr.setCell ⟨g, k * 3 + 1, none⟩ (.string (f.data.extract 0 (f.sync + r)))).alloc (.cells #[.string f.name, .string f.data, .int .i64 (f.sync : Int)] 127)).drew = W1 at *
              go_wp2_with fail
              go_region
              go_wp2_with fail
              exact ⟨⟨k + 1, by omega, by go_num, rdisk_files HH.out.1.drew HE.out, (HTT.out.trans HT2.out (fun _ x => .inl x)).trans HH.out.2.drew (fun _ x => .inl x)⟩, by simp [intOf]; omega⟩
          · have hdp : decide (0 < mr) = false := decide_eq_false hpos
            have hw : IntKind.i64.wrap ((f.data.size : Int) - (f.sync : Int)) = (f.data.size : Int) - (f.sync : Int) := by rw [IntKind.wrap_i64]; omega
            have hdb : decide ((f.data.size : Int) - (f.sync : Int) < 0) = false := decide_eq_false (by omega)
            have hN : crashN f mr = f.sync := by unfold crashN; omega
            have hle2 : (f.sync : Int) ≤ (f.data.size : Int) := by omega
            have HE := hide (crash_set HS.out (crash_file f mr f.sync hN) (D := f.data.extract 0 f.sync) (by first | rfl | exact ByteArray.extract_zero_size.symm))
            go_wp2_with fail
            go_region
            obtain ⟨H1, T1⟩ := HR.out.setData HG.out (f.data.extract 0 f.sync)
            have H2 := (H1.later ((Below.refl _ _).alloc (Nat.le_refl _) (.cells #[.string f.name, .string f.data, .int .i64 (f.sync : Int)] 127))).drew
            have T2 := (T1.alloc (.cells #[.string f.name, .string f.data, .int .i64 (f.sync : Int)] 127)).drew
            have bx : Bx3 (((wr.setCell ⟨g, k * 3 + 1, none⟩ (.string (f.data.extract 0 f.sync))).alloc (.cells #[.string f.name, .string f.data, .int .i64 (f.sync : Int)] 127)).drew) wr.heap.size (.string f.name) (.string f.data) (.int .i64 (f.sync : Int)) := box_behind wr g (k * 3 + 1) _ _ _ _ _
            obtain ⟨b0, b1, b2, _, _, _, bl⟩ := bx
            obtain ⟨r0, r1, r2, rf, rl⟩ := H2.at' (f := { f with data := f.data.extract 0 f.sync }) (get_set HG.out _)
            have rf2 := rf (k * 3 + 2)
            obtain ⟨e0, e1, e2, z0, z1, z2, el⟩ := H2.box
            have HH := hide (H2.setSync (f := { f with data := f.data.extract 0 f.sync }) (get_set HG.out _) f.sync)
            have HT2 := hide T2
            clear H1 T1 H2 T2 rf q0 q1 q2 ql qf1 qf2 d0 d1 d2 y0 y1 y2 dl
            generalize ((wr.setCell ⟨g, k * 3 + 1, none⟩ (.string (f.data.extract 0 f.sync))).alloc (.cells #[.string f.name, .string f.data, .int .i64 (f.sync : Int)] 127)).drew = W1 at *
            go_wp2_with fail
            go_region
            go_wp2_with fail
            exact ⟨⟨k + 1, by omega, by go_num, rdisk_files HH.out.1.drew HE.out, (HTT.out.trans HT2.out (fun _ x => .inl x)).trans HH.out.2.drew (fun _ x => .inl x)⟩, by simp [intOf]; omega⟩
      · have hkki : ¬ (k : Int) < (keep.length : Int) := by omega
        have hkd : decide ((k : Int) < (keep.length : Int)) = false := decide_eq_false hkki
        have hw : IntKind.i64.wrap ((f.data.size : Int) - (f.sync : Int)) = (f.data.size : Int) - (f.sync : Int) := by rw [IntKind.wrap_i64]; omega
        have hdb : decide ((f.data.size : Int) - (f.sync : Int) < 0) = false := decide_eq_false (by omega)
        have hN : crashN f (keepAt keep k) = f.sync := by have e0 : keepAt keep k = 0 := by unfold keepAt; rw [List.getD_eq_getElem?_getD, List.getElem?_eq_none (by omega)]; rfl
                                                          rw [e0]; unfold crashN; omega
        have hle2 : (f.sync : Int) ≤ (f.data.size : Int) := by omega
        generalize keepAt keep k = mr at *
        have HE := hide (crash_set HS.out (crash_file f mr f.sync hN) (D := f.data.extract 0 f.sync) (by first | rfl | exact ByteArray.extract_zero_size.symm))
        go_wp2_with fail
        go_region
        obtain ⟨H1, T1⟩ := HR.out.setData HG.out (f.data.extract 0 f.sync)
        have H2 := (H1.later ((Below.refl _ _).alloc (Nat.le_refl _) (.cells #[.string f.name, .string f.data, .int .i64 (f.sync : Int)] 127))).drew
        have T2 := (T1.alloc (.cells #[.string f.name, .string f.data, .int .i64 (f.sync : Int)] 127)).drew
        have bx : Bx3 (((wr.setCell ⟨g, k * 3 + 1, none⟩ (.string (f.data.extract 0 f.sync))).alloc (.cells #[.string f.name, .string f.data, .int .i64 (f.sync : Int)] 127)).drew) wr.heap.size (.string f.name) (.string f.data) (.int .i64 (f.sync : Int)) := box_behind wr g (k * 3 + 1) _ _ _ _ _
        obtain ⟨b0, b1, b2, _, _, _, bl⟩ := bx
        obtain ⟨r0, r1, r2, rf, rl⟩ := H2.at' (f := { f with data := f.data.extract 0 f.sync }) (get_set HG.out _)
        have rf2 := rf (k * 3 + 2)
        obtain ⟨e0, e1, e2, z0, z1, z2, el⟩ := H2.box
        have HH := hide (H2.setSync (f := { f with data := f.data.extract 0 f.sync }) (get_set HG.out _) f.sync)
        have HT2 := hide T2
        clear H1 T1 H2 T2 rf q0 q1 q2 ql qf1 qf2 d0 d1 d2 y0 y1 y2 dl
        generalize ((wr.setCell ⟨g, k * 3 + 1, none⟩ (.string (f.data.extract 0 f.sync))).alloc (.cells #[.string f.name, .string f.data, .int .i64 (f.sync : Int)] 127)).drew = W1 at *
        go_wp2_with fail
        go_region
        go_wp2_with fail
        exact ⟨⟨k + 1, by omega, by go_num, rdisk_files HH.out.1.drew HE.out, (HTT.out.trans HT2.out (fun _ x => .inl x)).trans HH.out.2.drew (fun _ x => .inl x)⟩, by simp [intOf]; omega⟩
    · have e : k = m.files.length := by omega
      subst e
      have d0' := d0
      clear hsy hu c0 c1 c2 f0 f1 f2 hl hi hT
      go_wp2_with fail
      go_ret
      rw [HM.out]
      exact ⟨rfl, S, _, rdisk_files HR.out (crashL_full keep m.files), fun _ hk => .inl hk, HTT.out⟩

end Go.Proofs.YthcnkbeognkjgaaGreatDoor
