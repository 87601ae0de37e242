/-
  The program's disk, walked: Crash.
-/
import Derived.Test.YthcnkbeognkjgaaGreatDoorDkNew
import Derived.Test.YthcnkbeognkjgaaGreatDoorDkTouch
import Derived.Test.YthcnkbeognkjgaaGreatDoorDkClosures
import Derived.Test.YthcnkbeognkjgaaGreatDoorDkAppend
import Derived.Deep.CutRange
import Derived.Deep.CutBlock
namespace Go.Proofs.YthcnkbeognkjgaaGreatDoor
open Go.RowKit Go.Shelf Go.WideMaps Go.Maps
open Rl


theorem crashL_zero (keep : List Int) (l : List FileM) : crashL keep l 0 = l := by simp [crashL]
theorem crashL_all (keep : List Int) (l : List FileM) : crashL keep l l.length = l.mapIdx (fun i f => crashF f (keepAt keep i)) := by simp [crashL]
theorem crashL_length (keep : List Int) (l : List FileM) (k : Nat) (h : k ≤ l.length) : (crashL keep l k).length = l.length := by simp [crashL]; omega
theorem crashL_get (keep : List Int) (l : List FileM) (k : Nat) (h : k < l.length) : (crashL keep l k)[k]'(by rw [crashL_length _ _ _ (by omega)]; exact h) = l[k] := by
  simp only [crashL]
  rw [List.getElem_append_right (by simp; omega)]
  simp [Nat.min_eq_left (Nat.le_of_lt h)]
theorem crashL_set (keep : List Int) (l : List FileM) (k : Nat) (h : k < l.length) : (crashL keep l k).set k (crashF l[k] (keepAt keep k)) = crashL keep l (k + 1) := by
  unfold crashL
  rw [List.take_succ_eq_append_getElem h, List.mapIdx_append, List.set_append_right _ _ (by simp; omega)]
  have e : (List.mapIdx (fun i f => crashF f (keepAt keep i)) (l.take k)).length = k := by simp; omega
  rw [e, Nat.sub_self, List.drop_eq_getElem_cons h, List.set_cons_zero, List.append_assoc]
  congr 1
  simp [Nat.min_eq_left (Nat.le_of_lt h)]

theorem crashN_le (f : FileM) (more : Int) (h : f.sync ≤ f.data.size) : crashN f more ≤ f.data.size := by unfold crashN; omega
theorem crashN_eq (f : FileM) (more : Int) (h : f.sync ≤ f.data.size) : (f.sync : Int) + min (max more 0) ((f.data.size : Int) - (f.sync : Int)) = (crashN f more : Int) := by unfold crashN; omega

/-- the disk behind k rounds: the k-th file alone is looked at, and put. -/
theorem crash_round {w : World} {S : Nat → Prop} {p b : Nat} {cv : ByteArray → Value} {m : DiskM} {keep : List Int} {k : Nat} (h : IDisk w S p b cv { m with files := crashL keep m.files k }) (hk : k < m.files.length) (hm : m.files.length ≤ 4194304) :
    ∃ (a : Option Addr) (c : Nat), cv m.files[k].name = .slice a m.files[k].data.size c ∧ m.files[k].sync ≤ m.files[k].data.size ∧
      (∀ wx, IDisk wx S p b cv { m with files := crashL keep m.files k } → (Instr.lookup 84 (.map (some b)) (.string m.files[k].name) false).run Tryz.prog wx = .ok (.agg #[.slice a m.files[k].data.size c, .int .i64 (m.files[k].sync : Int)]) wx) ∧
      w.ownsRow 0 5 1 (.slice a m.files[k].data.size c) m.files[k].data.size (u8s m.files[k].data.data.toList) ∧
      ∀ w1 v, Below w.heap.size w w1 → w.ownsRow 0 5 1 v (crashN m.files[k] (keepAt keep k)) (u8s (m.files[k].data.extract 0 (crashN m.files[k] (keepAt keep k))).data.toList) → v.ownBlock = (Value.slice a m.files[k].data.size c).ownBlock →
        Calls Tryz.prog 140 #[.pointer (some ⟨p, 0, none⟩), .string m.files[k].name, .agg #[v, .int .i64 (crashN m.files[k] (keepAt keep k) : Int)]] w1 fun e w' => e = .returned (.tuple #[]) ∧
          ∃ cv', IDisk w' S p b cv' { m with files := crashL keep m.files (k + 1) } ∧ Tch S w1 w' := by
  have hlen := crashL_length keep m.files k (Nat.le_of_lt hk)
  have hget := crashL_get keep m.files k hk
  have hmem : m.files[k] ∈ crashL keep m.files k := by
    have := List.getElem_mem (l := crashL keep m.files k) (n := k) (by rw [hlen]; exact hk)
    rw [hget] at this; exact this
  obtain ⟨a, c, ev⟩ := slice_owned (h.rows _ hmem)
  have hsy := h.sync _ hmem
  have hl := lookF_mem h.ord hmem
  have hpl : placeF m.files[k].name (crashL keep m.files k) = some k := by
    have := place_get h.ord (k := k) (by simp only; rw [hlen]; exact hk)
    simp only [hget] at this
    exact this
  refine ⟨a, c, ev, hsy, fun wx hx => ?_, by rw [← ev]; exact h.rows _ hmem, fun w1 v hb hrow hv => ?_⟩
  · have := (disk_find hx m.files[k].name (by have := h.names _ hmem; unfold maxLen; omega)).2
    simp only [hl, ev] at this
    exact this
  · have hsz : (crashF m.files[k] (keepAt keep k)).data.size = crashN m.files[k] (keepAt keep k) := extract_size (crashN_le _ _ hsy)
    have hfar := far_self h hmem (v := v) (by rw [hv, ev])
    refine (put_any w1 S p b cv { m with files := crashL keep m.files k } (crashF m.files[k] (keepAt keep k)) v ((h.later hb).but _) (by simp only; rw [hlen]; exact hm) (by rw [hsz]; exact owns_later hrow hb) hfar (h.names m.files[k] hmem) (by rw [hsz]; exact Nat.le_refl _)).mono ?_
    rintro e w' ⟨he, h1, h2⟩
    have hset : setF (crashF m.files[k] (keepAt keep k)) (crashL keep m.files k) = crashL keep m.files (k + 1) :=
      (setF_some (f := crashF m.files[k] (keepAt keep k)) (l := crashL keep m.files k) (k := k) hpl).trans (crashL_set keep m.files k hk)
    rw [hset] at h1
    exact ⟨he, _, h1, h2⟩

theorem cut_row {w : World} {a : Option Addr} {n c k : Nat} {data : ByteArray} (h : w.ownsRow 0 5 1 (.slice a n c) n (u8s data.data.toList)) (hk : k ≤ n) :
    w.ownsRow 0 5 1 (.slice a k c) k (u8s (data.extract 0 k).data.toList) ∧ n ≤ c := by
  rcases h.2 with ⟨e, h0⟩ | ⟨g, cap, cur, e, _, _, hnc, _⟩
  · injection e with e1 _ e2
    subst e1 e2 h0
    obtain rfl : k = 0 := by omega
    exact ⟨⟨by rw [extract_u8s]; rfl, .inl ⟨rfl, rfl⟩⟩, Nat.le_refl _⟩
  · injection e with e1 _ e2
    subst e1 e2
    exact ⟨trunc_row h hk, hnc⟩


set_option maxRecDepth 20000 in
set_option maxHeartbeats 2000000 in
theorem crash_any (w : World) (S : Nat → Prop) (p b : Nat) (cv : ByteArray → Value) (m : DiskM) (h : IDisk w S p b cv m) (hm : m.files.length ≤ 4194304) (hu : usedF m.files ≤ 4194304) (kv : Value) (keep : List Int) (hk : RowAt w kv keep.length 1 (ints keep)) (_hkl : keep.length ≤ 4194304) (hks : ∀ k, kv.ownBlock = some k → ¬ S k) :
    Calls Tryz.prog 96 #[.pointer (some ⟨p, 0, none⟩), kv] w fun e w' => e = .returned (.int .i64 0) ∧ IBecomes S w w' p b (crashM m keep) := by
  have hc := fun wx (hx : IDisk wx S p b cv m) => list_any wx S p b cv m hx hm
  have hS0 : ∀ j, w.heap.size ≤ j → ¬ S j := fun j hj hs => by have := h.lt j hs; omega
  have HI := hide h
  have h0 : IDisk w S p b cv { m with files := crashL keep m.files 0 } := by rw [crashL_zero]; exact h
  have HZ := hide h0
  have hcl := hc w h
  clear hc h h0
  go_enter Tryz.func96, Tryz.ntmps96
  go_wp2_with (go_at_call 98; refine hcl.mono ?_; rintro e w1 ⟨nv, rfl, hnrow, hb1⟩; obtain ⟨na, nc, rfl⟩ := slice_owned hnrow)
  have HN := hide (rowAt_of_owns hnrow)
  have HNS : Hid (∀ k, (Value.slice na m.files.length nc).ownBlock = some k → ¬ S k) := fun k hk => hS0 k (hnrow.lt k hk).1
  have HK := hide (hk.later hb1)
  have HKS := hide hks
  clear hk hks hnrow hcl hS0
  go_loopw [22] (fun i wr => ∃ (k : Nat) (cv' : ByteArray → Value), k ≤ m.files.length ∧ i = .int .i64 k ∧ IDisk wr S p b cv' { m with files := crashL keep m.files k } ∧ Tch S w1 wr) (fun i _ => m.files.length - (intOf i).toNat)
  case atStart => exact ⟨0, cv, Nat.zero_le _, rfl, HZ.out.later hb1, Tch.refl _ _⟩
  case round =>
    obtain ⟨k, cv', hkm, rfl, hi, hT⟩ := hrel
    by_cases hlt : k < m.files.length
    · obtain ⟨a, c, ev, hsy, hfind, hrow, hput⟩ := crash_round hi hlt hm
      have hnm := nms_get (m.files.map fun f => f.name) k (by rw [List.length_map]; exact hlt)
      rw [List.getElem_map] at hnm
      have hnr := rowAt_touch HN.out hT HNS.out
      have hkr := rowAt_touch HK.out hT HKS.out
      have hus := Nat.le_trans (usedF_mem (List.getElem_mem hlt)) hu
      have HCE := hide (crashN_eq m.files[k] (keepAt keep k) hsy)
      have HCL := hide (crashN_le m.files[k] (keepAt keep k) hsy)
      rcases hnr.2 with ⟨_, _, _, e0⟩ | ⟨ng, no, ncap, en, _, hnb, hnc⟩
      · omega
      · injection en with en1 _ en2
        subst en1 en2
        have cn := hnc _ _ hnm
        have HFI := hide hfind
        have HPU := hide hput
        have HR := hide hrow
        have HI2 := hide hi
        have HT2 := hide hT
        have d1 := hi.box.c1
        have hpl := hi.box.lt
        clear hnc hnr hnm hfind hput hrow hi hT ev
        rw [Nat.mul_one] at cn
        generalize m.files[k] = f at *
        have hx : (k : Int) < (m.files.length : Int) := by omega
        have hk0 : (0 : Int) ≤ (k : Int) := by omega
        by_cases hkk : k < keep.length
        · have hke : keepAt keep k = keep[k] := by unfold keepAt; rw [List.getD_eq_getElem?_getD, List.getElem?_eq_getElem hkk]; rfl
          rcases hkr.2 with ⟨_, _, _, e0⟩ | ⟨kg, ko, kcap, ek, _, hkb, hkc⟩
          · omega
          · subst ek
            have ck := hkc _ _ (ints_get keep k hkk)
            rw [Nat.mul_one, ← hke] at ck
            have hkki : (k : Int) < (keep.length : Int) := by omega
            clear hkc hkr hke
            generalize hmr : keepAt keep k = mr at *
            generalize crashN f mr = N at *
            have hce := HCE.out
            have hcl := HCL.out
            have hf1 := HFI.out wr HI2.out
            obtain ⟨hcut, hcap⟩ := cut_row HR.out hcl
            have HOB : Hid ((Value.slice a N c).ownBlock = (Value.slice a f.data.size c).ownBlock) := by cases a <;> rfl
            have HC2 := hide hcut
            clear hcut
            go_wp2_with (go_at_call 140; refine (HPU.out _ (.slice a N c) ((Below.refl _ _).alloc (Nat.le_refl _) _) HC2.out HOB.out).mono ?_; rintro e w5 ⟨rfl, cv5, h5, ht5⟩)
            exact ⟨⟨k + 1, cv5, by omega, by go_num, h5, (HT2.out.alloc _).trans ht5 (fun _ x => .inl x)⟩, by simp [intOf]; omega⟩
        · have hke : keepAt keep k = 0 := by unfold keepAt; rw [List.getD_eq_getElem?_getD, List.getElem?_eq_none (by omega)]; rfl
          have hkki : ¬ (k : Int) < (keep.length : Int) := by omega
          obtain ⟨ka, kc, ekv⟩ : ∃ ka kc, kv = .slice ka keep.length kc := by
            rcases hkr.2 with ⟨ka, kc, e, h0⟩ | ⟨kg, ko, kcap, e, _⟩
            · exact ⟨ka, kc, by rw [h0]; exact e⟩
            · exact ⟨_, kcap, e⟩
          subst ekv
          clear hkr
          have hN : crashN f (keepAt keep k) = f.sync := by rw [hke]; unfold crashN; omega
          rw [hN] at HCE HCL HPU
          have hmin : min (0 : Int) ((f.data.size : Int) - (f.sync : Int)) = 0 := by omega
          have hcl := HCL.out
          have hf1 := HFI.out wr HI2.out
          clear hN hke HCE
          obtain ⟨hcut, hcap⟩ := cut_row HR.out hcl
          have HOB : Hid ((Value.slice a f.sync c).ownBlock = (Value.slice a f.data.size c).ownBlock) := by cases a <;> rfl
          have HC2 := hide hcut
          clear hcut
          go_wp2_with (go_at_call 140; refine (HPU.out _ (.slice a f.sync c) ((Below.refl _ _).alloc (Nat.le_refl _) _) HC2.out HOB.out).mono ?_; rintro e w5 ⟨rfl, cv5, h5, ht5⟩)
          exact ⟨⟨k + 1, cv5, by omega, by go_num, h5, (HT2.out.alloc _).trans ht5 (fun _ x => .inl x)⟩, by simp [intOf]; omega⟩
    · have e : k = m.files.length := by omega
      subst e
      have hi2 := hi
      rw [crashL_all] at hi2
      have c2 := hi.box.c2
      have f2 := hi.box.f2
      have HI2 := hide hi2
      have HT2 := hide hT
      clear hi hi2 hT
      go_wp2
      go_ret
      exact ⟨rfl, IBecomes.behind hb1 ⟨S, cv', HI2.out.setLeft (-1), fun _ x => .inl x, HT2.out.set _ (.inl HI2.out.own)⟩⟩

end Go.Proofs.YthcnkbeognkjgaaGreatDoor
