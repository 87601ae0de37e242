/-
  The program's disk, walked: what Append does with a file.
-/
import Derived.Test.YthcnkbeognkjgaaGreatDoorDkClosures
import Derived.Test.YthcnkbeognkjgaaGreatDoorAppStr
import Derived.Deep.CutRange
import Derived.Deep.CutBlock
namespace Go.Proofs.YthcnkbeognkjgaaGreatDoor
open Go.RowKit Go.Shelf Go.WideMaps
open Rl


theorem wrap_fit {n : Int} (h0 : -9223372036854775808 ≤ n) (h1 : n ≤ 9223372036854775807) : IntKind.i64.wrap n = n := by
  rw [IntKind.wrap_i64]; omega

theorem keepA {w w' : World} {p n0 n1 : Nat} {u0 u1 u2 : Value} (c0 : w.cell? ⟨n0, 0, none⟩ = some u0) (c1 : w.cell? ⟨n1, 0, none⟩ = some u1) (c2 : w.cell? ⟨p, 0, none⟩ = some u2) (l0 : n0 < w.heap.size) (l1 : n1 < w.heap.size) (l2 : p < w.heap.size) (hb : Below w.heap.size w w') :
    w'.cell? ⟨n0, 0, none⟩ = some u0 ∧ w'.cell? ⟨n1, 0, none⟩ = some u1 ∧ w'.cell? ⟨p, 0, none⟩ = some u2 ∧ Below w.heap.size w w' :=
  ⟨(hb.cell (p := ⟨n0, 0, none⟩) l0).trans c0, (hb.cell (p := ⟨n1, 0, none⟩) l1).trans c1, (hb.cell (p := ⟨p, 0, none⟩) l2).trans c2, hb⟩


/-- the file that is appended to, or a new one. -/
theorem app_find {w : World} {S : Nat → Prop} {p b : Nat} {cv : ByteArray → Value} {m : DiskM} (h : IDisk w S p b cv m) {name : ByteArray} (hn : name.size ≤ maxLen) (d : ByteArray) :
    ∃ (a : Option Addr) (c sy : Nat) (old : ByteArray), (∀ wx, IDisk wx S p b cv m → (Instr.lookup 84 (.map (some b)) (.string name) false).run Tryz.prog wx = .ok (.agg #[.slice a old.size c, .int .i64 (sy : Int)]) wx) ∧
      w.ownsRow 0 5 1 (.slice a old.size c) old.size (u8s old.data.toList) ∧ apF m name d = ⟨name, old ++ d, sy⟩ ∧ sy ≤ old.size ∧ old.size ≤ usedF m.files ∧ ∀ k, (Value.slice a old.size c).ownBlock = some k → ∃ f ∈ m.files, f.name = name ∧ (cv name).ownBlock = some k := by
  cases hl : lookF name m.files with
  | none =>
    refine ⟨none, 0, 0, ⟨#[]⟩, fun wx hx => ?_, World.ownsRow_nil _ _ _ _, ?_, Nat.le_refl _, Nat.zero_le _, fun k hk => by cases hk⟩
    · have := (disk_find hx name hn).2; rw [hl] at this; exact this
    · unfold apF; rw [hl]; simp only; rw [ByteArray.ext (by simp : ((⟨#[]⟩ : ByteArray) ++ d).data = d.data)]
  | some f =>
    obtain ⟨hf, hnm⟩ := lookF_spec hl
    obtain ⟨a, c, ev⟩ := slice_owned (h.rows f hf)
    refine ⟨a, c, f.sync, f.data, fun wx hx => ?_, by rw [← ev]; exact h.rows f hf, ?_, h.sync f hf, usedF_mem hf, fun k hk => ⟨f, hf, hnm, by rw [← hnm, ev]; exact hk⟩⟩
    · have := (disk_find hx name hn).2; rw [hl] at this; simp only [ev] at this; exact this
    · unfold apF; rw [hl]; simp only [hnm]

theorem info_u8 : (Tryz.prog.info? 5).map (fun i => (i.zero, i.size, i.bytes)) = some (some (.int .u8 0), 1, 1) := by kernel_rfl

/-- a file with more bytes put into the map: they stand where the old ones did, or in a new block. -/
theorem app_put {w w5 : World} {S : Nat → Prop} {p b q : Nat} {cv : ByteArray → Value} {m : DiskM} {name old d : ByteArray} {sy : Nat} {v v5 u : Value} (h : IDisk w S p b cv m) (hm : m.files.length ≤ 4194304) (hn : name.size ≤ 8) (hg : w.grownBy w5 v.ownBlock)
    (hb : ∀ k, v.ownBlock = some k → ∃ f ∈ m.files, f.name = name ∧ (cv name).ownBlock = some k) (hpl : Placed w v v5) (ho : w5.ownsRow 0 5 1 v5 (old.size + d.size) (u8s old.data.toList ++ Lib.strCells d)) (hsy : sy ≤ old.size) (hq : ¬ S q) (hql : q < w.heap.size) :
    ∀ w7, Below (w5.setCell ⟨q, 0, none⟩ u).heap.size (w5.setCell ⟨q, 0, none⟩ u) w7 → Calls Tryz.prog 140 #[.pointer (some ⟨p, 0, none⟩), .string name, .agg #[v5, .int .i64 (sy : Int)]] w7 fun e w' => e = .returned (.tuple #[]) ∧
      ∃ S' cv', IDisk w' S' p b cv' { m with files := setF ⟨name, old ++ d, sy⟩ m.files } ∧ (∀ k, S' k → S k ∨ w.heap.size ≤ k) ∧ Tch S' w7 w' := by
  intro w7 hb7
  have hx := h.grown hg hb
  have hv5 := ho.lt
  have hqs : ∀ k, v5.ownBlock = some k → k ≠ q := fun k hk e => by
    subst e
    rcases hpl with e | ⟨k2, e, h2⟩
    · rw [e] at hk
      obtain ⟨f, hf, e1, e2⟩ := hb k hk
      exact hq (h.far f hf k (by rw [e1]; exact e2)).1
    · rw [e] at hk; injection hk with hk; omega
  have hx2 : XDisk name w5 (fun k => S k ∨ v5.ownBlock = some k) p b cv m := hx.mono (fun _ hk => .inl hk) (fun k hk => by
    rcases hk with hk | hk
    · exact hx.lt k hk
    · exact (hv5 k hk).2)
  have ht : Tch (fun k => k = q) w5 (w5.setCell ⟨q, 0, none⟩ u) := touch_set (S := fun k => k = q) (p := ⟨q, 0, none⟩) u rfl
  have hx3 := (hx2.touch ht (fun k hk e => by
    subst e
    rcases hk with hk | hk
    · exact hq hk
    · exact hqs k hk rfl)).later hb7
  have hsz : (old ++ d).size = old.size + d.size := ByteArray.size_append
  have hu8 : u8s old.data.toList ++ Lib.strCells d = u8s (old ++ d).data.toList := by
    rw [strCells_u8s, ← u8s_append]
    congr 1
  have hrow : w7.ownsRow 0 5 1 v5 (old ++ d).size (u8s (old ++ d).data.toList) := by
    rw [hsz, ← hu8]
    exact owns_later (ht.owns ho (fun k hk e => hqs k hk e)) hb7
  refine (put_any w7 _ p b cv m ⟨name, old ++ d, sy⟩ v5 hx3 hm hrow (fun k hk => ?_) hn (by show sy ≤ (old ++ d).size; rw [hsz]; omega)).mono ?_
  · rcases hpl with e | ⟨k2, e, h2⟩
    · rw [e] at hk
      obtain ⟨f, hf, e1, e2⟩ := hb k hk
      obtain ⟨h3, h4, h5⟩ := h.far f hf k (by rw [e1]; exact e2)
      exact ⟨.inl h3, h4, h5, fun g hg2 hne hk2 => hne ((h.apart g hg2 f hf k hk2 (by rw [e1]; exact e2)).trans e1)⟩
    · have hk' := hk
      rw [e] at hk'
      injection hk' with hk'
      have hp := h.lt p h.own
      have hb2 := h.lt b h.ownb
      exact ⟨.inr hk, by omega, by omega, fun g hg2 _ hk2 => by have := h.lt k (h.far g hg2 k hk2).1; omega⟩
  · rintro e w' ⟨rfl, h1, h2⟩
    refine ⟨rfl, _, _, h1, fun k hk => ?_, h2⟩
    rcases hk with hk | hk
    · exact .inl hk
    · rcases hpl with e | ⟨k2, e, h2⟩
      · rw [e] at hk
        obtain ⟨f, hf, e1, e2⟩ := hb k hk
        exact .inl (h.far f hf k (by rw [e1]; exact e2)).1
      · rw [e] at hk; injection hk with hk; exact .inr (by omega)

theorem keepL2 {w w' : World} {S : Nat → Prop} {p b : Nat} {cv : ByteArray → Value} {m : DiskM} {name d : ByteArray} {n0 n1 n2 : Nat} {fv : Value} (h : IDisk w S p b cv m)
    (hf : ∀ wx, IDisk wx S p b cv m → (Instr.lookup 84 (.map (some b)) (.string name) false).run Tryz.prog wx = .ok fv wx)
    (c0 : w.cell? ⟨n0, 0, none⟩ = some (.string d)) (c1 : w.cell? ⟨n1, 0, none⟩ = some (.pointer (some ⟨p, 0, none⟩))) (c2 : w.cell? ⟨n2, 0, none⟩ = some (.string name)) (l0 : n0 < w.heap.size) (l1 : n1 < w.heap.size) (l2 : n2 < w.heap.size) (hb : Below w.heap.size w w') :
    w'.cell? ⟨n0, 0, none⟩ = some (.string d) ∧ w'.cell? ⟨n1, 0, none⟩ = some (.pointer (some ⟨p, 0, none⟩)) ∧ w'.cell? ⟨n2, 0, none⟩ = some (.string name) ∧ w'.cell? ⟨p, 1, none⟩ = some (.map (some b)) ∧
      (Instr.lookup 84 (.map (some b)) (.string name) false).run Tryz.prog w' = .ok fv w' ∧ Below w.heap.size w w' :=
  ⟨(hb.cell (p := ⟨n0, 0, none⟩) l0).trans c0, (hb.cell (p := ⟨n1, 0, none⟩) l1).trans c1, (hb.cell (p := ⟨n2, 0, none⟩) l2).trans c2, (h.later hb).box.c1, hf _ (h.later hb), hb⟩

set_option maxRecDepth 20000 in
set_option maxHeartbeats 4000000 in
theorem append1_any (w : World) (S : Nat → Prop) (p b : Nat) (cv : ByteArray → Value) (m : DiskM) (h : IDisk w S p b cv m) (hm : m.files.length ≤ 4194304) (hu : usedF m.files ≤ 4194304) (hr0 : 0 ≤ m.room) (hr1 : m.room ≤ 9223372036854775807) (name d : ByteArray) (hn : name.size ≤ 8) (hd : d.size ≤ 4194304) (n0 n1 n2 : Nat)
    (c0 : w.cell? ⟨n0, 0, none⟩ = some (.string d)) (c1 : w.cell? ⟨n1, 0, none⟩ = some (.pointer (some ⟨p, 0, none⟩))) (c2 : w.cell? ⟨n2, 0, none⟩ = some (.string name)) (l0 : n0 < w.heap.size) (l1 : n1 < w.heap.size) (l2 : n2 < w.heap.size) (_s0 : ¬ S n0) (s1 : ¬ S n1) (s2 : ¬ S n2) :
    Calls Tryz.prog 138 #[.pointer (some ⟨n0, 0, none⟩), .pointer (some ⟨n1, 0, none⟩), .pointer (some ⟨n2, 0, none⟩)] w fun e w' => e = .returned (.int .i64 (apE m d)) ∧ IBecomes S w w' p b (apM m name d) := by
  have HI := hide h
  obtain ⟨d0, d1, d2, f0, f1, f2, hlt⟩ := h.box
  have hus := fun wx (hx : IDisk wx S p b cv m) => used_any wx S p b cv m hx hu
  have HU := hide hus
  clear h hus
  have HE8 : Hid (m.room - (usedF m.files : Int) < (d.size : Int) → apE m d = 8 ∧ apM m name d = m) := fun h => ⟨by unfold apE; rw [if_pos h], by unfold apM; rw [if_pos h]⟩
  have HE0 : Hid (¬ m.room - (usedF m.files : Int) < (d.size : Int) → apE m d = 0 ∧ apM m name d = { m with files := setF (apF m name d) m.files }) := fun h => ⟨by unfold apE; rw [if_neg h], by unfold apM; rw [if_neg h]⟩
  generalize apE m d = E at *
  generalize apM m name d = M at *
  go_enter Tryz.func138, Tryz.ntmps138
  have HW : IntKind.i64.wrap (m.room - (usedF m.files : Int)) = m.room - (usedF m.files : Int) := wrap_fit (by omega) (by omega)
  generalize hus : (usedF m.files : Int) = us at *
  go_upto_region 1 with fail
  go_cut [14] from 5 to 14 (fun t wx => t = .bool (decide (m.room - us < (d.size : Int))) ∧ Below w.heap.size w wx)
  case first =>
    go_region_held (fun w' => w'.cell? ⟨n0, 0, none⟩ = some (.string d) ∧ w'.cell? ⟨n1, 0, none⟩ = some (.pointer (some ⟨p, 0, none⟩)) ∧ w'.cell? ⟨p, 0, none⟩ = some (.int .i64 m.room) ∧ Below w.heap.size w w')
      (first | assumption | (exact keepA c0 c1 d0 l0 l1 hlt (Below.refl _ _).drew) | (exact keepA c0 c1 d0 l0 l1 hlt (later_below (Below.refl _ _).drew (by assumption) (Nat.le_refl _))))
      (first | (go_at_call 139; refine (HU.out _ (HI.out.later (‹_ ∧ _ ∧ _ ∧ Below w.heap.size w _›).2.2.2)).mono ?_; rintro e w5 ⟨rfl, hb5⟩))
    go_wp2_with fail
    go_meet
    case rel => exact ⟨rfl, ‹w5.cell? _ = _ ∧ w5.cell? _ = _ ∧ w5.cell? _ = _ ∧ Below w.heap.size w w5›.2.2.2⟩
  case rest =>
    obtain ⟨rfl, hbc⟩ := hcut
    have a0 := (hbc.cell (p := ⟨n0, 0, none⟩) l0).trans c0
    have a1 := (hbc.cell (p := ⟨n1, 0, none⟩) l1).trans c1
    have a2 := (hbc.cell (p := ⟨n2, 0, none⟩) l2).trans c2
    have k0 := Nat.lt_of_lt_of_le l0 hbc.size
    have k1 := Nat.lt_of_lt_of_le l1 hbc.size
    have k2 := Nat.lt_of_lt_of_le l2 hbc.size
    have HI2 := hide (HI.out.later hbc)
    clear c0 c1 c2 d0 d1 d2 f0 f1 f2 l0 l1 l2 HU
    by_cases hfull : m.room - us < (d.size : Int)
    · have hdc : decide (m.room - us < (d.size : Int)) = true := decide_eq_true hfull
      obtain ⟨rfl, rfl⟩ := HE8.out hfull
      go_wp2
      go_ret
      exact ⟨rfl, HI.out.becomes hbc⟩
    · obtain ⟨rfl, rfl⟩ := HE0.out hfull
      have hdc : decide (m.room - us < (d.size : Int)) = false := decide_eq_false hfull
      clear HE8 HE0
      obtain ⟨a, c, sy, old, hfind, hrow, hap, hsy, hou, hblk⟩ := app_find HI2.out (by unfold maxLen; omega : name.size ≤ maxLen) d
      have hHP := hide hap
      clear hap
      have hkl := hide (fun w' (hb : Below wc.heap.size wc w') => keepL2 (n0 := n0) HI2.out hfind a0 a1 a2 k0 k1 k2 hb)
      have HR := hide hrow
      have HBk := hide hblk
      clear hrow hblk
      go_wp2_with fail
      go_region_held (fun w' => w'.cell? ⟨n0, 0, none⟩ = some (.string d) ∧ w'.cell? ⟨n1, 0, none⟩ = some (.pointer (some ⟨p, 0, none⟩)) ∧ w'.cell? ⟨n2, 0, none⟩ = some (.string name) ∧ w'.cell? ⟨p, 1, none⟩ = some (.map (some b)) ∧
        (Instr.lookup 84 (.map (some b)) (.string name) false).run Tryz.prog w' = .ok (.agg #[.slice a old.size c, .int .i64 (sy : Int)]) w' ∧ Below wc.heap.size wc w')
        (first | assumption | (exact hkl.out _ (Below.refl _ _).drew) | (exact hkl.out _ ((Below.refl _ _).drew.alloc (Nat.le_refl _) _)) | (exact hkl.out _ (((Below.refl _ _).drew.alloc (Nat.le_refl _) _).setCell (by simp) _))) (fail)
      all_goals
        have hb1 : Below wc.heap.size wc (wc.alloc (.cells #[.slice a old.size c, .int .i64 (sy : Int)] 195)).drew := ((Below.refl _ _).alloc (Nat.le_refl _) _).drew
        have g0 := (hb1.cell (p := ⟨n0, 0, none⟩) k0).trans a0
        have g1 := (hb1.cell (p := ⟨n1, 0, none⟩) k1).trans a1
        have g2 := (hb1.cell (p := ⟨n2, 0, none⟩) k2).trans a2
        have g3 : (wc.alloc (.cells #[.slice a old.size c, .int .i64 (sy : Int)] 195)).drew.cell? ⟨wc.heap.size, 0, none⟩ = some (.slice a old.size c) := by simp
        have g4 : (wc.alloc (.cells #[.slice a old.size c, .int .i64 (sy : Int)] 195)).drew.cell? ⟨wc.heap.size, 1, none⟩ = some (.int .i64 (sy : Int)) := by simp
        have g5 : (wc.alloc (.cells #[.slice a old.size c, .int .i64 (sy : Int)] 195)).drew.frozen? ⟨wc.heap.size, 0, none⟩ = false := by simp
        have HB1 := hide hb1
        have hsz1 : wc.heap.size < (wc.alloc (.cells #[.slice a old.size c, .int .i64 (sy : Int)] 195)).drew.heap.size := by simp
        have hlen1 : Hid (old.size + d.size ≤ maxLen) := by unfold Hid maxLen; omega
        have hlen2 : Hid (old.size + d.size ≤ 140737488355328) := by unfold Hid; omega
        clear hb1 a0 a1 a2
        generalize (wc.alloc (.cells #[.slice a old.size c, .int .i64 (sy : Int)] 195)).drew = W1 at *
        have hSq : ¬ S wc.heap.size := fun hs => absurd (HI2.out.lt _ hs) (by omega)
        have hrn := hide (fun (j : Nat) (hj : ¬ S j) (e : some j = (Value.slice a old.size c).ownBlock) => hj (let ⟨f, hf, e1, e2⟩ := HBk.out j e.symm; (HI2.out.far f hf j (by rw [e1]; exact e2)).1))
        have HR1 := hide (owns_later HR.out HB1.out)
        have HI3 := hide (HI2.out.later HB1.out)
        have HPL := hide (fun w5 v5 (hg : W1.grownBy w5 (Value.slice a old.size c).ownBlock) hpl ho => app_put (d := d) (w5 := w5) (v5 := v5) (q := wc.heap.size) (u := v5) HI3.out hm hn hg HBk.out hpl ho hsy hSq hsz1)
        obtain ⟨i0, hi, hz0, hz1, hz2⟩ := info_parts info_u8
        go_wp2_with (first
          | (at_builtin; refine wpList_append_string_placed _ rfl _ _ 144 9 rfl 0 5 i0 Tryz.underlying144 Tryz.underlying9 hi hz0 hz1 hz2 _ _ _ rfl HR1.out d rfl (hlen1.out) (hlen2.out) (Nat.zero_le _) ?_; intro v5 w5 hown5 hgrow5 hplaced; obtain ⟨a5, c5, rfl⟩ := slice_owned hown5; have q1 := hgrow5.cell g1 (hrn.out _ s1); have q2 := hgrow5.cell g2 (hrn.out _ s2); have q3 := hgrow5.cell g3 (hrn.out _ hSq); have q4 := hgrow5.cell g4 (hrn.out _ hSq); have q5 := (World.frozen?_of_block (a := ⟨wc.heap.size, 0, none⟩) (hgrow5.block _ hsz1 (hrn.out _ hSq))).trans g5)
          | (go_at_call 140; refine (HPL.out w5 _ hgrow5 hplaced hown5 _ (Below.refl _ _)).mono ?_; rintro e w8 ⟨rfl, S8, cv8, h8, hs8, ht8⟩))
        go_ret
        have hbw : Below w.heap.size w W1 := later_below hbc HB1.out hbc.size
        have hT3 : Tch S w (w5.setCell ⟨wc.heap.size, 0, none⟩ (.slice a5 (old.size + d.size) c5)) := ((Tch.ofBelow hbw).grown hgrow5 (fun j hj => .inl (let ⟨f, hf, e1, e2⟩ := HBk.out j hj; (HI2.out.far f hf j (by rw [e1]; exact e2)).1))).set _ (.inr hbc.size)
        exact ⟨rfl, S8, cv8, by rw [hHP.out]; exact h8, fun j hj => (hs8 j hj).imp id (fun x => Nat.le_trans hbw.size x), hT3.trans ht8 (fun j hj => (hs8 j hj).imp id (fun x => Nat.le_trans hbw.size x))⟩

end Go.Proofs.YthcnkbeognkjgaaGreatDoor
