/-
  The program's disk, walked: a file put into the map.
-/
import Derived.Test.YthcnkbeognkjgaaGreatDoorDkCheck
import Derived.Deep.RegionHeldLaw
namespace Go.Proofs.YthcnkbeognkjgaaGreatDoor
open Go.RowKit
open Rl
open Go.WideMaps

/-- the map is as it was, or the file is in it: what holds while the file is put. -/
def HoldP (w : World) (b B : Nat) (D : DataW Value) (kl : Lit) (d : DataW Value) (w' : World) : Prop :=
  Tch (fun k => k = b) w w' ∧ w.heap.size < w'.heap.size ∧ ∃ D', w'.ownsMap Tryz.prog 9 RFile b (Maps.size D') D' ∧ D'.put kl d = D.put kl d ∧ Maps.size D' ≤ B ∧ Maps.IsMap D'

theorem holdP_start {w : World} {b n B : Nat} {D : DataW Value} {kl : Lit} {d : DataW Value} (h : w.ownsMap Tryz.prog 9 RFile b n D) (hB : Maps.size D ≤ B) (o : Obj) : HoldP w b B D kl d (w.alloc o).drew :=
  ⟨((Tch.refl _ w).alloc o).drew, by simp, D, ((owns_tight h).alloc o).drew, rfl, hB, h.isMap⟩

theorem holdP_call {w wx w' : World} {b B : Nat} {D : DataW Value} {kl : Lit} {d : DataW Value} (h : HoldP w b B D kl d wx) (hb : Below wx.heap.size wx w') : HoldP w b B D kl d w' := by
  obtain ⟨h1, h2, D', h3, h4, h5, h6⟩ := h
  exact ⟨h1.below hb, Nat.lt_of_lt_of_le h2 hb.size, D', Tch.map (S := fun _ => False) h3 (Tch.ofBelow hb) (fun x => x), h4, h5, h6⟩

theorem put_twice {D : DataW Value} {s : List UInt8} (d : DataW Value) (h : Maps.IsMap D) : (D.put (.string s) d).put (.string s) d = D.put (.string s) d := by
  obtain ⟨es, rfl⟩ := h
  have e : ∀ l : List (Lit × DataW Value), (∀ p ∈ l, p.1.sameKey (.string s) = false) → ((DataW.insert (.string s, d) l).filter fun p => !p.1.sameKey (.string s)) = l := by
    intro l
    have hself : (Lit.string s).sameKey (.string s) = true := WideAt.sameKey_self trivial
    induction l with
    | nil => intro _; simp [DataW.insert, hself]
    | cons a r ih =>
      intro ha
      have h1 := ha a (by simp)
      have h2 : ∀ p ∈ r, p.1.sameKey (.string s) = false := fun p hp => ha p (by simp [hp])
      unfold DataW.insert
      split
      · rw [List.filter_cons, if_neg (by simp [hself]), List.filter_cons, if_pos (by simp [h1]), List.filter_eq_self.2 (fun p hp => by simp [h2 p hp])]
      · rw [List.filter_cons, if_pos (by simp [h1]), ih h2]
  simp only [DataW.put]
  rw [e _ (fun p hp => by simpa using (List.mem_filter.1 hp).2)]

theorem holdP_store {w wx w' : World} {b n B : Nat} {D D' : DataW Value} {s : List UInt8} {d : DataW Value} (h : HoldP w b B D (.string s) d wx) (he : D'.put (.string s) d = D.put (.string s) d) (hm : Maps.IsMap D') (hB : Maps.size (D.put (.string s) d) ≤ B)
    (hown : w'.ownsMap Tryz.prog 9 RFile b n (D'.put (.string s) d)) (hg : wx.grownBy w' (some b)) : HoldP w b B D (.string s) d w' := by
  obtain ⟨h1, h2, _⟩ := h
  refine ⟨h1.trans (S' := fun k => k = b) ⟨hg.os, hg.tape, hg.output, hg.size, fun k hk hn => hg.block k hk (fun e => hn (by injection e))⟩ (fun i hi => .inl hi), Nat.lt_of_lt_of_le h2 hg.size, D'.put (.string s) d, owns_tight hown, ?_, by rw [he]; exact hB, hm.put _ _⟩
  rw [put_twice _ hm, he]

/-- 'm[k] = v' of a map of files, run. -/
theorem holdP_run {w wx : World} {b B : Nat} {D : DataW Value} {s : ByteArray} {a0 : Option Addr} {n c : Nat} {sy : Int}
    (h : HoldP w b B D (.string s.data.toList) (.held (.agg #[.slice a0 n c, .int .i64 sy])) wx) (hs : s.size ≤ maxLen) (hB : Maps.size (D.put (.string s.data.toList) (.held (.agg #[.slice a0 n c, .int .i64 sy]))) ≤ B) (hBm : B < maxLen) :
    ∃ w' n', (Instr.mapUpdate 84 (.map (some b)) (.string s) (.agg #[.slice a0 n c, .int .i64 sy])).run Tryz.prog wx = .ok () w' ∧
      w'.ownsMap Tryz.prog 9 RFile b n' (D.put (.string s.data.toList) (.held (.agg #[.slice a0 n c, .int .i64 sy]))) ∧ wx.grownBy w' (some b) ∧ HoldP w b B D (.string s.data.toList) (.held (.agg #[.slice a0 n c, .int .i64 sy])) w' := by
  obtain ⟨h1, h2, D', h3, h4, h5, h6⟩ := id h
  obtain ⟨w', hrun, r1, r2⟩ := h3.update str_law Tryz.underlying84 (Nat.lt_of_le_of_lt h5 hBm) (key := .string s) (keyOf_string_mk Tryz.underlying9 hs) (val := .agg #[.slice a0 n c, .int .i64 sy]) (d := .held (.agg #[.slice a0 n c, .int .i64 sy])) (ps := []) rfl
  exact ⟨w', _, hrun, by rw [← h4]; exact r1, r2, holdP_store h h4 h6 hB r1 r2⟩

theorem keepP {wx w' : World} {p b n1 : Nat} {u1 u2 u3 : Value} {H : World → Prop} (h : wx.cell? ⟨p, 1, none⟩ = some u1 ∧ wx.cell? ⟨n1, 0, none⟩ = some u2 ∧ wx.cell? ⟨n1, 1, none⟩ = some u3 ∧ p < wx.heap.size ∧ n1 < wx.heap.size ∧ p ≠ b ∧ n1 ≠ b ∧ H wx)
    (hg : wx.grownBy w' (some b)) (hH : H w') : w'.cell? ⟨p, 1, none⟩ = some u1 ∧ w'.cell? ⟨n1, 0, none⟩ = some u2 ∧ w'.cell? ⟨n1, 1, none⟩ = some u3 ∧ p < w'.heap.size ∧ n1 < w'.heap.size ∧ p ≠ b ∧ n1 ≠ b ∧ H w' :=
  ⟨hg.cell h.1 (by simpa using h.2.2.2.2.2.1), hg.cell h.2.1 (by simpa using h.2.2.2.2.2.2.1), hg.cell h.2.2.1 (by simpa using h.2.2.2.2.2.2.1), Nat.lt_of_lt_of_le h.2.2.2.1 hg.size, Nat.lt_of_lt_of_le h.2.2.2.2.1 hg.size, h.2.2.2.2.2.1, h.2.2.2.2.2.2.1, hH⟩

theorem keepB {wx w' : World} {p b n1 : Nat} {u1 u2 u3 : Value} {H : World → Prop} (h : wx.cell? ⟨p, 1, none⟩ = some u1 ∧ wx.cell? ⟨n1, 0, none⟩ = some u2 ∧ wx.cell? ⟨n1, 1, none⟩ = some u3 ∧ p < wx.heap.size ∧ n1 < wx.heap.size ∧ p ≠ b ∧ n1 ≠ b ∧ H wx)
    (hb : Below wx.heap.size wx w') (hH : H w') : w'.cell? ⟨p, 1, none⟩ = some u1 ∧ w'.cell? ⟨n1, 0, none⟩ = some u2 ∧ w'.cell? ⟨n1, 1, none⟩ = some u3 ∧ p < w'.heap.size ∧ n1 < w'.heap.size ∧ p ≠ b ∧ n1 ≠ b ∧ H w' :=
  ⟨(hb.cell (p := ⟨p, 1, none⟩) h.2.2.2.1).trans h.1, (hb.cell (p := ⟨n1, 0, none⟩) h.2.2.2.2.1).trans h.2.1, (hb.cell (p := ⟨n1, 1, none⟩) h.2.2.2.2.1).trans h.2.2.1, Nat.lt_of_lt_of_le h.2.2.2.1 hb.size, Nat.lt_of_lt_of_le h.2.2.2.2.1 hb.size, h.2.2.2.2.2.1, h.2.2.2.2.2.2.1, hH⟩

set_option maxRecDepth 20000 in
set_option maxHeartbeats 4000000 in
theorem put_any (w : World) (S : Nat → Prop) (p b : Nat) (cv : ByteArray → Value) (m : DiskM) (f : FileM) (v : Value) (h : XDisk f.name w S p b cv m) (hl : m.files.length ≤ 4194304)
    (hrow : w.ownsRow 0 5 1 v f.data.size (u8s f.data.data.toList)) (hv : ∀ k, v.ownBlock = some k → S k ∧ k ≠ p ∧ k ≠ b ∧ ∀ g ∈ m.files, g.name ≠ f.name → (cv g.name).ownBlock ≠ some k)
    (hn : f.name.size ≤ 8) (hs : f.sync ≤ f.data.size) :
    Calls Tryz.prog 140 #[.pointer (some ⟨p, 0, none⟩), .string f.name, .agg #[v, .int .i64 (f.sync : Int)]] w fun e w' => e = .returned (.tuple #[]) ∧
      IDisk w' S p b (fun n => if n = f.name then v else cv n) { m with files := setF f m.files } ∧ Tch S w w' := by
  obtain ⟨a0, c0', rfl⟩ := slice_owned hrow
  have hC := fun wx => clone_any f.name wx (by omega)
  have HI := hide h
  have HV := hide hv
  have HRo := hide hrow
  obtain ⟨c0, c1, c2, f0, f1, f2, hlt⟩ := h.box
  have hne := h.ne
  obtain ⟨D, n, hown, hD⟩ := h.map
  have hsz := hD.count h.ord hown
  have hsz2 : Maps.size (D.put (.string f.name.data.toList) (.held (.agg #[.slice a0 f.data.size c0', .int .i64 (f.sync : Int)]))) ≤ m.files.length + 1 := by
    rw [Maps.size_put (hown.tidy str_law)]; split <;> omega
  have hlb := hown.lt
  have hq1 : Hid (f.name.size ≤ maxLen) := by unfold Hid maxLen; omega
  have hq2 : Hid (m.files.length + 1 < maxLen) := by unfold Hid maxLen; omega
  have hwb : w.heap.size ≠ b := by omega
  clear h hv hrow
  go_enter Tryz.func140, Tryz.ntmps140
  go_wp2_with fail
  have hP := holdP_start (kl := .string f.name.data.toList) (d := .held (.agg #[.slice a0 f.data.size c0', .int .i64 (f.sync : Int)])) hown (by omega : Maps.size D ≤ m.files.length + 1) (.cells #[.slice a0 f.data.size c0', .int .i64 (f.sync : Int)] 195)
  have e1 : (w.alloc (.cells #[.slice a0 f.data.size c0', .int .i64 (f.sync : Int)] 195)).drew.cell? ⟨p, 1, none⟩ = some (.map (some b)) := (((Below.refl _ w).alloc (Nat.le_refl _) _).drew.cell (p := ⟨p, 1, none⟩) hlt).trans c1
  have hlt2 : p < (w.alloc (.cells #[.slice a0 f.data.size c0', .int .i64 (f.sync : Int)] 195)).drew.heap.size := by simp; omega
  go_region_held (fun w' => w'.cell? ⟨p, 1, none⟩ = some (.map (some b)) ∧ w'.cell? ⟨w.heap.size, 0, none⟩ = some (.slice a0 f.data.size c0') ∧ w'.cell? ⟨w.heap.size, 1, none⟩ = some (.int .i64 (f.sync : Int)) ∧ p < w'.heap.size ∧ w.heap.size < w'.heap.size ∧ p ≠ b ∧ w.heap.size ≠ b ∧ HoldP w b (m.files.length + 1) D (.string f.name.data.toList) (.held (.agg #[.slice a0 f.data.size c0', .int .i64 (f.sync : Int)])) w')
    (first | assumption | (refine ⟨e1, by simp, by simp, hlt2, by simp, hne, hwb, hP⟩) | (exact keepP (by assumption) (by assumption) (by assumption)) | (exact keepB (by assumption) (by assumption) (holdP_call (‹_ ∧ _ ∧ _ ∧ _ ∧ _ ∧ _ ∧ _ ∧ HoldP w b _ D _ _ _›).2.2.2.2.2.2.2 (by assumption))))
    (first | (go_at_call 189; refine (hC _).mono ?_; rintro e w2 ⟨rfl, hb2⟩; obtain ⟨w5, n5, hrun5, hown5, hgrow5, hold5⟩ := holdP_run (holdP_call (‹_ ∧ _ ∧ _ ∧ _ ∧ _ ∧ _ ∧ _ ∧ HoldP w b _ D _ _ _›).2.2.2.2.2.2.2 hb2) hq1.out hsz2 hq2.out))
  refine bodyPost_end (results_none rfl _ _ _) rfl ?_
  have ht := hold5.1
  exact ⟨rfl, HI.out.store hD hown.isMap hown5 ⟨ht.os, ht.tape, ht.output, ht.size, fun k hk hn => ht.block k hk (fun e => hn (by rw [e]))⟩ HRo.out HV.out hn hs, ht.mono (fun i e => by rw [e]; exact HI.out.ownb)⟩

end Go.Proofs.YthcnkbeognkjgaaGreatDoor
