/-
  The program's disk, walked: what its calls do with a file, each a function literal.
-/
import Derived.Test.YthcnkbeognkjgaaGreatDoorDkFile
import Derived.Test.YthcnkbeognkjgaaGreatDoorStepLaws
namespace Go.Proofs.YthcnkbeognkjgaaGreatDoor
open Go.RowKit Go.Shelf Go.WideMaps
open Rl


/-- where the bytes of a file lie that is put back under its own name. -/
theorem far_self {w : World} {S : Nat → Prop} {p b : Nat} {cv : ByteArray → Value} {m : DiskM} {f : FileM} {v : Value} (h : IDisk w S p b cv m) (hf : f ∈ m.files) (hv : v.ownBlock = (cv f.name).ownBlock) :
    ∀ k, v.ownBlock = some k → S k ∧ k ≠ p ∧ k ≠ b ∧ ∀ g ∈ m.files, g.name ≠ f.name → (cv g.name).ownBlock ≠ some k := by
  intro k hk
  rw [hv] at hk
  obtain ⟨h1, h2, h3⟩ := h.far f hf k hk
  exact ⟨h1, h2, h3, fun g hg hne hk2 => hne (h.apart g hg f hf k hk2 hk)⟩

theorem put_becomes {w w1 w' : World} {S : Nat → Prop} {p b : Nat} {cv' : ByteArray → Value} {m : DiskM} (hb : Below w.heap.size w w1) (h : IDisk w' S p b cv' m) (ht : Tch S w1 w') : IBecomes S w w' p b m :=
  IBecomes.behind hb ⟨S, cv', h, fun _ hk => .inl hk, ht⟩

set_option maxHeartbeats 4000000 in
theorem sync1_any (w : World) (S : Nat → Prop) (p b : Nat) (cv : ByteArray → Value) (m : DiskM) (h : IDisk w S p b cv m) (hm : m.files.length ≤ 4194304) (f : FileM) (hf : f ∈ m.files) (_hsz : f.data.size ≤ 4194304) (n0 n1 : Nat)
    (c0 : w.cell? ⟨n0, 0, none⟩ = some (.pointer (some ⟨p, 0, none⟩))) (c1 : w.cell? ⟨n1, 0, none⟩ = some (.string f.name)) (l0 : n0 < w.heap.size) (l1 : n1 < w.heap.size) :
    Calls Tryz.prog 142 #[.agg #[cv f.name, .int .i64 (f.sync : Int)], .pointer (some ⟨n0, 0, none⟩), .pointer (some ⟨n1, 0, none⟩)] w fun e w' => e = .returned (.int .i64 0) ∧ IBecomes S w w' p b { m with files := setF (syncF f) m.files } := by
  obtain ⟨a, c, ev⟩ := slice_owned (h.rows f hf)
  have HI := hide h
  have hrow := h.rows f hf
  have hfar := far_self h hf (v := cv f.name) rfl
  have hn := h.names f hf
  rw [ev] at hrow hfar
  clear h
  have hput := fun w1 (hb : Below w.heap.size w w1) => put_any w1 S p b cv m (syncF f) (.slice a f.data.size c) ((HI.out.later hb).but _) hm (owns_later hrow hb) hfar hn (Nat.le_refl _)
  have HP := hide hput
  rw [ev]
  clear hput hrow hfar
  go_enter Tryz.func142, Tryz.ntmps142
  go_wp2_with (go_at_call 140; refine (HP.out _ ((Below.refl _ _).alloc (Nat.le_refl _) _)).mono ?_; rintro e w' ⟨rfl, h1, h2⟩)
  go_ret
  exact ⟨rfl, put_becomes ((Below.refl _ _).alloc (Nat.le_refl _) _) h1 h2⟩

/-- 'delete(m, k)' of a map of files, as one step of a region that draws its order. -/
theorem step_delete {ops : Array Oper} {o : Oper} {a : Act} {wx : World} {K : Act → World → Prop} {Q : Exit → Act → World → Prop} {E : Prop}
    (hg : o.guard = none) (m x : Operand) (hop : o.op = Op.call { callee := Callee.builtin Builtin.delete, args := #[m, x], argTypes := #[84, 9] }) (b n : Nat) (D : DataW Value) (s : ByteArray)
    (hm : a.eval m = .map (some b)) (hx : a.eval x = .string s) (hown : wx.ownsMap Tryz.prog 9 RFile b n D) (hkey : keyOf Tryz.prog 9 (.string s) = some (.string s.data.toList))
    (hK : ∀ w', w'.ownsMap Tryz.prog 9 RFile b n (D.del (.string s.data.toList)) → wx.grownBy w' (some b) → K (a.put o.dst (.tuple #[])) w') :
    if Region.wanted o (yielded ops a.tmps) = true then Oper.wp Tryz.prog o a wx K Q else E := by
  have hw : Region.wanted o (yielded ops a.tmps) = true := by simp [Region.wanted, hg]
  rw [if_pos hw]
  obtain ⟨w', hrun, r1, r2⟩ := hown.drop str_law Tryz.underlying84 hkey o.type
  unfold Oper.wp
  simp [execOp, hop, resolve, invoke, builtin, hm, hx, hrun, Result.andThen]
  exact hK w' r1 r2.grown

theorem keep4d {wx w' : World} {p b n0 n1 : Nat} {u0 u1 u2 : Value} (h : wx.cell? ⟨n0, 0, none⟩ = some u0 ∧ wx.cell? ⟨n1, 0, none⟩ = some u1 ∧ wx.cell? ⟨p, 1, none⟩ = some u2 ∧ n0 ≠ b ∧ n1 ≠ b ∧ p ≠ b) (hg : wx.grownBy w' (some b)) :
    w'.cell? ⟨n0, 0, none⟩ = some u0 ∧ w'.cell? ⟨n1, 0, none⟩ = some u1 ∧ w'.cell? ⟨p, 1, none⟩ = some u2 ∧ n0 ≠ b ∧ n1 ≠ b ∧ p ≠ b :=
  ⟨hg.cell h.1 (by simpa using h.2.2.2.1), hg.cell h.2.1 (by simpa using h.2.2.2.2.1), hg.cell h.2.2.1 (by simpa using h.2.2.2.2.2), h.2.2.2⟩

theorem map_ne {w : World} {b n i : Nat} {D : DataW Value} {v : Value} (h : w.ownsMap Tryz.prog 9 RFile b n D) (c : w.cell? ⟨i, 0, none⟩ = some v) : i ≠ b := by
  intro e
  subst e
  obtain ⟨es, clock, hb, _⟩ := h
  simp [World.cell?, hb] at c

set_option maxRecDepth 20000 in
set_option maxHeartbeats 4000000 in
theorem delete1_any (w : World) (S : Nat → Prop) (p b : Nat) (cv : ByteArray → Value) (m : DiskM) (h : IDisk w S p b cv m) (a : Option Addr) (n c : Nat) (sy : Int) (k : Nat) (hk : k < m.files.length) (n0 n1 : Nat)
    (c0 : w.cell? ⟨n0, 0, none⟩ = some (.pointer (some ⟨p, 0, none⟩))) (c1 : w.cell? ⟨n1, 0, none⟩ = some (.string m.files[k].name)) (l0 : n0 < w.heap.size) (l1 : n1 < w.heap.size) :
    Calls Tryz.prog 144 #[.agg #[.slice a n c, .int .i64 sy], .pointer (some ⟨n0, 0, none⟩), .pointer (some ⟨n1, 0, none⟩)] w fun e w' => e = .returned (.int .i64 0) ∧ IBecomes S w w' p b { m with files := m.files.eraseIdx k } := by
  obtain ⟨D, nn, hown, hD⟩ := h.map
  have hb0 : Below w.heap.size w (w.alloc (.cells #[.slice a n c, .int .i64 sy] 195)).drew := ((Below.refl _ _).alloc (Nat.le_refl _) _).drew
  have HX := hide (fun w' n' => IDisk.erase (w' := w') (n := n') (h.later hb0) hD hk)
  have hne := h.ne
  have e2 := (h.later hb0).box.c1
  have hn := h.names _ (List.getElem_mem hk)
  have hkey : keyOf Tryz.prog 9 (.string m.files[k].name) = some (.string m.files[k].name.data.toList) := keyOf_string_mk Tryz.underlying9 (by unfold maxLen; omega)
  have HO := hide h.ownb
  have e0 := (hb0.cell (p := ⟨n0, 0, none⟩) l0).trans c0
  have e1 := (hb0.cell (p := ⟨n1, 0, none⟩) l1).trans c1
  have hown0 := (hown.alloc (.cells #[.slice a n c, .int .i64 sy] 195)).drew
  have hn0 := map_ne hown c0
  have hn1 := map_ne hown c1
  clear h hD hown
  generalize m.files[k].name = nm at *
  go_enter Tryz.func144, Tryz.ntmps144
  go_wp2_with fail
  have HB := hide hb0
  generalize (w.alloc (.cells #[.slice a n c, .int .i64 sy] 195)) = W0 at *
  go_region_held_law (fun w' => w'.cell? ⟨n0, 0, none⟩ = some (.pointer (some ⟨p, 0, none⟩)) ∧ w'.cell? ⟨n1, 0, none⟩ = some (.string nm) ∧ w'.cell? ⟨p, 1, none⟩ = some (.map (some b)) ∧ n0 ≠ b ∧ n1 ≠ b ∧ p ≠ b)
    (first | assumption | (exact ⟨e0, e1, e2, hn0, hn1, hne⟩) | (exact keep4d (by assumption) (by assumption)))
    (first | (refine step_delete rfl (.tmp 8) (.tmp 9) rfl b nn D nm rfl rfl hown0 hkey ?_; intro w5 hown5 hg5))
  go_wp2
  go_ret
  refine ⟨rfl, IBecomes.behind HB.out ⟨S, cv, HX.out _ _ hown5 hg5, fun _ hk => .inl hk, ⟨hg5.os, hg5.tape, hg5.output, hg5.size, fun k hk hn => hg5.block k hk (fun e => hn (by injection e with e; rw [e]; exact HO.out))⟩⟩⟩

theorem extract_size {data : ByteArray} {k : Nat} (hk : k ≤ data.size) : (data.extract 0 k).size = k := by rw [ByteArray.size_extract]; omega

theorem extract_u8s (data : ByteArray) (k : Nat) : u8s (data.extract 0 k).data.toList = (u8s data.data.toList).take k := by
  unfold u8s
  rw [← List.map_take, ByteArray.data_extract, Array.toList_extract]
  simp [List.extract_eq_take_drop]

/-- a file's bytes cut: what the slice owns that is made of it. -/
theorem trunc_row {w : World} {g n c k : Nat} {data : ByteArray} (h : w.ownsRow 0 5 1 (.slice (some ⟨g, 0, none⟩) n c) n (u8s data.data.toList)) (hk : k ≤ n) :
    w.ownsRow 0 5 1 (.slice (some ⟨g, 0, none⟩) k c) k (u8s (data.extract 0 k).data.toList) := by
  have hl := h.1
  rw [u8s_length, Nat.mul_one] at hl
  rcases h.2 with ⟨e, _⟩ | ⟨g', cap, cur, e, h0, hg, hnc, hcm, hcs, htk⟩
  · cases e
  · injection e with e1 _ e2
    injection e1 with e1
    injection e1 with e1
    subst e1 e2
    refine ⟨by rw [extract_u8s, List.length_take, u8s_length]; omega, .inr ⟨g, c, cur, rfl, h0, hg, by omega, hcm, hcs, ?_⟩⟩
    rw [extract_u8s, ← htk, List.take_take]
    congr 1
    omega

theorem keep5t {w : World} {o : Obj} {S : Nat → Prop} {w' : World} {n0 n1 n2 : Nat} {u0 u1 u2 u3 u4 : Value}
    (h : (w.alloc o).drew.cell? ⟨n0, 0, none⟩ = some u0 ∧ (w.alloc o).drew.cell? ⟨n1, 0, none⟩ = some u1 ∧ (w.alloc o).drew.cell? ⟨n2, 0, none⟩ = some u2 ∧ (w.alloc o).drew.cell? ⟨w.heap.size, 0, none⟩ = some u3 ∧ (w.alloc o).drew.cell? ⟨w.heap.size, 1, none⟩ = some u4)
    (ht : Tch S (w.alloc o).drew w') (hl : n0 < w.heap.size ∧ n1 < w.heap.size ∧ n2 < w.heap.size) (hs : ¬ S n0 ∧ ¬ S n1 ∧ ¬ S n2 ∧ ¬ S w.heap.size) :
    w'.cell? ⟨n0, 0, none⟩ = some u0 ∧ w'.cell? ⟨n1, 0, none⟩ = some u1 ∧ w'.cell? ⟨n2, 0, none⟩ = some u2 ∧ w'.cell? ⟨w.heap.size, 0, none⟩ = some u3 ∧ w'.cell? ⟨w.heap.size, 1, none⟩ = some u4 := by
  have hz : (w.alloc o).drew.heap.size = w.heap.size + 1 := by simp
  refine ⟨(ht.cell (p := ⟨n0, 0, none⟩) ?_ hs.1).trans h.1, (ht.cell (p := ⟨n1, 0, none⟩) ?_ hs.2.1).trans h.2.1, (ht.cell (p := ⟨n2, 0, none⟩) ?_ hs.2.2.1).trans h.2.2.1, (ht.cell (p := ⟨w.heap.size, 0, none⟩) ?_ hs.2.2.2).trans h.2.2.2.1, (ht.cell (p := ⟨w.heap.size, 1, none⟩) ?_ hs.2.2.2).trans h.2.2.2.2⟩ <;> rw [hz] <;> simp only <;> omega

set_option maxRecDepth 20000 in
set_option maxHeartbeats 4000000 in
theorem trunc1_any (w : World) (S : Nat → Prop) (p b : Nat) (cv : ByteArray → Value) (m : DiskM) (h : IDisk w S p b cv m) (hm : m.files.length ≤ 4194304) (f : FileM) (hf : f ∈ m.files) (hsz : f.data.size ≤ 4194304) (n0 n1 n2 : Nat) (n : Int)
    (c0 : w.cell? ⟨n0, 0, none⟩ = some (.int .i64 n)) (c1 : w.cell? ⟨n1, 0, none⟩ = some (.pointer (some ⟨p, 0, none⟩))) (c2 : w.cell? ⟨n2, 0, none⟩ = some (.string f.name)) (l0 : n0 < w.heap.size) (l1 : n1 < w.heap.size) (l2 : n2 < w.heap.size) (s0 : ¬ S n0) (s1 : ¬ S n1) (s2 : ¬ S n2) :
    Calls Tryz.prog 145 #[.agg #[cv f.name, .int .i64 (f.sync : Int)], .pointer (some ⟨n0, 0, none⟩), .pointer (some ⟨n1, 0, none⟩), .pointer (some ⟨n2, 0, none⟩)] w fun e w' =>
      e = .returned (.int .i64 (if n < 0 ∨ (f.data.size : Int) < n then 5 else 0)) ∧ IBecomes S w w' p b (if n < 0 ∨ (f.data.size : Int) < n then m else { m with files := setF (truncF f n.toNat) m.files }) := by
  obtain ⟨a, c, ev⟩ := slice_owned (h.rows f hf)
  have HI := hide h
  have hrow := h.rows f hf
  have hfar := fun v hv => far_self h hf (v := v) hv
  have hn := h.names f hf
  have hsy := h.sync f hf
  rw [ev] at hrow hfar ⊢
  clear h
  by_cases hbad : n < 0 ∨ (f.data.size : Int) < n
  · rw [if_pos hbad, if_pos hbad]
    clear hfar hrow
    rcases hbad with hb | hb
    · go_enter Tryz.func145, Tryz.ntmps145
      go_wp2
      go_ret
      exact ⟨rfl, HI.out.becomes (by repeat (first | exact Below.refl _ _ | apply Below.drew | (refine Below.alloc ?_ (Nat.le_refl _) _)))⟩
    · have hb2 : ¬ n < 0 := by omega
      go_enter Tryz.func145, Tryz.ntmps145
      go_wp2
      go_ret
      exact ⟨rfl, HI.out.becomes (by repeat (first | exact Below.refl _ _ | apply Below.drew | (refine Below.alloc ?_ (Nat.le_refl _) _)))⟩
  · rw [if_neg hbad, if_neg hbad]
    obtain ⟨k, rfl⟩ : ∃ k : Nat, n = (k : Int) := ⟨n.toNat, by omega⟩
    have hk : k ≤ f.data.size := by omega
    simp only [Int.toNat_natCast]
    have hk1 : decide (f.data.size < k) = false := decide_eq_false (by omega)
    have hk2 : decide ((k : Int) < 0) = false := decide_eq_false (by omega)
    have hb0 : Below w.heap.size w (w.alloc (.cells #[.slice a f.data.size c, .int .i64 (f.sync : Int)] 195)).drew := ((Below.refl _ _).alloc (Nat.le_refl _) _).drew
    have e0 := (hb0.cell (p := ⟨n0, 0, none⟩) l0).trans c0
    have e1 := (hb0.cell (p := ⟨n1, 0, none⟩) l1).trans c1
    have e2 := (hb0.cell (p := ⟨n2, 0, none⟩) l2).trans c2
    have hS3 : ¬ S w.heap.size := fun hs => absurd (HI.out.lt _ hs) (by omega)
    have HS := hide (And.intro s0 (And.intro s1 (And.intro s2 hS3)))
    clear s0 s1 s2 hS3
    have hsz2 := extract_size hk
    have HE : Hid ((truncF f k).data.size = k) := hsz2
    have hfar2 := hide (fun v hv => hfar v hv)
    have hput : ∀ w1 (_ : Below w.heap.size w w1) (v : Value) (_ : w.ownsRow 0 5 1 v k (u8s (f.data.extract 0 k).data.toList)) (_ : v.ownBlock = (Value.slice a f.data.size c).ownBlock),
        Calls Tryz.prog 140 #[.pointer (some ⟨p, 0, none⟩), .string f.name, .agg #[v, .int .i64 (min (f.sync : Int) (k : Int))]] w1 fun e w' => e = .returned (.tuple #[]) ∧
          IDisk w' S p b (fun n => if n = f.name then v else cv n) { m with files := setF (truncF f k) m.files } ∧ Tch S w1 w' := fun w1 hb v hrow2 hv => by
      have h := put_any w1 S p b cv m (truncF f k) v ((HI.out.later hb).but _) hm (by rw [HE.out]; exact owns_later hrow2 hb) (hfar2.out v hv) hn (by rw [HE.out]; exact Nat.min_le_right _ _)
      have e : ((truncF f k).sync : Int) = min (f.sync : Int) (k : Int) := by show ((min f.sync k : Nat) : Int) = _; omega
      rw [e] at h
      exact h
    have HP := hide hput
    clear hput hfar hsz2
    rcases hrow.2 with ⟨e, h0⟩ | ⟨g, cap, cur, e, _, hg, hncap, hcm, hcs, htk⟩
    · injection e with ea _ ec
      subst ea ec
      have hrow2 : w.ownsRow 0 5 1 (.slice none 0 0) k (u8s (f.data.extract 0 k).data.toList) := by
        have e : k = 0 := by omega
        subst e
        exact ⟨by rw [u8s_length, ByteArray.data_extract]; simp, .inl ⟨rfl, rfl⟩⟩
      have HR := hide hrow2
      have hl5 := And.intro l0 (And.intro l1 l2)
      obtain rfl : k = 0 := by omega
      clear hrow hrow2
      rw [h0] at hb0 e0 e1 e2
      replace e0 : (w.alloc (.cells #[.slice none 0 0, .int .i64 (f.sync : Int)] 195)).drew.cell? ⟨n0, 0, none⟩ = some (.int .i64 0) := e0
      go_enter Tryz.func145, Tryz.ntmps145
      go_wp2_with fail
      go_region_held (fun w' => w'.cell? ⟨n0, 0, none⟩ = some (.int .i64 0) ∧ w'.cell? ⟨n1, 0, none⟩ = some (.pointer (some ⟨p, 0, none⟩)) ∧ w'.cell? ⟨n2, 0, none⟩ = some (.string f.name) ∧ w'.cell? ⟨w.heap.size, 0, none⟩ = some (.slice none 0 0) ∧ w'.cell? ⟨w.heap.size, 1, none⟩ = some (.int .i64 (f.sync : Int)))
        (first | assumption | (exact ⟨e0, e1, e2, by simp, by simp⟩) | (exact keep5t (by assumption) (by assumption) hl5 HS.out))
        (first | (go_at_call 140; refine (HP.out _ hb0 _ HR.out rfl).mono ?_; rintro e w5 ⟨rfl, h5, ht5⟩))
      all_goals
        go_wp2
        go_ret
        exact ⟨rfl, put_becomes hb0 h5 ht5⟩
    · injection e with ea _ ec
      subst ea ec
      have HR := hide (trunc_row hrow hk)
      have hl5 := And.intro l0 (And.intro l1 l2)
      have hkc : decide (c < k) = false := decide_eq_false (by omega)
      clear hrow htk hg hcs
      go_enter Tryz.func145, Tryz.ntmps145
      go_wp2_with fail
      go_region_held (fun w' => w'.cell? ⟨n0, 0, none⟩ = some (.int .i64 (k : Int)) ∧ w'.cell? ⟨n1, 0, none⟩ = some (.pointer (some ⟨p, 0, none⟩)) ∧ w'.cell? ⟨n2, 0, none⟩ = some (.string f.name) ∧ w'.cell? ⟨w.heap.size, 0, none⟩ = some (.slice (some ⟨g, 0, none⟩) f.data.size c) ∧ w'.cell? ⟨w.heap.size, 1, none⟩ = some (.int .i64 (f.sync : Int)))
        (first | assumption | (exact ⟨e0, e1, e2, by simp, by simp⟩) | (exact keep5t (by assumption) (by assumption) hl5 HS.out))
        (first | (go_at_call 140; refine (HP.out _ hb0 _ HR.out rfl).mono ?_; rintro e w5 ⟨rfl, h5, ht5⟩))
      all_goals
        go_wp2
        go_ret
        exact ⟨rfl, put_becomes hb0 h5 ht5⟩

end Go.Proofs.YthcnkbeognkjgaaGreatDoor
