/-
  The program's disk, walked: what every call goes through that changes a file that must be there.
-/
import Derived.Test.YthcnkbeognkjgaaGreatDoorDkChange
import Derived.Test.YthcnkbeognkjgaaGreatDoorAppPlace
namespace Go.Proofs.YthcnkbeognkjgaaGreatDoor
open Go.RowKit Go.Shelf Go.WideMaps
open Rl


set_option maxRecDepth 20000 in
/-- what the map answers: the file of this name, if there is one. -/
theorem disk_find {w : World} {S : Nat → Prop} {p b : Nat} {cv : ByteArray → Value} {m : DiskM} (h : IDisk w S p b cv m) (name : ByteArray) (hn : name.size ≤ maxLen) :
    (Instr.lookup 84 (.map (some b)) (.string name) true).run Tryz.prog w = .ok (.tuple #[match lookF name m.files with | some f => .agg #[cv f.name, .int .i64 (f.sync : Int)] | none => .agg #[.slice none 0 0, .int .i64 0], .bool (lookF name m.files).isSome]) w ∧
    (Instr.lookup 84 (.map (some b)) (.string name) false).run Tryz.prog w = .ok (match lookF name m.files with | some f => .agg #[cv f.name, .int .i64 (f.sync : Int)] | none => .agg #[.slice none 0 0, .int .i64 0]) w := by
  obtain ⟨D, n, hown, hD⟩ := h.map
  obtain ⟨v, ps, hrun, hv⟩ := hown.look_ok str_law Tryz.underlying84 (zero_file w) (zd := .held (.agg #[.slice none 0 0, .int .i64 0])) (zp := []) (RFile_mk none 0 0 0) (keyOf_string_mk Tryz.underlying9 hn)
  obtain ⟨v2, ps2, hrun2, hv2⟩ := hown.lookup str_law Tryz.underlying84 (zero_file w) (zd := .held (.agg #[.slice none 0 0, .int .i64 0])) (zp := []) (RFile_mk none 0 0 0) (keyOf_string_mk Tryz.underlying9 hn)
  rw [hD.has] at hrun
  have e : ∀ (v : Value) (ps : List MemPlace), RFile v = some (D.atKey (.string name.data.toList) (.held (.agg #[.slice none 0 0, .int .i64 0])), ps) → v = match lookF name m.files with | some f => .agg #[cv f.name, .int .i64 (f.sync : Int)] | none => .agg #[.slice none 0 0, .int .i64 0] := by
    intro v ps hv
    obtain ⟨_, _, _, _, _, e⟩ := RFile_inv hv
    have e1 := congrArg Prod.fst e
    simp only at e1
    rw [hD name] at e1
    cases hl : lookF name m.files with
    | none => rw [hl] at e1; injection e1 with e1; exact e1.symm
    | some f => rw [hl] at e1; injection e1 with e1; exact e1.symm
  rw [← e v ps hv]
  refine ⟨hrun, ?_⟩
  rw [e v ps hv, ← e v2 ps2 hv2]
  exact hrun2

/-- what holds while a file is looked for. -/
theorem keepL {w w' : World} {S : Nat → Prop} {p b : Nat} {cv : ByteArray → Value} {m : DiskM} {name : ByteArray} {n0 n1 : Nat} {fv : Value} {there : Bool} (h : IDisk w S p b cv m)
    (hf : ∀ wx, IDisk wx S p b cv m → (Instr.lookup 84 (.map (some b)) (.string name) true).run Tryz.prog wx = .ok (.tuple #[fv, .bool there]) wx)
    (c0 : w.cell? ⟨n0, 0, none⟩ = some (.pointer (some ⟨p, 0, none⟩))) (c1 : w.cell? ⟨n1, 0, none⟩ = some (.string name)) (l0 : n0 < w.heap.size) (l1 : n1 < w.heap.size) (hb : Below w.heap.size w w') :
    w'.cell? ⟨n0, 0, none⟩ = some (.pointer (some ⟨p, 0, none⟩)) ∧ w'.cell? ⟨n1, 0, none⟩ = some (.string name) ∧ w'.cell? ⟨p, 1, none⟩ = some (.map (some b)) ∧
      (Instr.lookup 84 (.map (some b)) (.string name) true).run Tryz.prog w' = .ok (.tuple #[fv, .bool there]) w' ∧ Below w.heap.size w w' :=
  ⟨(hb.cell (p := ⟨n0, 0, none⟩) l0).trans c0, (hb.cell (p := ⟨n1, 0, none⟩) l1).trans c1, (h.later hb).box.c1, hf _ (h.later hb), hb⟩

set_option maxHeartbeats 4000000 in
theorem changeFile1_any (w : World) (S : Nat → Prop) (p b : Nat) (cv : ByteArray → Value) (m : DiskM) (h : IDisk w S p b cv m) (name : ByteArray) (hn : name.size ≤ 2097152) (n0 n1 n2 : Nat) (k : FuncId) (caps : Array Value) (hk : Enters Tryz.prog k)
    (c0 : w.cell? ⟨n0, 0, none⟩ = some (.pointer (some ⟨p, 0, none⟩))) (c1 : w.cell? ⟨n1, 0, none⟩ = some (.string name)) (c2 : w.cell? ⟨n2, 0, none⟩ = some (.func (.func k) #[] caps)) (l0 : n0 < w.heap.size) (l1 : n1 < w.heap.size) (l2 : n2 < w.heap.size)
    (er : Int) (m2 : DiskM) (hdo : ∀ f, lookF name m.files = some f → ∀ w1, Below w.heap.size w w1 → Calls Tryz.prog k (#[.agg #[cv f.name, .int .i64 (f.sync : Int)]] ++ caps) w1 fun e w2 => e = .returned (.int .i64 er) ∧ IBecomes S w1 w2 p b m2) :
    Calls Tryz.prog 190 #[.pointer (some ⟨n0, 0, none⟩), .pointer (some ⟨n1, 0, none⟩), .pointer (some ⟨n2, 0, none⟩)] w fun e w' => e = .returned (.int .i64 (fileE m name er)) ∧ IBecomes S w w' p b (fileM m name m2) := by
  obtain ⟨d0, d1, d2, f0, f1, f2, hlt⟩ := h.box
  have hmx : name.size ≤ maxLen := by unfold maxLen; omega
  have hfind := hide (fun wx (hx : IDisk wx S p b cv m) => (disk_find hx name hmx).1)
  have HI := hide h
  have ek : ∀ args w, (callFunc k args).run Tryz.prog w = .ok (.enter k args) w := hk
  clear h
  cases hl : lookF name m.files with
  | none =>
    have e1 : fileE m name er = 7 := by unfold fileE; rw [hl]; rfl
    have e2 : fileM m name m2 = m := by unfold fileM; rw [hl]; rfl
    rw [e1, e2]
    rw [hl] at hfind
    simp only [Option.isSome_none] at hfind
    have hk := hide (fun w' => keepL (w' := w') HI.out hfind.out c0 c1 l0 l1)
    clear e1 e2 hdo
    go_enter Tryz.func190, Tryz.ntmps190
    go_wp2_with fail
    go_region_held (fun w' => w'.cell? ⟨n0, 0, none⟩ = some (.pointer (some ⟨p, 0, none⟩)) ∧ w'.cell? ⟨n1, 0, none⟩ = some (.string name) ∧ w'.cell? ⟨p, 1, none⟩ = some (.map (some b)) ∧
      (Instr.lookup 84 (.map (some b)) (.string name) true).run Tryz.prog w' = .ok (.tuple #[.agg #[.slice none 0 0, .int .i64 0], .bool false]) w' ∧ Below w.heap.size w w')
      (first | assumption | (exact hk.out _ (Below.refl _ _).drew) | (exact hk.out _ ((Below.refl _ _).drew.alloc (Nat.le_refl _) _)) | (exact hk.out _ (((Below.refl _ _).drew.alloc (Nat.le_refl _) _).setCell (by simp) _))) (fail)
    all_goals (go_wp2; go_ret; exact ⟨rfl, HI.out.becomes ((Below.refl _ _).alloc (Nat.le_refl _) _).drew⟩)
  | some f =>
    have e1 : fileE m name er = er := by unfold fileE; rw [hl]; rfl
    have e2 : fileM m name m2 = m2 := by unfold fileM; rw [hl]; rfl
    rw [e1, e2]
    rw [hl] at hfind
    simp only [Option.isSome_some] at hfind
    have hdo2 := hide (hdo f hl)
    clear e1 e2 hdo
    obtain ⟨hf, _⟩ := lookF_spec hl
    obtain ⟨a, c, ev⟩ := slice_owned (HI.out.rows f hf)
    rw [ev] at hfind hdo2
    have hk := hide (fun w' => keepL (w' := w') HI.out hfind.out c0 c1 l0 l1)
    go_enter Tryz.func190, Tryz.ntmps190
    go_wp2_with fail
    go_region_held (fun w' => w'.cell? ⟨n0, 0, none⟩ = some (.pointer (some ⟨p, 0, none⟩)) ∧ w'.cell? ⟨n1, 0, none⟩ = some (.string name) ∧ w'.cell? ⟨p, 1, none⟩ = some (.map (some b)) ∧
      (Instr.lookup 84 (.map (some b)) (.string name) true).run Tryz.prog w' = .ok (.tuple #[.agg #[.slice a f.data.size c, .int .i64 (f.sync : Int)], .bool true]) w' ∧ Below w.heap.size w w')
      (first | assumption | (exact hk.out _ (Below.refl _ _).drew) | (exact hk.out _ ((Below.refl _ _).drew.alloc (Nat.le_refl _) _)) | (exact hk.out _ (((Below.refl _ _).drew.alloc (Nat.le_refl _) _).setCell (by simp) _))) (fail)
    all_goals
      have hb2 : Below w.heap.size w (w.alloc (.cells #[.slice a f.data.size c, .int .i64 (f.sync : Int)] 195)).drew := ((Below.refl _ _).alloc (Nat.le_refl _) _).drew
      have d3 := (hb2.cell (p := ⟨n2, 0, none⟩) l2).trans c2
      go_wp2_with (first | (go_at_fn k; refine (hdo2.out _ (by first | exact hb2 | exact hb2.drew)).mono ?_; rintro e w2 ⟨rfl, hbe⟩))
      go_ret
      exact ⟨rfl, hbe.behind (by first | exact hb2 | exact hb2.drew)⟩

theorem info_string : (Tryz.prog.info? 9).map (fun i => (i.zero, i.size, i.bytes)) = some (some (.string ⟨#[]⟩), 1, 16) := by kernel_rfl

theorem nms_one (l : List ByteArray) : ∀ u ∈ nms l, u.oneCell' = true := by
  intro u hu
  obtain ⟨s, _, rfl⟩ := List.mem_map.1 hu
  rfl

/-- a row of names that has no room: nil, or as long as its room. -/
def NoRoom (v : Value) (n : Nat) : Prop := v = .slice none 0 0 ∨ ∃ g, v = .slice (some ⟨g, 0, none⟩) n n

/-- an append of a name to a row without room, as one step of a region that draws its order: a new row; nothing that was there has turned. -/
theorem step_append_full {ops : Array Oper} {o : Oper} {a : Act} {w : World} {K : Act → World → Prop} {Q : Exit → Act → World → Prop} {E : Prop}
    (hg : o.guard = none) (s x : Operand) (hop : o.op = Op.call { callee := Callee.builtin Builtin.append, args := #[s, x], argTypes := #[28, 28] })
    (v : Value) (l : List ByteArray) (hs : a.eval s = v) (hown : w.ownsRow 0 9 1 v l.length (nms l)) (hno : NoRoom v l.length)
    (n : Nat) (name : ByteArray) (hx : a.eval x = .slice (some ⟨n, 0, none⟩) 1 1) (hc : w.cell? ⟨n, 0, none⟩ = some (.string name)) (hl : l.length ≤ 1073741823)
    (hK : ∀ v' w', w'.ownsRow 0 9 1 v' (l ++ [name]).length (nms (l ++ [name])) → Below w.heap.size w w' → K (a.put o.dst v') w') :
    if Region.wanted o (yielded ops a.tmps) = true then Oper.wp Tryz.prog o a w K Q else E := by
  have hw : Region.wanted o (yielded ops a.tmps) = true := by simp [Region.wanted, hg]
  rw [if_pos hw]
  obtain ⟨i0, hi, hz0, hz1, hz2⟩ := info_parts info_string
  have hnews : ∀ (j : Nat) (u : Value), (nms [name])[j]? = some u → w.cell? ((⟨n, 0, none⟩ : Addr).add j) = some u := by
    intro j u hj
    cases j with
    | zero => simp only [nms, List.map_cons, List.getElem?_cons_zero, Option.some.injEq] at hj; subst hj; exact hc
    | succ j => simp [nms] at hj
  obtain ⟨v', w', hr, h2, h3, _⟩ := run_append_own (P := Tryz.prog) w 0 28 o.type 9 i0 (.string ⟨#[]⟩) 1 16 Tryz.underlying28 hi hz0 hz1 hz2 rfl (by decide) v l.length (nms l) hown ⟨n, 0, none⟩ 1 1 (nms [name]) rfl hnews (nms_one _) (by unfold maxLen; omega) (by omega) (Nat.zero_le _)
  have hb : Below w.heap.size w w' := by
    rcases hno with rfl | ⟨g, rfl⟩
    · exact (Below.refl _ _).grown h3 (Nat.le_refl _) (fun j hj => by cases hj)
    · have hr2 := run_append_grow (P := Tryz.prog) w 28 o.type 9 i0 (.string ⟨#[]⟩) Tryz.underlying28 hi hz0 ⟨g, 0, none⟩ l.length l.length (nms l) (by rw [hz1, nms_length, Nat.mul_one]) (hown.cells (g := g) rfl) ⟨n, 0, none⟩ 1 1 (nms [name]) (by rw [hz1]; rfl) hnews (by omega) (by omega) (growslice_fits (by omega) (by rw [hz2]; omega))
      rw [hr] at hr2
      injection hr2 with e1 e2
      rw [e2]
      exact (Below.refl _ _).drew.alloc (Nat.le_refl _) _
  unfold Oper.wp
  simp [execOp, hop, resolve, invoke, builtin, hs, hx, hr, Result.andThen]
  exact hK v' w' (by rw [List.length_append]; unfold nms at h2 ⊢; rw [List.map_append]; exact h2) hb

theorem keep3v {w w' : World} {n0 : Nat} {u v : Value} (h : w.cell? ⟨n0, 0, none⟩ = some u ∧ w.cell? ⟨n0 + 1 + 1, 0, none⟩ = some v ∧ n0 + 1 + 1 < w.heap.size) (hb : Below w.heap.size w w') :
    w'.cell? ⟨n0, 0, none⟩ = some u ∧ w'.cell? ⟨n0 + 1 + 1, 0, none⟩ = some v ∧ n0 + 1 + 1 < w'.heap.size :=
  ⟨(hb.cell (p := ⟨n0, 0, none⟩) (by have := h.2.2; show n0 < _; omega)).trans h.1, (hb.cell (p := ⟨n0 + 1 + 1, 0, none⟩) h.2.2).trans h.2.1, Nat.lt_of_lt_of_le h.2.2 hb.size⟩

theorem keep3t {S : Nat → Prop} {w w' : World} {n0 : Nat} {u v : Value} (h : w.cell? ⟨n0, 0, none⟩ = some u ∧ w.cell? ⟨n0 + 1 + 1, 0, none⟩ = some v ∧ n0 + 1 + 1 < w.heap.size) (ht : Tch S w w') (h0 : ¬ S n0) (h2 : ¬ S (n0 + 1 + 1)) :
    w'.cell? ⟨n0, 0, none⟩ = some u ∧ w'.cell? ⟨n0 + 1 + 1, 0, none⟩ = some v ∧ n0 + 1 + 1 < w'.heap.size :=
  ⟨(ht.cell (p := ⟨n0, 0, none⟩) (by have := h.2.2; show n0 < _; omega) h0).trans h.1, (ht.cell (p := ⟨n0 + 1 + 1, 0, none⟩) h.2.2 h2).trans h.2.1, Nat.lt_of_lt_of_le h.2.2 ht.size⟩

theorem new_cell (w : World) (c : Value) (T : TypeId) : (w.alloc (.cells #[c] T)).cell? ⟨w.heap.size, 0, none⟩ = some c := by simp

/-- three variables of one cell each, one behind the other. -/
theorem three_vars (w : World) (a b c : Value) (T1 T2 T3 : TypeId) :
    (((w.alloc (.cells #[a] T1)).alloc (.cells #[b] T2)).alloc (.cells #[c] T3)).cell? ⟨w.heap.size, 0, none⟩ = some a ∧ (((w.alloc (.cells #[a] T1)).alloc (.cells #[b] T2)).alloc (.cells #[c] T3)).cell? ⟨w.heap.size + 1, 0, none⟩ = some b ∧
      (((w.alloc (.cells #[a] T1)).alloc (.cells #[b] T2)).alloc (.cells #[c] T3)).cell? ⟨w.heap.size + 1 + 1, 0, none⟩ = some c ∧ (((w.alloc (.cells #[a] T1)).alloc (.cells #[b] T2)).alloc (.cells #[c] T3)).heap.size = w.heap.size + 1 + 1 + 1 ∧
      Below w.heap.size w (((w.alloc (.cells #[a] T1)).alloc (.cells #[b] T2)).alloc (.cells #[c] T3)) := by
  have s1 : (w.alloc (.cells #[a] T1)).heap.size = w.heap.size + 1 := by simp
  have s2 : ((w.alloc (.cells #[a] T1)).alloc (.cells #[b] T2)).heap.size = w.heap.size + 1 + 1 := by simp
  have h0 : (w.alloc (.cells #[a] T1)).cell? ⟨w.heap.size, 0, none⟩ = some a := by simp
  have h1 : ((w.alloc (.cells #[a] T1)).alloc (.cells #[b] T2)).cell? ⟨(w.alloc (.cells #[a] T1)).heap.size, 0, none⟩ = some b := new_cell _ _ _
  have h2 : (((w.alloc (.cells #[a] T1)).alloc (.cells #[b] T2)).alloc (.cells #[c] T3)).cell? ⟨((w.alloc (.cells #[a] T1)).alloc (.cells #[b] T2)).heap.size, 0, none⟩ = some c := new_cell _ _ _
  rw [s1] at h1
  rw [s2] at h2
  have b1 : Below (w.alloc (.cells #[a] T1)).heap.size (w.alloc (.cells #[a] T1)) (((w.alloc (.cells #[a] T1)).alloc (.cells #[b] T2)).alloc (.cells #[c] T3)) := ((Below.refl _ _).alloc (Nat.le_refl _) _).alloc (by simp) _
  have b2 : Below ((w.alloc (.cells #[a] T1)).alloc (.cells #[b] T2)).heap.size ((w.alloc (.cells #[a] T1)).alloc (.cells #[b] T2)) (((w.alloc (.cells #[a] T1)).alloc (.cells #[b] T2)).alloc (.cells #[c] T3)) := (Below.refl _ _).alloc (Nat.le_refl _) _
  exact ⟨(b1.cell (p := ⟨w.heap.size, 0, none⟩) (by rw [s1]; exact Nat.lt_succ_self _)).trans h0, (b2.cell (p := ⟨w.heap.size + 1, 0, none⟩) (by rw [s2]; exact Nat.lt_succ_self _)).trans h1, h2, by simp, (((Below.refl _ _).alloc (Nat.le_refl _) _).alloc (by rw [s1]; omega) _).alloc (by rw [s2]; omega) _⟩

set_option maxRecDepth 20000 in
set_option maxHeartbeats 4000000 in
theorem changeFile_any (w : World) (S : Nat → Prop) (p b : Nat) (cv : ByteArray → Value) (m : DiskM) (h : IDisk w S p b cv m) (name : ByteArray) (hn : name.size ≤ 2097152) (k : FuncId) (caps : Array Value) (hk : Enters Tryz.prog k) (nv : Value) (l : List ByteArray)
    (hx : l.length ≤ 1073741823) (hr : w.ownsRow 0 9 1 nv l.length (nms l)) (hno : NoRoom nv l.length) (hs : ∀ s ∈ l, s.size ≤ 2097152) (er : Int) (m2 : DiskM) (hl2 : m2.left = m.left) (hm : -1 ≤ m.left) (hm2 : m.left ≤ 9223372036854775807)
    (hdo : allOk (l ++ [name]) = true → ∀ f, lookF name m.files = some f → ∀ w1, Below w.heap.size w w1 → Calls Tryz.prog k (#[.agg #[cv f.name, .int .i64 (f.sync : Int)]] ++ caps) w1 fun e w2 => e = .returned (.int .i64 er) ∧ IBecomes S w1 w2 p b m2) :
    Calls Tryz.prog 141 #[.pointer (some ⟨p, 0, none⟩), .func (.func k) #[] caps, .string name, nv] w fun e w' => e = .returned (.int .i64 (changeE m (l ++ [name]) (fileE m name er))) ∧ IBecomes S w w' p b (changeM m (l ++ [name]) (fileE m name er) (fileM m name m2)) := by
  have HI := hide h
  have hlt := h.box.lt
  have hS0 : ∀ j, w.heap.size ≤ j → ¬ S j := fun j hj hs => by have := h.lt j hs; omega
  clear h
  have hk2 : Enters Tryz.prog 190 := enters_of Tryz.func190 (by kernel_rfl) rfl
  have hls : ∀ s ∈ l ++ [name], s.size ≤ 2097152 := fun s hs1 => by
    rcases List.mem_append.1 hs1 with h | h
    · exact hs s h
    · rw [List.mem_singleton] at h; rw [h]; exact hn
  have hle : (l ++ [name]).length ≤ 1073741824 := by rw [List.length_append, List.length_singleton]; omega
  have hl3 : (fileM m name m2).left = m.left := by unfold fileM; split; exact hl2; rfl
  obtain ⟨E, hE⟩ : ∃ E, E = changeE m (l ++ [name]) (fileE m name er) := ⟨_, rfl⟩
  obtain ⟨M, hM⟩ : ∃ M, M = changeM m (l ++ [name]) (fileE m name er) (fileM m name m2) := ⟨_, rfl⟩
  rw [← hE, ← hM]
  have HE := hide hE
  have HM := hide hM
  clear hE hM
  obtain ⟨c0, c1, c2, hz, hb0⟩ := three_vars w (.pointer (some ⟨p, 0, none⟩)) (.func (.func k) #[] caps) (.string name) 53 198 9
  go_enter Tryz.func141, Tryz.ntmps141
  go_wp2_with fail
  generalize (((w.alloc (.cells #[.pointer (some ⟨p, 0, none⟩)] 53)).alloc (.cells #[.func (.func k) #[] caps] 198)).alloc (.cells #[.string name] 9)) = W0 at *
  have hr0 := owns_later hr hb0
  have hz2 : w.heap.size + 1 + 1 < W0.heap.size := by omega
  have hch : ∀ v5 w5, w5.ownsRow 0 9 1 v5 (l ++ [name]).length (nms (l ++ [name])) → Below W0.heap.size W0 w5 →
      Calls Tryz.prog 137 #[.pointer (some ⟨p, 0, none⟩), .func (.func 190) #[] #[.pointer (some ⟨w.heap.size, 0, none⟩), .pointer (some ⟨w.heap.size + 1 + 1, 0, none⟩), .pointer (some ⟨w.heap.size + 1, 0, none⟩)], v5] w5 fun e w' =>
        e = .returned (.int .i64 E) ∧ IBecomes S w5 w' p b M := by
    intro v5 w5 ho5 hb5
    rw [HE.out, HM.out]
    have hb05 := later_below hb0 hb5 hb0.size
    refine change_any w5 S p b cv m (HI.out.later hb05) _ _ hk2 v5 (l ++ [name]) hle (rowAt_of_owns ho5) hls _ _ hl3 hm hm2 (fun ha _ w1 hb1 => ?_)
    have hb51 := later_below hb5 hb1 hb5.size
    have hb01 := later_below hb05 hb1 hb05.size
    refine changeFile1_any w1 S p b cv m (HI.out.later hb01) name hn _ _ _ k caps hk ((hb51.cell (p := ⟨w.heap.size, 0, none⟩) (by show w.heap.size < _; omega)).trans c0) ((hb51.cell (p := ⟨w.heap.size + 1 + 1, 0, none⟩) (by show w.heap.size + 1 + 1 < _; omega)).trans c2) ((hb51.cell (p := ⟨w.heap.size + 1, 0, none⟩) (by show w.heap.size + 1 < _; omega)).trans c1) (by have := hb51.size; omega) (by have := hb51.size; omega) (by have := hb51.size; omega) er m2 (fun f hf w2 hb2 => ?_)
    exact hdo ha f hf w2 (later_below hb01 hb2 hb01.size)
  have HC := hide hch
  clear hch hdo c1 hz
  have hno2 := hide hno
  clear hno
  have hS1 := hide hS0
  clear hS0
  go_region_held_law (fun w' => w'.cell? ⟨w.heap.size, 0, none⟩ = some (.pointer (some ⟨p, 0, none⟩)) ∧ w'.cell? ⟨w.heap.size + 1 + 1, 0, none⟩ = some (.string name) ∧ w.heap.size + 1 + 1 < w'.heap.size)
    (first | assumption | (exact ⟨c0, c2, hz2⟩) | (exact keep3v (by assumption) (by assumption)) | (exact keep3v ⟨c0, c2, hz2⟩ ((Below.refl _ _).drew.alloc (Nat.le_refl _) _)) | (exact keep3t (by assumption) (by assumption) (hS1.out _ (Nat.le_refl _)) (hS1.out _ (by omega))))
    (first
      | (refine step_append_full rfl (.tmp 11) (.tmp 13) rfl nv l rfl (hr0.alloc _) hno2.out W0.heap.size name rfl (by simp) hx ?_; intro v5 w5 hown5 hb5)
      | (go_at_call 137; refine (HC.out _ _ hown5 (((Below.refl _ _).drew.alloc (Nat.le_refl _) _).trans (hb5.mono (by simp)))).mono ?_; rintro e w6 ⟨rfl, hbe⟩; obtain ⟨S6, cv6, hi6, hs6, ht6⟩ := id hbe))
  all_goals
    have hb05 : Below w.heap.size w w5 := later_below hb0 (((Below.refl _ _).drew.alloc (Nat.le_refl _) _).trans (hb5.mono (by simp))) hb0.size
    go_wp2
    go_ret
    exact ⟨rfl, hbe.behind hb05⟩

end Go.Proofs.YthcnkbeognkjgaaGreatDoor
