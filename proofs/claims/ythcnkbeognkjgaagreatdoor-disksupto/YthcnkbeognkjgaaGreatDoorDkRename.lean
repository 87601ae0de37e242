/-
  The program's disk, walked: what Rename does with a file.
-/
import Derived.Test.YthcnkbeognkjgaaGreatDoorDkClosures
namespace Go.Proofs.YthcnkbeognkjgaaGreatDoor
open Go.RowKit Go.Shelf Go.WideMaps
open Rl


theorem keep5d {wx w' : World} {p b n0 n1 n2 nf : Nat} {u0 u1 u2 u3 u4 u5 : Value} (h : wx.cell? ⟨n0, 0, none⟩ = some u0 ∧ wx.cell? ⟨n1, 0, none⟩ = some u1 ∧ wx.cell? ⟨n2, 0, none⟩ = some u2 ∧ wx.cell? ⟨nf, 0, none⟩ = some u4 ∧ wx.cell? ⟨nf, 1, none⟩ = some u5 ∧ wx.cell? ⟨p, 1, none⟩ = some u3 ∧ n0 ≠ b ∧ n1 ≠ b ∧ n2 ≠ b ∧ nf ≠ b ∧ p ≠ b) (hg : wx.grownBy w' (some b)) :
    w'.cell? ⟨n0, 0, none⟩ = some u0 ∧ w'.cell? ⟨n1, 0, none⟩ = some u1 ∧ w'.cell? ⟨n2, 0, none⟩ = some u2 ∧ w'.cell? ⟨nf, 0, none⟩ = some u4 ∧ w'.cell? ⟨nf, 1, none⟩ = some u5 ∧ w'.cell? ⟨p, 1, none⟩ = some u3 ∧ n0 ≠ b ∧ n1 ≠ b ∧ n2 ≠ b ∧ nf ≠ b ∧ p ≠ b :=
  have e := h.2.2.2.2.2.2
  ⟨hg.cell h.1 (by simpa using e.1), hg.cell h.2.1 (by simpa using e.2.1), hg.cell h.2.2.1 (by simpa using e.2.2.1), hg.cell h.2.2.2.1 (by simpa using e.2.2.2.1), hg.cell h.2.2.2.2.1 (by simpa using e.2.2.2.1), hg.cell h.2.2.2.2.2.1 (by simpa using e.2.2.2.2), e⟩

theorem rename_far {w : World} {S : Nat → Prop} {p b : Nat} {cv : ByteArray → Value} {m : DiskM} (h : IDisk w S p b cv m) {k : Nat} (hk : k < m.files.length) (tn : ByteArray) :
    ∀ j, (cv m.files[k].name).ownBlock = some j → S j ∧ j ≠ p ∧ j ≠ b ∧ ∀ g ∈ m.files.eraseIdx k, g.name ≠ tn → (cv g.name).ownBlock ≠ some j := by
  intro j hj
  obtain ⟨h1, h2, h3⟩ := h.far _ (List.getElem_mem hk) j hj
  refine ⟨h1, h2, h3, fun g hg _ hk2 => ?_⟩
  obtain ⟨hg1, hg2⟩ := (mem_erase_iff h.ord hk).1 hg
  exact hg2 (h.apart g hg1 _ (List.getElem_mem hk) j hk2 hj)

set_option maxRecDepth 20000 in
set_option maxHeartbeats 4000000 in
theorem rename1_any (w : World) (S : Nat → Prop) (p b : Nat) (cv : ByteArray → Value) (m : DiskM) (h : IDisk w S p b cv m) (hm : m.files.length ≤ 4194304) (k : Nat) (hk : k < m.files.length) (tn : ByteArray) (hto : tn.size ≤ 8) (n0 n1 n2 : Nat)
    (c0 : w.cell? ⟨n0, 0, none⟩ = some (.pointer (some ⟨p, 0, none⟩))) (c1 : w.cell? ⟨n1, 0, none⟩ = some (.string m.files[k].name)) (c2 : w.cell? ⟨n2, 0, none⟩ = some (.string tn)) (l0 : n0 < w.heap.size) (l1 : n1 < w.heap.size) (l2 : n2 < w.heap.size) :
    Calls Tryz.prog 143 #[.agg #[cv m.files[k].name, .int .i64 (m.files[k].sync : Int)], .pointer (some ⟨n0, 0, none⟩), .pointer (some ⟨n1, 0, none⟩), .pointer (some ⟨n2, 0, none⟩)] w fun e w' =>
      e = .returned (.int .i64 0) ∧ IBecomes S w w' p b { m with files := setF (namedF m.files[k] tn) (m.files.eraseIdx k) } := by
  obtain ⟨a, c, ev⟩ := slice_owned (h.rows _ (List.getElem_mem hk))
  obtain ⟨D, nn, hown, hD⟩ := h.map
  have hrow := h.rows _ (List.getElem_mem hk)
  have hfar := rename_far h hk tn
  have hrb : ∀ j, (cv m.files[k].name).ownBlock = some j → j ≠ b := fun j hj => (h.far _ (List.getElem_mem hk) j hj).2.2
  rw [ev] at hrow hfar hrb ⊢
  have hb0 : Below w.heap.size w (w.alloc (.cells #[.slice a m.files[k].data.size c, .int .i64 (m.files[k].sync : Int)] 195)).drew := ((Below.refl _ _).alloc (Nat.le_refl _) _).drew
  have HX := hide (fun w' n' => IDisk.erase (w' := w') (n := n') (h.later hb0) hD hk)
  have hne := h.ne
  have e3 := (h.later hb0).box.c1
  have hn := h.names _ (List.getElem_mem hk)
  have hsy := h.sync _ (List.getElem_mem hk)
  have hkey : keyOf Tryz.prog 9 (.string m.files[k].name) = some (.string m.files[k].name.data.toList) := keyOf_string_mk Tryz.underlying9 (by unfold maxLen; omega)
  have HO := hide h.ownb
  have e0 := (hb0.cell (p := ⟨n0, 0, none⟩) l0).trans c0
  have e1 := (hb0.cell (p := ⟨n1, 0, none⟩) l1).trans c1
  have e2 := (hb0.cell (p := ⟨n2, 0, none⟩) l2).trans c2
  have hown0 := (hown.alloc (.cells #[.slice a m.files[k].data.size c, .int .i64 (m.files[k].sync : Int)] 195)).drew
  have hn0 := map_ne hown c0
  have hn1 := map_ne hown c1
  have hn2 := map_ne hown c2
  have hnb : w.heap.size ≠ b := by have := hown.lt; omega
  have hlen : (m.files.eraseIdx k).length ≤ 4194304 := Nat.le_trans (List.length_eraseIdx_le _ _) hm
  have f0 : (w.alloc (.cells #[.slice a m.files[k].data.size c, .int .i64 (m.files[k].sync : Int)] 195)).drew.cell? ⟨w.heap.size, 0, none⟩ = some (.slice a m.files[k].data.size c) := by simp
  have f1 : (w.alloc (.cells #[.slice a m.files[k].data.size c, .int .i64 (m.files[k].sync : Int)] 195)).drew.cell? ⟨w.heap.size, 1, none⟩ = some (.int .i64 (m.files[k].sync : Int)) := by simp
  have hput : ∀ w5 n5, w5.ownsMap Tryz.prog 9 RFile b n5 (D.del (.string m.files[k].name.data.toList)) → (w.alloc (.cells #[.slice a m.files[k].data.size c, .int .i64 (m.files[k].sync : Int)] 195)).drew.grownBy w5 (some b) →
      Calls Tryz.prog 140 #[.pointer (some ⟨p, 0, none⟩), .string tn, .agg #[.slice a m.files[k].data.size c, .int .i64 (m.files[k].sync : Int)]] w5 fun e w' => e = .returned (.tuple #[]) ∧
        IDisk w' S p b (fun n => if n = tn then .slice a m.files[k].data.size c else cv n) { m with files := setF (namedF m.files[k] tn) (m.files.eraseIdx k) } ∧ Tch S w5 w' := by
    intro w5 n5 h5 hg5
    have ht : Tch (fun j => j = b) (w.alloc (.cells #[.slice a m.files[k].data.size c, .int .i64 (m.files[k].sync : Int)] 195)).drew w5 := ⟨hg5.os, hg5.tape, hg5.output, hg5.size, fun k hk hn => hg5.block k hk (fun e => hn (by injection e))⟩
    exact put_any w5 S p b cv { m with files := m.files.eraseIdx k } (namedF m.files[k] tn) (.slice a m.files[k].data.size c) ((HX.out w5 n5 h5 hg5).but _) hlen (ht.owns (owns_later hrow hb0) (fun j hj e => hrb j hj e)) hfar hto hsy
  have HP := hide hput
  clear h hD hown hput hrow hfar hrb hsy ev
  generalize m.files[k].name = nm at *
  go_enter Tryz.func143, Tryz.ntmps143
  go_wp2_with fail
  have HB := hide hb0
  generalize (w.alloc (.cells #[.slice a m.files[k].data.size c, .int .i64 (m.files[k].sync : Int)] 195)) = W0 at *
  go_region_held_law (fun w' => w'.cell? ⟨n0, 0, none⟩ = some (.pointer (some ⟨p, 0, none⟩)) ∧ w'.cell? ⟨n1, 0, none⟩ = some (.string nm) ∧ w'.cell? ⟨n2, 0, none⟩ = some (.string tn) ∧ w'.cell? ⟨w.heap.size, 0, none⟩ = some (.slice a m.files[k].data.size c) ∧ w'.cell? ⟨w.heap.size, 1, none⟩ = some (.int .i64 (m.files[k].sync : Int)) ∧ w'.cell? ⟨p, 1, none⟩ = some (.map (some b)) ∧ n0 ≠ b ∧ n1 ≠ b ∧ n2 ≠ b ∧ w.heap.size ≠ b ∧ p ≠ b)
    (first | assumption | (exact ⟨e0, e1, e2, f0, f1, e3, hn0, hn1, hn2, hnb, hne⟩) | (exact keep5d (by assumption) (by assumption)))
    (first | (refine step_delete rfl (.tmp 9) (.tmp 10) rfl b nn D nm rfl rfl hown0 hkey ?_; intro w5 hown5 hg5))
  have hS := ‹w5.cell? _ = some _ ∧ w5.cell? _ = some _ ∧ w5.cell? _ = some _ ∧ w5.cell? _ = some _ ∧ w5.cell? _ = some _ ∧ w5.cell? _ = some _ ∧ _›
  obtain ⟨g0, g1, g2, g3, g4, g5, _⟩ := hS
  go_wp2_with (go_at_call 140; refine (HP.out _ _ hown5 hg5).mono ?_; rintro e w' ⟨rfl, h1, h2⟩)
  go_ret
  exact ⟨rfl, IBecomes.behind HB.out ⟨S, _, h1, fun _ hk => .inl hk, Tch.trans (S := S) (S' := S) ⟨hg5.os, hg5.tape, hg5.output, hg5.size, fun k hk hn => hg5.block k hk (fun e => hn (by injection e with e; rw [e]; exact HO.out))⟩ h2 (fun _ h => .inl h)⟩⟩

end Go.Proofs.YthcnkbeognkjgaaGreatDoor
