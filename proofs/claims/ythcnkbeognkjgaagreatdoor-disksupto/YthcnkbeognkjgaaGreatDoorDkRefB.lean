/-
  The document's disk, walked: put and drop.
-/
import Derived.Test.YthcnkbeognkjgaaGreatDoorDkRefA
import Derived.Deep.QuietTactic
import Derived.Deep.DeepCutAuto
import Derived.Deep.RegionHeld
namespace Go.Proofs.YthcnkbeognkjgaaGreatDoor
open Go.RowKit
open Rl

/-- what a call has made of the document's disk. -/
def Becomes (S : Nat → Prop) (w w' : World) (p : Nat) (m : DiskM) : Prop := ∃ S' fv, RDisk w' S' p fv m ∧ (∀ k, S' k → S k ∨ w.heap.size ≤ k) ∧ Tch S w w'

theorem info_file : (Tryz.prog.info? 127).map (fun i => (i.zero, i.size, i.bytes)) = some (some (.agg #[.string ⟨#[]⟩, .string ⟨#[]⟩, .int .i64 0]), 3, 40) := by kernel_rfl

theorem owns_lower {w : World} {B B' : Nat} {e : TypeId} {size : Nat} {v : Value} {n : Nat} {xs : List Value} (h : w.ownsRow B e size v n xs) (hB : B' ≤ B) : w.ownsRow B' e size v n xs :=
  ⟨h.1, h.2.imp id (fun ⟨g, cap, cur, e, hb, r⟩ => ⟨g, cap, cur, e, Nat.le_trans hB hb, r⟩)⟩

theorem file_three (f : FileM) : ∀ u ∈ [Value.string f.name, Value.string f.data, Value.int .i64 (f.sync : Int)], u.oneCell' = true := by
  intro u hu; simp at hu; rcases hu with rfl | rfl | rfl <;> rfl

/-- the disk's files, made anew in a row of the call's own. -/
theorem RDisk.files {w w' : World} {S : Nat → Prop} {p : Nat} {fv lv : Value} {m : DiskM} {l : List FileM} (h : RDisk w S p fv m) (ht : Tch (fun _ => False) w w') (ho : w'.ownsRow w.heap.size 127 3 lv l.length (fileCells l)) :
    Becomes S w (w'.setCell ⟨p, 1, none⟩ lv) p { m with files := l } := by
  have hlt := h.lt p h.own
  have hne : ∀ k, lv.ownBlock = some k → w.heap.size ≤ k ∧ k < w'.heap.size := fun k hk => ho.lt k hk
  refine ⟨fun k => S k ∨ (w.heap.size ≤ k ∧ k < w'.heap.size), lv, ⟨?_, ?_, .inl h.own, fun k hk => ⟨.inr (hne k hk), by have := (hne k hk).1; omega⟩, ?_⟩, fun k hk => hk.imp id And.left, ?_⟩
  · exact (h.box.touch ht (fun x => x)).set1 lv
  · refine (touch_set (S := fun k => k = p) (p := ⟨p, 1, none⟩) lv rfl).owns ?_ (fun k hk e => by have := (hne k hk).1; omega)
    exact ⟨ho.1, ho.2.imp id (fun ⟨g, cap, cur, e, _, r⟩ => ⟨g, cap, cur, e, Nat.zero_le _, r⟩)⟩
  · intro k hk
    rcases hk with hk | hk
    · have := h.lt k hk; have := ht.size; simp; omega
    · simp; omega
  · exact (ht.mono (fun _ x => x.elim)).set lv (.inl h.own)

theorem erase_step (l : List FileM) (d k : Nat) (h : k < l.length) : (l.take (k + 1)).eraseIdx d = if k = d then (l.take k).eraseIdx d else (l.take k).eraseIdx d ++ [l[k]] := by
  have hk : (l.take k).length = k := by rw [List.length_take]; omega
  rw [List.take_succ_eq_append_getElem h]
  generalize l.take k = a at *
  generalize l[k] = x
  by_cases hd : d < k
  · rw [if_neg (by omega), List.eraseIdx_append_of_lt_length (by omega)]
  · have e1 : a.eraseIdx d = a := List.eraseIdx_of_length_le (by omega)
    rw [e1, List.eraseIdx_append_of_length_le (by omega), hk]
    by_cases hkd : k = d
    · rw [if_pos hkd, hkd, Nat.sub_self]; simp
    · rw [if_neg hkd]
      have e2 : [x].eraseIdx (d - k) = [x] := List.eraseIdx_of_length_le (by simp; omega)
      rw [e2]

theorem erase_len (l : List FileM) (d k : Nat) : ((l.take k).eraseIdx d).length ≤ k := by
  have h1 := List.length_eraseIdx_le (l.take k) d
  have h2 : (l.take k).length ≤ k := by rw [List.length_take]; omega
  omega

set_option maxRecDepth 20000 in
set_option maxHeartbeats 4000000 in
theorem refDrop_any (w : World) (S : Nat → Prop) (p : Nat) (fv : Value) (m : DiskM) (d : Nat) (h : RDisk w S p fv m) (hn : m.files.length ≤ 4194304) (hd : d < m.files.length) :
    Calls Tryz.prog 92 #[.pointer (some ⟨p, 0, none⟩), .int .i64 (d : Int)] w fun e w' => e = .returned (.tuple #[]) ∧ Becomes S w w' p { m with files := m.files.eraseIdx d } := by
  obtain ⟨i0, hi, hz0, hz1, hz2⟩ := info_parts info_file
  have HD := hide (fun w' lv l => RDisk.files (w' := w') (lv := lv) (l := l) h)
  obtain ⟨c0, c1, c2, f0, f1, f2, hl⟩ := h.box
  have hr := rowAt_of_owns h.row
  obtain ⟨av, cv, rfl⟩ := slice_owned h.row
  clear h
  generalize m.files = l at *
  go_enter Tryz.func92, Tryz.ntmps92
  go_wp2
  go_loopw [4, 5] (fun x i wr => ∃ (k : Nat) (lv : Value) (xs : List FileM), lv = x ∧ k ≤ l.length ∧ i = .int .i64 k ∧ Hid (xs = (l.take k).eraseIdx d) ∧ wr.ownsRow w.heap.size 127 3 lv xs.length (fileCells xs) ∧ xs.length ≤ k ∧ Below w.heap.size w wr) (fun _ i _ => l.length - (intOf i).toNat)
  case atStart => exact ⟨0, _, [], rfl, Nat.zero_le _, rfl, rfl, World.ownsRow_nil _ _ _ _, Nat.le_refl _, Below.refl _ _⟩
  case round =>
    obtain ⟨k, lv, xs, rfl, hk, rfl, HX, hown, hxl, hb⟩ := hrel
    by_cases hlt : k < l.length
    · rcases (hr.later hb).2 with ⟨_, _, _, h0⟩ | ⟨g, o, cap, e, _, hbk, hc⟩
      · omega
      · cases e
        obtain ⟨g1, g2, g3⟩ := fileCells_get l k hlt
        have q0 : wr.cell? ⟨g, o + k * 3, none⟩ = _ := hc _ _ g1
        have q1 : wr.cell? ⟨g, o + k * 3 + 1, none⟩ = _ := hc _ _ g2
        have q2 : wr.cell? ⟨g, o + k * 3 + 2, none⟩ = _ := hc _ _ g3
        have d0 := (hb.cell (p := ⟨p, 0, none⟩) hl).trans c0
        have d1 := (hb.cell (p := ⟨p, 1, none⟩) hl).trans c1
        have HS := hide (erase_step l d k hlt)
        clear hc g1 g2 g3 hr c0 c1 c2 f0 f1 f2
        have hx : (k : Int) < (l.length : Int) := by omega
        have hk0 : (0 : Int) ≤ (k : Int) := by omega
        by_cases hkd : k = d
        · have e1 : ((k : Int) != (d : Int)) = false := by rw [hkd]; simp
          have HX2 : Hid (xs = (l.take (k + 1)).eraseIdx d) := by rw [Hid, HS.out, if_pos hkd]; exact HX.out
          clear HX HS
          go_wp2
          exact ⟨⟨k + 1, lv, xs, rfl, by omega, by go_num, HX2, hown, by omega, hb⟩, by simp [intOf]; omega⟩
        · have e1 : ((k : Int) != (d : Int)) = true := by rw [bne_iff_ne]; omega
          have HX2 : Hid (xs ++ [l[k]] = (l.take (k + 1)).eraseIdx d) := by rw [Hid, HS.out, if_neg hkd, HX.out]
          clear HX HS
          have HC := hide (fileCells_app xs [l[k]])
          generalize l[k] = f at *
          go_wp2_with (at_builtin; refine wpList_append_own _ rfl _ _ 57 rfl w.heap.size 127 i0 (.agg #[.string ⟨#[]⟩, .string ⟨#[]⟩, .int .i64 0]) 3 40 Tryz.underlying57 hi hz0 hz1 hz2 rfl (by decide) _ _ _ rfl (hown.alloc _) ⟨wr.heap.size, 0, none⟩ 1 1 [.string f.name, .string f.data, .int .i64 (f.sync : Int)] rfl rfl (cells_new _ _ _) (file_three f) (by unfold maxLen; omega) (by omega) (Nat.le_trans hb.size (by simp)) ?_; intro v5 w5 hown5 hgrow5 _)
          exact ⟨⟨k + 1, v5, xs ++ [f], rfl, by omega, by go_num, HX2, by rw [HC.out, List.length_append]; exact hown5, by rw [List.length_append, List.length_singleton]; omega, below_app hb hb.size hown hgrow5⟩, by simp [intOf]; omega⟩
    · have e : k = l.length := by omega
      subst e
      have HX2 : Hid (xs = l.eraseIdx d) := by rw [Hid, HX.out, List.take_length]
      have d0 := (hb.cell (p := ⟨p, 0, none⟩) hl).trans c0
      have d1 := (hb.cell (p := ⟨p, 1, none⟩) hl).trans c1
      have z0 := (hb.frozen (p := ⟨p, 0, none⟩) hl).trans f0
      have z1 := (hb.frozen (p := ⟨p, 1, none⟩) hl).trans f1
      have hs := hb.size
      obtain ⟨a2, b2, rfl⟩ := slice_owned hown
      clear hr c0 c1 c2 f0 f1 f2 HX
      go_wp2
      (try simp only [Exit.inBlock, Exit.then]); refine bodyPost_end (results_none rfl _ _ _) rfl ?_
      rw [← HX2.out]
      exact ⟨rfl, HD.out _ _ _ (Tch.ofBelow hb) hown⟩

theorem put_yes {l xs : List FileM} {f x : FileM} {k : Nat} {done : Bool} (h : done = anyLt f (l.take k) ∧ xs = if done = true then putF f (l.take k) else l.take k) (hc : true = (!done && ltN f.name x.name)) (ht : l.take (k + 1) = l.take k ++ [x]) :
    Hid (true = anyLt f (l.take (k + 1)) ∧ xs ++ [f] ++ [x] = if true = true then putF f (l.take (k + 1)) else l.take (k + 1)) := by
  cases done with
  | true => simp at hc
  | false =>
    obtain ⟨h1, h2⟩ := h
    simp at hc h2
    refine ⟨?_, ?_⟩
    · rw [ht, anyLt_snoc, ← h1, hc]; rfl
    · rw [if_pos rfl, ht, h2, putF_new f x _ h1.symm hc]; simp

theorem put_len {l xs : List FileM} {f x : FileM} {k : Nat} {done : Bool} (h : done = anyLt f (l.take k) ∧ xs = if done = true then putF f (l.take k) else l.take k) (hc : true = (!done && ltN f.name x.name)) : xs.length ≤ k := by
  cases done with
  | true => simp at hc
  | false => rw [h.2, if_neg (by simp), List.length_take]; omega

theorem put_no {l xs : List FileM} {f x : FileM} {k : Nat} {done : Bool} (h : done = anyLt f (l.take k) ∧ xs = if done = true then putF f (l.take k) else l.take k) (hc : false = (!done && ltN f.name x.name)) (ht : l.take (k + 1) = l.take k ++ [x]) :
    Hid (done = anyLt f (l.take (k + 1)) ∧ xs ++ [x] = if done = true then putF f (l.take (k + 1)) else l.take (k + 1)) := by
  obtain ⟨h1, h2⟩ := h
  cases done with
  | true =>
    rw [if_pos rfl] at h2
    rw [Hid, ht, anyLt_snoc, ← h1, if_pos rfl, putF_done f x _ h1.symm, h2]
    exact ⟨rfl, rfl⟩
  | false =>
    rw [if_neg (by simp)] at h2
    simp at hc
    rw [Hid, ht, anyLt_snoc, ← h1, hc, if_neg (by simp), h2]
    exact ⟨rfl, rfl⟩

set_option maxRecDepth 20000 in
set_option maxHeartbeats 2000000 in
theorem refPut_any (w : World) (S : Nat → Prop) (p : Nat) (fv : Value) (m : DiskM) (f : FileM) (h : RDisk w S p fv m) (hn : m.files.length ≤ 4194304) :
    Calls Tryz.prog 87 #[.pointer (some ⟨p, 0, none⟩), .agg #[.string f.name, .string f.data, .int .i64 (f.sync : Int)]] w fun e w' => e = .returned (.tuple #[]) ∧ Becomes S w w' p { m with files := putF f m.files } := by
  obtain ⟨i0, hi, hz0, hz1, hz2⟩ := info_parts info_file
  have HD := hide (fun w' lv l => RDisk.files (w' := w') (lv := lv) (l := l) h)
  obtain ⟨c0, c1, c2, f0, f1, f2, hl⟩ := h.box
  have hr := rowAt_of_owns h.row
  obtain ⟨av, cv, rfl⟩ := slice_owned h.row
  clear h
  generalize m.files = l at *
  have ba : Below w.heap.size w (w.alloc (.cells #[.string f.name, .string f.data, .int .i64 (f.sync : Int)] 127)) := (Below.refl _ _).alloc (Nat.le_refl _) _
  have HA := hide (Tch.ofBelow (S := fun _ => False) ba)
  have HZ := hide ba.size
  have bx := bx3_new w (.string f.name) (.string f.data) (.int .i64 (f.sync : Int)) 127
  have hr1 := hr.later ba
  have e0 := (ba.cell (p := ⟨p, 0, none⟩) hl).trans c0
  have e1 := (ba.cell (p := ⟨p, 1, none⟩) hl).trans c1
  have y0 := (ba.frozen (p := ⟨p, 0, none⟩) hl).trans f0
  have y1 := (ba.frozen (p := ⟨p, 1, none⟩) hl).trans f1
  have hl1 : p < (w.alloc (.cells #[.string f.name, .string f.data, .int .i64 (f.sync : Int)] 127)).heap.size := by simp; omega
  go_enter Tryz.func87, Tryz.ntmps87
  go_wp2
  clear c0 c1 c2 f0 f1 f2 hr
  generalize w.heap.size = nf at *
  generalize w.alloc (.cells #[.string f.name, .string f.data, .int .i64 (f.sync : Int)] 127) = w1 at *
  go_loopw [4, 5, 6] (fun x dn i wr => ∃ (k : Nat) (lv : Value) (xs : List FileM) (done : Bool), lv = x ∧ dn = .bool done ∧ k ≤ l.length ∧ i = .int .i64 k ∧ wr.ownsRow w1.heap.size 127 3 lv xs.length (fileCells xs) ∧ xs.length ≤ k + 1 ∧ Hid (done = anyLt f (l.take k) ∧ xs = if done = true then putF f (l.take k) else l.take k) ∧ Below w1.heap.size w1 wr) (fun _ _ i _ => l.length - (intOf i).toNat)
  case atStart => exact ⟨0, _, [], false, rfl, rfl, Nat.zero_le _, rfl, World.ownsRow_nil _ _ _ _, by simp, ⟨rfl, rfl⟩, Below.refl _ _⟩
  case round =>
    obtain ⟨k, lv, xs, done, rfl, rfl, hk, rfl, hown, hxl, HX, hb⟩ := hrel
    by_cases hlt : k < l.length
    · rcases hr1.2 with ⟨_, _, _, h0⟩ | ⟨g, o, cap, e, _, hgk, hc⟩
      · omega
      · cases e
        obtain ⟨g1, g2, g3⟩ := fileCells_get l k hlt
        have hbk := Nat.lt_of_lt_of_le hgk hb.size
        have q0 := (hb.cell (p := ⟨g, o + k * 3, none⟩) hgk).trans (hc _ _ g1)
        have q1 := (hb.cell (p := ⟨g, o + k * 3 + 1, none⟩) hgk).trans (hc _ _ g2)
        have q2 := (hb.cell (p := ⟨g, o + k * 3 + 2, none⟩) hgk).trans (hc _ _ g3)
        have d0 := (hb.cell (p := ⟨p, 0, none⟩) hl1).trans e0
        have d1 := (hb.cell (p := ⟨p, 1, none⟩) hl1).trans e1
        obtain ⟨b0, b1, b2, _, _, _, bl⟩ := bx.later hb
        have HB := hide bx
        have HT := hide (List.take_succ_eq_append_getElem hlt)
        clear hc g1 g2 g3 hr1 e0 e1 y0 y1 bx HD
        have hx : (k : Int) < (l.length : Int) := by omega
        have hk0 : (0 : Int) ≤ (k : Int) := by omega
        have HL := hide hb.size
        generalize l[k] = x at *
        obtain ⟨c, HC⟩ : ∃ c : Bool, Hid (c = (!done && ltN f.name x.name)) := ⟨_, rfl⟩
        go_upto_region 6 with fail
        go_cut [30] from 16 to 30 (fun t wx => t = .bool c ∧ ∃ n, wx = wr.drewN n)
        case first =>
          clear HX HT
          cases done with
          | true =>
            have ec : c = false := HC.out
            subst ec
            clear HC
            refine wp_region_held_drew (S := fun w' => Below w1.heap.size w1 w') (by kernel_rfl) (hb.drew) (fun hHeld => ?_)
            refine wpAnyH_take (i := 0) (v := ?vt_0) rfl (by kernel_rfl) (by kernel_rfl) (by kernel_rfl) (fun _ _ _ h => h) (Or.inl ⟨by rfl, ?hyt_0⟩) (by assumption) ?restt_0
            case hyt_0 =>
              intro w' hSw
              first | (go_simp; with_reducible rfl) | go_simp
            refine wpAnyH_take (i := 1) (v := ?vt_1) rfl (by kernel_rfl) (by kernel_rfl) (by kernel_rfl) (fun _ _ _ h => h) (Or.inl ⟨by rfl, ?hyt_1⟩) (by assumption) ?restt_1
            case hyt_1 =>
              intro w' hSw
              first | (go_simp; with_reducible rfl) | go_simp
            refine wpAnyH_take (i := 2) (v := ?vt_2) rfl (by kernel_rfl) (by kernel_rfl) (by kernel_rfl) (fun _ _ _ h => h) (Or.inl ⟨by rfl, ?hyt_2⟩) (by assumption) ?restt_2
            case hyt_2 =>
              intro w' hSw
              first | (go_simp; with_reducible rfl) | go_simp
            simp only [Act.put, List.getElem_toArray, List.getElem_cons_succ, List.getElem_cons_zero, List.setIfInBounds_toArray, List.set_cons_zero, List.set_cons_succ]
            refine wpAnyH_take (i := 3) (v := undef) rfl (by kernel_rfl) (by kernel_rfl) (by kernel_rfl) (fun _ _ _ h => h) (Or.inr ⟨by simp [Region.wanted, yielded], rfl⟩) (by assumption) ?_
            simp only [Act.put, List.getElem_toArray, List.getElem_cons_succ, List.getElem_cons_zero, List.setIfInBounds_toArray, List.set_cons_zero, List.set_cons_succ]
            refine wpAnyH_take (i := 4) (v := undef) rfl (by kernel_rfl) (by kernel_rfl) (by kernel_rfl) (fun _ _ _ h => h) (Or.inr ⟨by simp [Region.wanted, yielded], rfl⟩) (by assumption) ?_
            simp only [Act.put, List.getElem_toArray, List.getElem_cons_succ, List.getElem_cons_zero, List.setIfInBounds_toArray, List.set_cons_zero, List.set_cons_succ]
            refine wpAnyH_take (i := 5) (v := undef) rfl (by kernel_rfl) (by kernel_rfl) (by kernel_rfl) (fun _ _ _ h => h) (Or.inr ⟨by simp [Region.wanted, yielded], rfl⟩) (by assumption) ?_
            simp only [Act.put, List.getElem_toArray, List.getElem_cons_succ, List.getElem_cons_zero, List.setIfInBounds_toArray, List.set_cons_zero, List.set_cons_succ]
            refine wpAnyH_take (i := 6) (v := undef) rfl (by kernel_rfl) (by kernel_rfl) (by kernel_rfl) (fun _ _ _ h => h) (Or.inr ⟨by simp [Region.wanted, yielded], rfl⟩) (by assumption) ?_
            simp only [Act.put, List.getElem_toArray, List.getElem_cons_succ, List.getElem_cons_zero, List.setIfInBounds_toArray, List.set_cons_zero, List.set_cons_succ]
            refine wpAnyH_take (i := 7) (v := undef) rfl (by kernel_rfl) (by kernel_rfl) (by kernel_rfl) (fun _ _ _ h => h) (Or.inr ⟨by simp [Region.wanted, yielded], rfl⟩) (by assumption) ?_
            simp only [Act.put, List.getElem_toArray, List.getElem_cons_succ, List.getElem_cons_zero, List.setIfInBounds_toArray, List.set_cons_zero, List.set_cons_succ]
            refine wpAnyH_take (i := 8) (v := undef) rfl (by kernel_rfl) (by kernel_rfl) (by kernel_rfl) (fun _ _ _ h => h) (Or.inr ⟨by simp [Region.wanted, yielded], rfl⟩) (by assumption) ?_
            simp only [Act.put, List.getElem_toArray, List.getElem_cons_succ, List.getElem_cons_zero, List.setIfInBounds_toArray, List.set_cons_zero, List.set_cons_succ]
            refine wpAnyH_take (i := 9) (v := undef) rfl (by kernel_rfl) (by kernel_rfl) (by kernel_rfl) (fun _ _ _ h => h) (Or.inr ⟨by simp [Region.wanted, yielded], rfl⟩) (by assumption) ?_
            simp only [Act.put, List.getElem_toArray, List.getElem_cons_succ, List.getElem_cons_zero, List.setIfInBounds_toArray, List.set_cons_zero, List.set_cons_succ]
            refine wpAnyH_take (i := 10) (v := undef) rfl (by kernel_rfl) (by kernel_rfl) (by kernel_rfl) (fun _ _ _ h => h) (Or.inr ⟨by simp [Region.wanted, yielded], rfl⟩) (by assumption) ?_
            simp only [Act.put, List.getElem_toArray, List.getElem_cons_succ, List.getElem_cons_zero, List.setIfInBounds_toArray, List.set_cons_zero, List.set_cons_succ]
            refine wpAnyH_take (i := 11) (v := undef) rfl (by kernel_rfl) (by kernel_rfl) (by kernel_rfl) (fun _ _ _ h => h) (Or.inr ⟨by simp [Region.wanted, yielded], rfl⟩) (by assumption) ?_
            simp only [Act.put, List.getElem_toArray, List.getElem_cons_succ, List.getElem_cons_zero, List.setIfInBounds_toArray, List.set_cons_zero, List.set_cons_succ]
            refine wpAnyH_take (i := 12) (v := undef) rfl (by kernel_rfl) (by kernel_rfl) (by kernel_rfl) (fun _ _ _ h => h) (Or.inr ⟨by simp [Region.wanted, yielded], rfl⟩) (by assumption) ?_
            simp only [Act.put, List.getElem_toArray, List.getElem_cons_succ, List.getElem_cons_zero, List.setIfInBounds_toArray, List.set_cons_zero, List.set_cons_succ]
            refine wpAnyH_take (i := 13) (v := undef) rfl (by kernel_rfl) (by kernel_rfl) (by kernel_rfl) (fun _ _ _ h => h) (Or.inr ⟨by simp [Region.wanted, yielded], rfl⟩) (by assumption) ?_
            simp only [Act.put, List.getElem_toArray, List.getElem_cons_succ, List.getElem_cons_zero, List.setIfInBounds_toArray, List.set_cons_zero, List.set_cons_succ]
            refine wpAnyH_take (i := 14) (v := ?vt_14) rfl (by kernel_rfl) (by kernel_rfl) (by kernel_rfl) (fun _ _ _ h => h) (Or.inl ⟨by rfl, ?hyt_14⟩) (by assumption) ?restt_14
            case hyt_14 =>
              intro w' hSw
              first | (go_simp; with_reducible rfl) | go_simp
            simp only [Act.put, List.getElem_toArray, List.getElem_cons_succ, List.getElem_cons_zero, List.setIfInBounds_toArray, List.set_cons_zero, List.set_cons_succ]
            refine wpAnyH_done (by kernel_rfl) ?_ _
            go_wp2_with fail
            go_meet
            case rel => exact ⟨rfl, 1, rfl⟩
          | false =>
            have ec : c = ltN f.name x.name := HC.out
            have e2 : ltN f.name x.name = Op.bytesLess f.name.toList x.name.toList := rfl
            rw [e2] at ec
            go_quiet (fail)
            go_wp2_with fail
            go_meet
            case rel => exact ⟨by rw [ec], nq, rfl⟩
        case rest =>
          obtain ⟨rfl, nq, rfl⟩ := hcut
          replace hown : (wr.drewN nq).ownsRow w1.heap.size 127 3 lv xs.length (fileCells xs) := hown
          replace hb : Below w1.heap.size w1 (wr.drewN nq) := ⟨hb.os, hb.tape, hb.output, hb.size, hb.block⟩
          have j0 : (wr.drewN nq).cell? ⟨p, 0, none⟩ = some (.int .i64 m.room) := d0
          have j1 : (wr.drewN nq).cell? ⟨p, 1, none⟩ = some (.slice (some ⟨g, o, none⟩) l.length cv) := d1
          have j2 : (wr.drewN nq).cell? ⟨nf, 0, none⟩ = some (.string f.name) := b0
          have j3 : (wr.drewN nq).cell? ⟨nf, 1, none⟩ = some (.string f.data) := b1
          have j4 : (wr.drewN nq).cell? ⟨nf, 2, none⟩ = some (.int .i64 (f.sync : Int)) := b2
          have j5 : (wr.drewN nq).cell? ⟨g, o + k * 3, none⟩ = some (.string x.name) := q0
          have j6 : (wr.drewN nq).cell? ⟨g, o + k * 3 + 1, none⟩ = some (.string x.data) := q1
          have j7 : (wr.drewN nq).cell? ⟨g, o + k * 3 + 2, none⟩ = some (.int .i64 (x.sync : Int)) := q2
          have jl : nf < (wr.drewN nq).heap.size := bl
          have jg : g < (wr.drewN nq).heap.size := hbk
          clear d0 d1 b0 b1 b2 q0 q1 q2 bl hbk HL
          generalize wr.drewN nq = W at *
          have hne : ∀ j, j < w1.heap.size → some j ≠ lv.ownBlock := fun j hj e => by have := (hown.lt j e.symm).1; omega
          have z1 : Hid (xs.length + 1 ≤ maxLen) := by unfold Hid maxLen; omega
          have z2 : Hid ((xs.length + 1) * 40 ≤ 140737488355328) := by unfold Hid; omega
          have HNE := hide hne
          have HLN := hide (fun h => (hne nf h))
          clear hne
          cases c with
          | true =>
            have z3 : Hid (xs.length + 1 + 1 ≤ maxLen) := by unfold Hid maxLen; omega
            have z4 : Hid ((xs.length + 1 + 1) * 40 ≤ 140737488355328) := by unfold Hid; omega
            go_wp2_with (first
              | (at_builtin; refine wpList_append_own _ rfl _ _ 57 rfl w1.heap.size 127 i0 (.agg #[.string ⟨#[]⟩, .string ⟨#[]⟩, .int .i64 0]) 3 40 Tryz.underlying57 hi hz0 hz1 hz2 rfl (by decide) _ _ _ rfl (hown.alloc _) ⟨W.heap.size, 0, none⟩ 1 1 [.string f.name, .string f.data, .int .i64 (f.sync : Int)] rfl rfl (cells_new _ _ _) (file_three f) (z1.out) (z2.out) (Nat.le_trans hb.size (by simp)) ?_; intro v5 w5 hown5 hgrow5 _; have y0 := grown_cell hgrow5 j0 (HNE.out _ hl1); have y1 := grown_cell hgrow5 j1 (HNE.out _ hl1); have y5 := grown_cell hgrow5 j5 (HNE.out _ hgk); have y6 := grown_cell hgrow5 j6 (HNE.out _ hgk); have y7 := grown_cell hgrow5 j7 (HNE.out _ hgk))
              | (at_builtin; refine wpList_append_own _ rfl _ _ 57 rfl w1.heap.size 127 i0 (.agg #[.string ⟨#[]⟩, .string ⟨#[]⟩, .int .i64 0]) 3 40 Tryz.underlying57 hi hz0 hz1 hz2 rfl (by decide) _ _ _ rfl (hown5.alloc _) ⟨w5.heap.size, 0, none⟩ 1 1 [.string x.name, .string x.data, .int .i64 (x.sync : Int)] rfl rfl (cells_new _ _ _) (file_three x) z3.out z4.out (Nat.le_trans hb.size (Nat.le_trans (by simp) (Nat.le_trans hgrow5.size (by simp)))) ?_; intro v6 w6 hown6 hgrow6 _))
            have hxk := put_len HX.out HC.out
            exact ⟨⟨k + 1, v6, xs ++ [f] ++ [x], true, rfl, rfl, by omega, by go_num, by rw [fileCells_app, fileCells_app, List.length_append, List.length_append]; exact hown6, by simp; omega, put_yes HX.out HC.out HT.out, below_app (below_app hb hb.size hown hgrow5) (Nat.le_trans hb.size (Nat.le_trans (by simp) hgrow5.size)) hown5 hgrow6⟩, by simp [intOf]; omega⟩
          | false =>
            go_wp2_with (first | (at_builtin; refine wpList_append_own _ rfl _ _ 57 rfl w1.heap.size 127 i0 (.agg #[.string ⟨#[]⟩, .string ⟨#[]⟩, .int .i64 0]) 3 40 Tryz.underlying57 hi hz0 hz1 hz2 rfl (by decide) _ _ _ rfl (hown.alloc _) ⟨W.heap.size, 0, none⟩ 1 1 [.string x.name, .string x.data, .int .i64 (x.sync : Int)] rfl rfl (cells_new _ _ _) (file_three x) (z1.out) (z2.out) (Nat.le_trans hb.size (by simp)) ?_; intro v5 w5 hown5 hgrow5 _))
            exact ⟨⟨k + 1, v5, xs ++ [x], done, rfl, rfl, by omega, by go_num, by rw [fileCells_app, List.length_append]; exact hown5, by simp; omega, put_no HX.out HC.out HT.out, below_app hb hb.size hown hgrow5⟩, by simp [intOf]; omega⟩
    · have e : k = l.length := by omega
      subst e
      have HX2 : Hid (done = anyLt f l ∧ xs = if done = true then putF f l else l) := by have := HX.out; rw [List.take_length] at this; exact this
      have d0 := (hb.cell (p := ⟨p, 0, none⟩) hl1).trans e0
      have d1 := (hb.cell (p := ⟨p, 1, none⟩) hl1).trans e1
      have z0 := (hb.frozen (p := ⟨p, 1, none⟩) hl1).trans y1
      have jb0 := (bx.later hb).c0
      have jb1 := (bx.later hb).c1
      have jb2 := (bx.later hb).c2
      have HO := hide hown
      have HBB := hide hb
      have hsz := hb.size
      have hpw : p < wr.heap.size := Nat.lt_of_lt_of_le hl1 hb.size
      obtain ⟨a2, b2, rfl⟩ := slice_owned hown
      clear hr1 e0 e1 y0 y1 bx HX
      cases done with
      | true =>
        have hxs : xs = putF f l := by have := HX2.out.2; rwa [if_pos rfl] at this
        subst hxs
        clear HX2
        go_wp2_with fail
        (try simp only [Exit.inBlock, Exit.then]); refine bodyPost_end (results_none rfl _ _ _) rfl ?_
        exact ⟨rfl, HD.out _ _ _ (HA.out.below HBB.out) (owns_lower HO.out HZ.out)⟩
      | false =>
        have hxs : putF f l = xs ++ [f] := by have h1 := HX2.out.1; have h2 := HX2.out.2; rw [if_neg (by simp)] at h2; rw [h2]; exact putF_end f l h1.symm
        have HF := hide hxs
        clear HX2 hxs
        have HC := hide (fileCells_app xs [f])
        have HOZ := hide (Nat.le_trans HZ.out hsz)
        have z1 : xs.length + 1 ≤ maxLen := by unfold maxLen; omega
        have z2 : (xs.length + 1) * 40 ≤ 140737488355328 := by omega
        have hne : some p ≠ (Value.slice a2 xs.length b2).ownBlock := fun e => by have := (hown.lt p e.symm).1; omega
        have HNE := hide hne
        clear hne
        go_wp2_with (first | (at_builtin; refine wpList_append_own _ rfl _ _ 57 rfl w1.heap.size 127 i0 (.agg #[.string ⟨#[]⟩, .string ⟨#[]⟩, .int .i64 0]) 3 40 Tryz.underlying57 hi hz0 hz1 hz2 rfl (by decide) _ _ _ rfl (hown.alloc _) ⟨wr.heap.size, 0, none⟩ 1 1 [.string f.name, .string f.data, .int .i64 (f.sync : Int)] rfl rfl (cells_new _ _ _) (file_three f) z1 z2 (Nat.le_trans hb.size (by simp)) ?_; intro v5 w5 hown5 hgrow5 _; obtain ⟨a5, b5, rfl⟩ := slice_owned hown5; have y1 := (World.cell?_of_block (a := ⟨p, 1, none⟩) ((hgrow5.block p (by simp; omega) HNE.out).trans (Below.heap_alloc _ _ _ hpw))).trans d1; have y2 := (World.frozen?_of_block (a := ⟨p, 1, none⟩) ((hgrow5.block p (by simp; omega) HNE.out).trans (Below.heap_alloc _ _ _ hpw))).trans z0))
        (try simp only [Exit.inBlock, Exit.then]); refine bodyPost_end (results_none rfl _ _ _) rfl ?_
        rw [HF.out]
        exact ⟨rfl, HD.out _ _ (xs ++ [f]) (HA.out.below (below_app HBB.out hsz HO.out hgrow5)) (by rw [HC.out, List.length_append]; exact owns_lower hown5 HZ.out)⟩

end Go.Proofs.YthcnkbeognkjgaaGreatDoor
