/-
  routeloglaw.Updates, walked: every message.
-/
import Derived.Test.YtamngkbmhepciaaUpdRef
import Derived.Test.YtamngkbmhepciaaFilled
import Derived.Test.YtamngkbmhepciaaSameP
namespace Go.Proofs.Ytamngkbmhepciaa
open Go.RowKit
open Rl

theorem rdAll_len : ∀ (n : Nat) (s : ByteArray) (l : List (Int × Int)), s.size ≤ n → rdAll s = some l → l.length ≤ s.size := by
  intro n; induction n with
  | zero => intro s l hn h; rw [rdAll_end s (by omega)] at h; cases h; simp
  | succ n ih =>
    intro s l hn h
    by_cases h0 : s.size = 0
    · rw [rdAll_end s h0] at h; cases h; simp
    · by_cases hb : rdBad s
      · rw [rdAll_bad s h0 hb] at h; simp at h
      · rw [rdAll_step s h0 hb] at h
        have hts := rdTail_size s
        cases hr : rdAll (rdTail s) with
        | none => rw [hr] at h; simp at h
        | some r =>
          rw [hr] at h
          simp at h
          subst h
          have := ih (rdTail s) r (by omega) hr
          simp; omega

theorem upd_len (m : ByteArray) : (upd m).gone.length ≤ 1000000 ∧ (upd m).come.length ≤ 1000000 := by
  unfold upd
  cases hf : frameOk m with
  | false => simp
  | true =>
    obtain ⟨h19, h200, _⟩ := frame_size m hf
    rw [if_pos rfl]
    have hcs : (m.extract 19 m.size).size ≤ 200 := by rw [ByteArray.size_extract]; omega
    obtain ⟨zG, zK, zC⟩ := cut_sizes (m.extract 19 m.size)
    unfold updParts
    cases hp : partsOk (m.extract 19 m.size) with
    | false => simp
    | true =>
      rw [if_pos rfl]
      cases hg : rdAll (cutHead (m.extract 19 m.size)) with
      | none => simp
      | some g =>
        cases hc : rdAll (cutTail (cutTail (m.extract 19 m.size))) with
        | none => simp
        | some a =>
          have l1 := rdAll_len _ _ _ (Nat.le_refl _) hg
          have l2 := rdAll_len _ _ _ (Nat.le_refl _) hc
          cases hk : akOf (cutHead (cutTail (m.extract 19 m.size))) with
          | none => simp
          | some p =>
            obtain ⟨l, sp⟩ := p
            simp only
            unfold updBody
            by_cases h0 : a.length = 0
            · rw [if_pos h0]; simp; omega
            · rw [if_neg h0]
              by_cases hb : sp = true ∨ needN l ≠ 3
              · rw [if_pos hb]; simp; omega
              · rw [if_neg hb]; simp; omega

theorem owns_alloc_later {w1 w2 : World} {B : Nat} {e : TypeId} {size : Nat} {v : Value} {n : Nat} {xs : List Value} {o : Obj} (h : w1.ownsRow B e size v n xs) (hb : Below (w1.alloc o).heap.size (w1.alloc o) w2) : w2.ownsRow B e size v n xs := owns_later (h.alloc o) hb

/-- a row in another block stays, when one row grows. -/
theorem owns_kept {w w' : World} {B : Nat} {e : TypeId} {size : Nat} {v r : Value} {n : Nat} {xs : List Value} (h : w.ownsRow B e size v n xs) (hg : w.grownBy w' r.ownBlock) (hne : ∀ k, v.ownBlock = some k → r.ownBlock ≠ some k) : w'.ownsRow B e size v n xs := by
  refine h.kept hg ?_
  cases e : v.ownBlock with
  | none => exact .inl rfl
  | some k => right; intro e2; exact hne k e e2.symm

theorem FullS.below {w w' : World} {n : Int} {M : Nat} {u : Value} (h : FullS w n M u) (hb : Below w.heap.size w w') : FullS w' n M u :=
  h.block (fun k _ hk => hb.block k hk) hb.size

theorem Box3.alloc {w : World} {n : Nat} {a b c : Value} (h : Box3 w n a b c) (o : Obj) : Box3 (w.alloc o) n a b c := h.later ((Below.refl _ _).alloc (Nat.le_refl _) o)

set_option maxRecDepth 20000 in
set_option maxHeartbeats 8000000 in
theorem updWalk (m : ByteArray) (w : World) (hm : m.size ≤ maxLen) :
    Calls Try.prog 4 #[.string m] w fun e w' => e = .returned (.bool true) ∧ Below w.heap.size w w' := by
  obtain ⟨hlg, hlc⟩ := upd_len m
  have hU := fun w => update_outer m w hm
  have hV := fun w => updateRef_any m w hm
  generalize upd m = u at *
  obtain ⟨E, g, a, T⟩ := u
  unfold Answers at hU hV
  simp only at hU hV hlg hlc
  generalize (⟨T.toArray⟩ : ByteArray) = S at *
  go_enter Try.func4, Try.ntmps4
  go_wp2_with fail
  refine (hU _).mono ?_
  rintro e w1 ⟨v1, v2, rfl, hb1, h1, h2, hap⟩
  obtain ⟨a1, c1, rfl⟩ := slice_of_owns h1
  obtain ⟨a2, c2, rfl⟩ := slice_of_owns h2
  have lt1 := h1.lt
  have lt2 := h2.lt
  have hs1 := hb1.size
  go_wp2_with fail
  refine (hV _).mono ?_
  rintro e w2 ⟨r1, r2, rfl, hb2, s1, s2, _⟩
  obtain ⟨a3, c3, rfl⟩ := slice_of_owns s1
  obtain ⟨a4, c4, rfl⟩ := slice_of_owns s2
  have ltr1 := s1.lt
  have ltr2 := s2.lt
  have bx1 := (box3_new w1 (.slice a1 g.length c1) (.slice a2 a.length c2) (.string S) 28).later hb2
  have bl2 : Below w.heap.size w w2 := later_below (hb1.alloc hs1 _) hb2 (by simp; omega)
  have k1 := owns_alloc_later h1 hb2
  have k2 := owns_alloc_later h2 hb2
  have hs2 := hb2.size
  simp only [World.size_alloc] at hs2 ltr1 ltr2
  have hw2 : w1.heap.size < w2.heap.size := by omega
  have ne11 : some w1.heap.size ≠ (Value.slice a1 g.length c1).ownBlock := fun e => by have := (lt1 _ e.symm).2; omega
  have ne12 : some w2.heap.size ≠ (Value.slice a1 g.length c1).ownBlock := fun e => by have := (lt1 _ e.symm).2; omega
  have ne21 : some w1.heap.size ≠ (Value.slice a2 a.length c2).ownBlock := fun e => by have := (lt2 _ e.symm).2; omega
  have ne22 : some w2.heap.size ≠ (Value.slice a2 a.length c2).ownBlock := fun e => by have := (lt2 _ e.symm).2; omega
  have n31 : ∀ k, (Value.slice a3 g.length c3).ownBlock = some k → (Value.slice a1 g.length c1).ownBlock ≠ some k := fun k h e => by have h1 := (ltr1 k h).1; have h2 := (lt1 k e).2; omega
  have n32 : ∀ k, (Value.slice a3 g.length c3).ownBlock = some k → (Value.slice a2 a.length c2).ownBlock ≠ some k := fun k h e => by have h1 := (ltr1 k h).1; have h2 := (lt2 k e).2; omega
  have n41 : ∀ k, (Value.slice a4 a.length c4).ownBlock = some k → (Value.slice a1 g.length c1).ownBlock ≠ some k := fun k h e => by have h1 := (ltr2 k h).1; have h2 := (lt1 k e).2; omega
  have n42 : ∀ k, (Value.slice a4 a.length c4).ownBlock = some k → (Value.slice a2 a.length c2).ownBlock ≠ some k := fun k h e => by have h1 := (ltr2 k h).1; have h2 := (lt2 k e).2; omega
  obtain ⟨p0, p1, p2, _, _, _, pl⟩ := bx1
  have bx1 : Box3 w2 w1.heap.size (.slice a1 g.length c1) (.slice a2 a.length c2) (.string S) := (box3_new w1 _ _ _ 28).later hb2
  clear hb1 hb2 h1 h2
  go_wp2_with fail
  refine (sameP_any _ _ g a1 a3 c1 c3 _ (by omega) rfl rfl (rowAt_of_owns (k1.alloc _)) (rowAt_of_owns (s1.alloc _))).mono ?_
  rintro e w3 ⟨rfl, hb3⟩
  have j1 := (bx1.alloc _).later hb3
  have j2 := (box3_new w2 (.slice a3 g.length c3) (.slice a4 a.length c4) (.string S) 28).later hb3
  have kk1 := owns_alloc_later k1 hb3
  have kk2 := owns_alloc_later k2 hb3
  have ss1 := owns_alloc_later s1 hb3
  have ss2 := owns_alloc_later s2 hb3
  have bl3 : Below w.heap.size w w3 := later_below (bl2.alloc bl2.size _) hb3 (by simp; have := bl2.size; omega)
  have hs3 := hb3.size
  simp only [World.size_alloc] at hs3
  clear p0 p1 p2 pl bx1 k1 k2 s1 s2 hb3
  obtain ⟨x0, x1, x2, _, _, _, xl⟩ := j1
  obtain ⟨y0, y1, y2, _, _, _, yl⟩ := j2
  have j1 : Box3 w3 w1.heap.size (.slice a1 g.length c1) (.slice a2 a.length c2) (.string S) := ⟨x0, x1, x2, by assumption, by assumption, by assumption, xl⟩
  have j2 : Box3 w3 w2.heap.size (.slice a3 g.length c3) (.slice a4 a.length c4) (.string S) := ⟨y0, y1, y2, by assumption, by assumption, by assumption, yl⟩
  go_wp2_with fail
  refine (filled_any w.heap.size _ g 1 _ (by omega) bl3.size (by omega) kk1).mono ?_
  rintro e w4 ⟨av1, vs1, rfl, f1, f2, f3, hg4⟩
  have j1' := j1.grown hg4 ne11
  have j2' := j2.grown hg4 ne12
  have k2' := owns_kept kk2 hg4 (fun k h e => hap k e h)
  have s1' := owns_kept ss1 hg4 n31
  have s2' := owns_kept ss2 hg4 n41
  have hs4 := hg4.size
  have bl4 : Below w.heap.size w w4 := bl3.grown hg4 bl3.size (fun k hk => (lt1 k hk).1)
  clear x0 x1 x2 xl y0 y1 y2 yl j1 j2 kk1 kk2 ss1 ss2 hg4
  obtain ⟨x0, x1, x2, _, _, _, xl⟩ := j1'
  obtain ⟨y0, y1, y2, _, _, _, yl⟩ := j2'
  have j1 : Box3 w4 w1.heap.size (.slice a1 g.length c1) (.slice a2 a.length c2) (.string S) := ⟨x0, x1, x2, by assumption, by assumption, by assumption, xl⟩
  have j2 : Box3 w4 w2.heap.size (.slice a3 g.length c3) (.slice a4 a.length c4) (.string S) := ⟨y0, y1, y2, by assumption, by assumption, by assumption, yl⟩
  go_wp2_with fail
  refine (sameP_any _ _ a a2 a4 c2 c4 _ (by omega) rfl rfl (rowAt_of_owns k2') (rowAt_of_owns s2')).mono ?_
  rintro e w5 ⟨rfl, hb5⟩
  have j1' := j1.later hb5
  have j2' := j2.later hb5
  have k2'' := owns_later k2' hb5
  have s1'' := owns_later s1' hb5
  have s2'' := owns_later s2' hb5
  have f1' := owns_later f1 hb5
  have f2' : ∀ u ∈ vs1, FullS w5 1 (g.length + 3) u := fun u hu => (f2 u hu).below hb5
  have hs5 := hb5.size
  have bl5 : Below w.heap.size w w5 := later_below bl4 hb5 bl4.size
  clear x0 x1 x2 xl y0 y1 y2 yl j1 j2 k2' s1' s2' f2 f1 hb5
  obtain ⟨x0, x1, x2, _, _, _, xl⟩ := j1'
  obtain ⟨y0, y1, y2, _, _, _, yl⟩ := j2'
  have j1 : Box3 w5 w1.heap.size (.slice a1 g.length c1) (.slice a2 a.length c2) (.string S) := ⟨x0, x1, x2, by assumption, by assumption, by assumption, xl⟩
  have j2 : Box3 w5 w2.heap.size (.slice a3 g.length c3) (.slice a4 a.length c4) (.string S) := ⟨y0, y1, y2, by assumption, by assumption, by assumption, yl⟩
  go_wp2_with fail
  refine (filled_any w.heap.size _ a 2 _ (by omega) bl5.size (by omega) k2'').mono ?_
  rintro e w6 ⟨av2, vs2, rfl, d1, d2, d3, hg6⟩
  have j2' := j2.grown hg6 ne22
  have t1 := owns_kept s1'' hg6 n32
  have t2 := owns_kept s2'' hg6 n42
  have lf1 := f1'.lt
  have f1'' := owns_kept f1' hg6 (fun k h e => by have h1 := (lf1 k h).1; have h2 := (lt2 k e).2; omega)
  have f2'' : ∀ u ∈ vs1, FullS w6 1 (g.length + 3) u := fun u hu => (f2' u hu).block (fun k hk hlt => hg6.block k hlt (fun e => by
    rcases f3 u hu k hk with h | h
    · exact hap k h e.symm
    · have h2 := (lt2 k e.symm).2; omega)) hg6.size
  have hs6 := hg6.size
  have bl6 : Below w.heap.size w w6 := bl5.grown hg6 bl5.size (fun k hk => (lt2 k hk).1)
  clear x0 x1 x2 xl y0 y1 y2 yl j1 j2 k2'' s1'' s2'' f1' f2' hg6
  go_wp2_with fail
  refine (hU _).mono ?_
  rintro e w7 ⟨u1, u2, rfl, hb7, g1, g2, _⟩
  obtain ⟨a5, c5, rfl⟩ := slice_of_owns g1
  obtain ⟨a6, c6, rfl⟩ := slice_of_owns g2
  have j2 := (j2'.later hb7)
  have t1' := owns_later t1 hb7
  have t2' := owns_later t2 hb7
  have o1 := owns_later f1'' hb7
  have o2 : ∀ u ∈ vs1, FullS w7 1 (g.length + 3) u := fun u hu => (f2'' u hu).below hb7
  have o3 := owns_later d1 hb7
  have o4 : ∀ u ∈ vs2, FullS w7 2 (a.length + 3) u := fun u hu => (d2 u hu).below hb7
  have bl7 : Below w.heap.size w w7 := later_below bl6 hb7 bl6.size
  have hs7 := hb7.size
  have hw7 : w2.heap.size < w7.heap.size := by omega
  clear j2' t1 t2 f1'' f2'' d1 d2 hb7
  obtain ⟨y0, y1, y2, _, _, _, yl⟩ := j2
  have j2 : Box3 w7 w2.heap.size (.slice a3 g.length c3) (.slice a4 a.length c4) (.string S) := ⟨y0, y1, y2, by assumption, by assumption, by assumption, yl⟩
  go_wp2_with fail
  refine (sameP_any _ _ g a5 a3 c5 c3 _ (by omega) rfl rfl (rowAt_of_owns (g1.alloc _)) (rowAt_of_owns (t1'.alloc _))).mono ?_
  rintro e w8 ⟨rfl, hb8⟩
  have i2 := (j2.alloc _).later hb8
  have i3 := (box3_new w7 (.slice a5 g.length c5) (.slice a6 a.length c6) (.string S) 28).later hb8
  have t3 := owns_alloc_later t2' hb8
  have g3 := owns_alloc_later g2 hb8
  have o5 := owns_alloc_later o1 hb8
  have o6 : ∀ u ∈ vs1, FullS w8 1 (g.length + 3) u := fun u hu => ((o2 u hu).alloc _).below hb8
  have o7 := owns_alloc_later o3 hb8
  have o8 : ∀ u ∈ vs2, FullS w8 2 (a.length + 3) u := fun u hu => ((o4 u hu).alloc _).below hb8
  have bl8 : Below w.heap.size w w8 := later_below (bl7.alloc bl7.size _) hb8 (by simp; have := bl7.size; omega)
  clear y0 y1 y2 yl j2 t1' t2' g1 g2 o1 o2 o3 o4 hb8
  obtain ⟨x0, x1, x2, _, _, _, xl⟩ := i3
  obtain ⟨y0, y1, y2, _, _, _, yl⟩ := i2
  have i3 : Box3 w8 w7.heap.size (.slice a5 g.length c5) (.slice a6 a.length c6) (.string S) := ⟨x0, x1, x2, by assumption, by assumption, by assumption, xl⟩
  have i2 : Box3 w8 w2.heap.size (.slice a3 g.length c3) (.slice a4 a.length c4) (.string S) := ⟨y0, y1, y2, by assumption, by assumption, by assumption, yl⟩
  go_wp2_with fail
  refine (sameP_any _ _ a a6 a4 c6 c4 _ (by omega) rfl rfl (rowAt_of_owns g3) (rowAt_of_owns t3)).mono ?_
  rintro e w9 ⟨rfl, hb9⟩
  have z3 := i3.later hb9
  have z2 := i2.later hb9
  have o1 := owns_later o5 hb9
  have o2 : ∀ u ∈ vs1, FullS w9 1 (g.length + 3) u := fun u hu => (o6 u hu).below hb9
  have o3 := owns_later o7 hb9
  have o4 : ∀ u ∈ vs2, FullS w9 2 (a.length + 3) u := fun u hu => (o8 u hu).below hb9
  have bl9 : Below w.heap.size w w9 := later_below bl8 hb9 bl8.size
  clear x0 x1 x2 xl y0 y1 y2 yl i3 i2 t3 g3 o5 o6 o7 o8 hb9
  have len1 : vs1.length = 4 := by have := o1.1; omega
  have len2 : vs2.length = 4 := by have := o3.1; omega
  go_wp2_with fail
  refine (full_any av1 vs1 1 (g.length + 3) _ (by omega) (by omega) len1 (rowAt_of_owns o1) o2).mono ?_
  rintro e w10 ⟨rfl, hb10⟩
  have q3 := z3.later hb10
  have q2 := z2.later hb10
  have o5 := owns_later o3 hb10
  have o6 : ∀ u ∈ vs2, FullS w10 2 (a.length + 3) u := fun u hu => (o4 u hu).below hb10
  have bl10 : Below w.heap.size w w10 := later_below bl9 hb10 bl9.size
  clear z3 z2 o1 o2 o3 o4 hb10
  go_wp2_with fail
  refine (full_any av2 vs2 2 (a.length + 3) _ (by omega) (by omega) len2 (rowAt_of_owns o5) o6).mono ?_
  rintro e w11 ⟨rfl, hb11⟩
  obtain ⟨x0, x1, x2, _, _, _, xl⟩ := q3.later hb11
  obtain ⟨y0, y1, y2, _, _, _, yl⟩ := q2.later hb11
  have bl11 : Below w.heap.size w w11 := later_below bl10 hb11 bl10.size
  clear q3 q2 o5 o6 hb11
  go_wp2
  go_ret
  exact ⟨ret_bool (by simp), bl11⟩

end Go.Proofs.Ytamngkbmhepciaa
