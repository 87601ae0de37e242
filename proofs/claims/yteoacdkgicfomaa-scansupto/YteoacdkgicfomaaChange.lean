/-
  message.change, walked: what an update of these parts changes.
-/
import Derived.Test.YteoacdkgicfomaaCanWalk
import Derived.Test.YteoacdkgicfomaaAnnOwn
import Derived.Test.YteoacdkgicfomaaAkWalk
import Derived.Test.YteoacdkgicfomaaAppPlace
namespace Go.Proofs.Yteoacdkgicfomaa
open Go.RowKit
open Rl

theorem cells_of_rowAt {w : World} {v : Value} {n size : Nat} {xs : List Value} (h : RowAt w v n size xs) (hn : n ≠ 0) : ∃ b o cap, v = .slice (some ⟨b, o, none⟩) n cap ∧ ∀ j u, xs[j]? = some u → w.cell? ((⟨b, o, none⟩ : Addr).add j) = some u := by
  rcases h.2 with ⟨a, c, _, e⟩ | ⟨b, o, cap, e, _, _, hc⟩
  · exact absurd e hn
  · refine ⟨b, o, cap, e, fun j u hu => ?_⟩
    have e2 : (⟨b, o, none⟩ : Addr).add j = ⟨b, o + j, none⟩ := by unfold Addr.add; split <;> simp_all
    rw [e2]; exact hc j u hu

theorem rowCells {w : World} {b o n cap size : Nat} {xs : List Value} (h : RowAt w (.slice (some ⟨b, o, none⟩) n cap) n size xs) (hn : n ≠ 0) : ∀ j u, xs[j]? = some u → w.cell? ((⟨b, o, none⟩ : Addr).add j) = some u := by
  obtain ⟨b', o', cap', e, hc⟩ := cells_of_rowAt h hn
  cases e
  exact hc

/-- a store into another block leaves a row. -/
theorem owns_far {w : World} {B k o : Nat} {e : TypeId} {size : Nat} {v : Value} {n : Nat} {xs : List Value} (h : w.ownsRow B e size v n xs) (hk : v.ownBlock ≠ some k) (u : Value) : (w.setCell ⟨k, o, none⟩ u).ownsRow B e size v n xs := by
  refine ⟨h.1, ?_⟩
  rcases h.2 with hn | ⟨g, cap, cur, rfl, hbg, hgg, rest⟩
  · exact .inl hn
  · refine .inr ⟨g, cap, cur, rfl, hbg, ?_, rest⟩
    rw [Below.heap_setCell w _ u g (by intro e; apply hk; simp [Value.ownBlock, e])]
    exact hgg

theorem placed_ne {w : World} {v v' : Value} {k : Nat} (h : Placed w v v') (h1 : some k ≠ v.ownBlock) (h2 : k < w.heap.size) : v'.ownBlock ≠ some k := by
  intro e
  rcases h with h | ⟨j, h, hj⟩
  · rw [h] at e; exact h1 e.symm
  · rw [h] at e; injection e; omega

theorem pf_app (a b : List (Int × Int)) : pfCells (a ++ b) = pfCells a ++ pfCells b := by unfold pfCells; rw [List.flatMap_append]

theorem slice_of_owns {w : World} {B : Nat} {e : TypeId} {size : Nat} {v : Value} {n : Nat} {xs : List Value} (h : w.ownsRow B e size v n xs) : ∃ a c, v = .slice a n c := by
  rcases h.2 with ⟨e1, e2⟩ | ⟨g, cap, cur, e1, _⟩
  · subst e2; exact ⟨none, 0, e1⟩
  · exact ⟨_, cap, e1⟩

theorem pf_one (l : List (Int × Int)) : ∀ u ∈ pfCells l, u.oneCell' = true := by
  intro u hu
  unfold pfCells at hu
  simp only [List.mem_flatMap, List.mem_cons, List.not_mem_nil, or_false] at hu
  obtain ⟨p, _, rfl | rfl⟩ := hu <;> rfl

/-- the three cells of a struct that is being laid. -/
structure Box3 (w : World) (n : Nat) (a b c : Value) : Prop where
  c0 : w.cell? ⟨n, 0, none⟩ = some a
  c1 : w.cell? ⟨n, 1, none⟩ = some b
  c2 : w.cell? ⟨n, 2, none⟩ = some c
  f0 : w.frozen? ⟨n, 0, none⟩ = false
  f1 : w.frozen? ⟨n, 1, none⟩ = false
  f2 : w.frozen? ⟨n, 2, none⟩ = false
  lt : n < w.heap.size

theorem box3_new (w : World) (a b c : Value) (T : TypeId) : Box3 (w.alloc (.cells #[a, b, c] T)) w.heap.size a b c :=
  ⟨by simp, by simp, by simp, by simp, by simp, by simp, by simp⟩

theorem Box3.later {w w' : World} {n : Nat} {a b c : Value} (h : Box3 w n a b c) (hb : Below w.heap.size w w') : Box3 w' n a b c :=
  ⟨(hb.cell (p := ⟨n, 0, none⟩) h.lt).trans h.c0, (hb.cell (p := ⟨n, 1, none⟩) h.lt).trans h.c1, (hb.cell (p := ⟨n, 2, none⟩) h.lt).trans h.c2, (hb.frozen (p := ⟨n, 0, none⟩) h.lt).trans h.f0, (hb.frozen (p := ⟨n, 1, none⟩) h.lt).trans h.f1, (hb.frozen (p := ⟨n, 2, none⟩) h.lt).trans h.f2, Nat.lt_of_lt_of_le h.lt hb.size⟩

theorem Box3.grown {w w' : World} {n : Nat} {a b c : Value} {row : Option Nat} (h : Box3 w n a b c) (hg : w.grownBy w' row) (hne : some n ≠ row) : Box3 w' n a b c := by
  have hk := hg.block n h.lt hne
  exact ⟨(World.cell?_of_block (a := ⟨n, 0, none⟩) hk).trans h.c0, (World.cell?_of_block (a := ⟨n, 1, none⟩) hk).trans h.c1, (World.cell?_of_block (a := ⟨n, 2, none⟩) hk).trans h.c2, (World.frozen?_of_block (a := ⟨n, 0, none⟩) hk).trans h.f0, (World.frozen?_of_block (a := ⟨n, 1, none⟩) hk).trans h.f1, (World.frozen?_of_block (a := ⟨n, 2, none⟩) hk).trans h.f2, Nat.lt_of_lt_of_le h.lt hg.size⟩

/-- three stores into a block that is not below B turn nothing below it. -/
theorem below_three {B : Nat} {a w : World} (h : Below B a w) {n : Nat} (hn : B ≤ n) (x y z : Value) : Below B a (((w.setCell ⟨n, 0, none⟩ x).setCell ⟨n, 1, none⟩ y).setCell ⟨n, 2, none⟩ z) :=
  ((h.setCell (p := ⟨n, 0, none⟩) hn x).setCell (p := ⟨n, 1, none⟩) hn y).setCell (p := ⟨n, 2, none⟩) hn z

set_option maxRecDepth 20000 in
set_option maxHeartbeats 2000000 in
theorem change_none (v3 : Value) (sp : Bool) (a1 a2 : Option Addr) (n1 c1 c2 : Nat) (w : World) :
    Calls Try.prog 56 #[.slice a1 n1 c1, .slice a2 0 c2, v3, .bool sp] w fun e w' => e = .returned (.agg #[.slice a1 n1 c1, .slice none 0 0, .string ⟨#[]⟩]) ∧ Below w.heap.size w w' := by
  go_enter Try.func56, Try.ntmps56
  go_wp2
  refine bodyPost_ret (v := .agg #[.slice a1 n1 c1, .slice none 0 0, .string ⟨#[]⟩]) (by simp [results, Try.results56, go_sem]) rfl ⟨rfl, ?_⟩
  exact (Below.refl _ _).alloc (Nat.le_refl _) _

set_option maxRecDepth 20000 in
set_option maxHeartbeats 2000000 in
theorem change_good (v3 : Value) (a1 a2 : Option Addr) (n1 c1 n2 c2 : Nat) (l3 : List At) (w : World) (h2 : n2 ≠ 0) (hn : needN l3 = 3) (hr : RowAt w v3 l3.length 3 (atCells l3)) (hx : l3.length ≤ 1048576) (hl : ∀ a ∈ l3, a.flags < 256 ∧ a.kind < 256 ∧ a.val.size ≤ 1048576) (hsum : (l3.flatMap atCan).length ≤ 140737488355328) :
    Calls Try.prog 56 #[.slice a1 n1 c1, .slice a2 n2 c2, v3, .bool false] w fun e w' => e = .returned (.agg #[.slice a1 n1 c1, .slice a2 n2 c2, .string ⟨(l3.flatMap atCan).toArray⟩]) ∧ Below w.heap.size w w' := by
  have hq : ((n2 : Int) == 0) = false := by rw [beq_eq_false_iff_ne]; omega
  have hneed := fun wx (hb : Below w.heap.size w wx) => hasNeeded_any v3 l3 wx (by omega) (hr.later hb)
  rw [show (needN l3 == 3) = true from by rw [hn]; rfl] at hneed
  have hwr := fun wx (hb : Below w.heap.size w wx) => writeCanonical_any v3 l3 wx hx hl hsum (hr.later hb)
  have hb0 := fun o => (Below.refl w.heap.size w).alloc (Nat.le_refl _) o
  clear hl hsum hr
  generalize (⟨(l3.flatMap atCan).toArray⟩ : ByteArray) = T at *
  go_enter Try.func56, Try.ntmps56
  go_wp2_with (first | (go_at_call 81; refine (hneed _ (hb0 _)).mono ?_; rintro e w1 ⟨rfl, hb1⟩) | (go_at_call 82; refine (hwr _ (later_below (hb0 _) hb1 (by simp))).mono ?_; rintro e w2 ⟨rfl, hb2⟩; obtain ⟨q0, q1, q2, f0, f1, f2, ql⟩ := ((box3_new _ _ _ _ _).later hb1).later hb2; have hbel := later_below (later_below (hb0 _) hb1 (by simp)) hb2 (Nat.le_trans (by simp) hb1.size)))
  refine bodyPost_ret (v := .agg #[.slice a1 n1 c1, .slice a2 n2 c2, .string T]) (by simp [results, Try.results56, go_sem, q0, q1, q2]) rfl ⟨rfl, ?_⟩
  exact below_three hbel (Nat.le_refl _) _ _ _

set_option maxRecDepth 20000 in
set_option maxHeartbeats 2000000 in
theorem change_bad (B : Nat) (v3 : Value) (sp : Bool) (a1 a2 : Option Addr) (n1 c1 n2 c2 : Nat) (l1 l2 : List (Int × Int)) (l3 : List At) (w : World) (h2 : n2 ≠ 0) (hn : sp = true ∨ needN l3 ≠ 3) (hB : B ≤ w.heap.size) (hr : RowAt w v3 l3.length 3 (atCells l3)) (hx : l3.length ≤ 1048576)
    (hown : w.ownsRow B 36 2 (.slice a1 n1 c1) n1 (pfCells l1)) (hr2 : RowAt w (.slice a2 n2 c2) n2 2 (pfCells l2)) (hs : n1 + n2 ≤ 1048576) :
    Calls Try.prog 56 #[.slice a1 n1 c1, .slice a2 n2 c2, v3, .bool sp] w fun e w' => ∃ v', e = .returned (.agg #[v', .slice none 0 0, .string ⟨#[]⟩]) ∧ w'.ownsRow B 36 2 v' (n1 + n2) (pfCells (l1 ++ l2)) ∧ Below B w w' := by
  obtain ⟨i0, hi, hz0, hz1, hz2⟩ := info_parts info_pfx
  obtain ⟨b2, o2, cap2, e2, hcell⟩ := cells_of_rowAt hr2 h2
  have hlen : (pfCells l2).length = n2 * 2 := hr2.1
  cases e2
  have hq : ((n2 : Int) == 0) = false := by rw [beq_eq_false_iff_ne]; omega
  have hb0 := fun o => (Below.refl w.heap.size w).alloc (Nat.le_refl _) o
  have hne := own_ne hown w.heap.size (Nat.le_refl _)
  have hcl := fun wx (hb : Below w.heap.size w wx) => rowCells (hr2.later hb) h2
  clear hcell
  cases sp with
  | true =>
    clear hn
    go_enter Try.func56, Try.ntmps56
    go_wp2_with (first | (at_builtin; refine wpList_append_placed _ rfl _ _ 26 rfl B 36 i0 (.agg #[.int .i64 0, .int .i64 0]) 2 16 Try.underlying26 hi hz0 hz1 hz2 rfl (by decide) _ _ _ rfl (hown.alloc _) ⟨b2, o2, none⟩ n2 c2 (pfCells l2) rfl hlen (hcl _ (hb0 _)) (pf_one l2) (by unfold maxLen; omega) (by omega) (by simp; omega) ?_; intro v' w4 hown4 hgrow4 hpl; obtain ⟨a4, c4, rfl⟩ := slice_of_owns hown4; obtain ⟨q0, q1, q2, f0, f1, f2, ql⟩ := (box3_new w _ _ _ _).grown hgrow4 hne))
    refine bodyPost_ret (v := .agg #[.slice a4 (n1 + n2) c4, .slice none 0 0, .string ⟨#[]⟩]) (by simp [results, Try.results56, go_sem, q0, q1, q2]) rfl ⟨_, rfl, ?_, ?_⟩
    · rw [pf_app]
      have hk := placed_ne hpl hne (by simp)
      exact owns_far (owns_far (owns_far hown4 hk _) hk _) hk _
    · exact below_three ((((Below.refl B w).alloc hB _)).grown hgrow4 (by simp; omega) (fun k hk => (hown.lt k hk).1)) hB _ _ _
  | false =>
    have hn2 : needN l3 ≠ 3 := by rcases hn with h | h; exact absurd h (by simp); exact h
    have hneed := fun wx (hb : Below w.heap.size w wx) => hasNeeded_any v3 l3 wx (by omega) (hr.later hb)
    rw [show (needN l3 == 3) = false from by rw [beq_eq_false_iff_ne]; exact hn2] at hneed
    clear hn hn2 hr
    go_enter Try.func56, Try.ntmps56
    go_wp2_with (first | (go_at_call 81; refine (hneed _ (hb0 _)).mono ?_; rintro e w1 ⟨rfl, hb1⟩) | (at_builtin; refine wpList_append_placed _ rfl _ _ 26 rfl B 36 i0 (.agg #[.int .i64 0, .int .i64 0]) 2 16 Try.underlying26 hi hz0 hz1 hz2 rfl (by decide) _ _ _ rfl (owns_later (hown.alloc _) hb1) ⟨b2, o2, none⟩ n2 c2 (pfCells l2) rfl hlen (hcl _ (later_below (hb0 _) hb1 (by simp))) (pf_one l2) (by unfold maxLen; omega) (by omega) (Nat.le_trans (by simp; omega) hb1.size) ?_; intro v' w4 hown4 hgrow4 hpl; obtain ⟨a4, c4, rfl⟩ := slice_of_owns hown4; obtain ⟨q0, q1, q2, f0, f1, f2, ql⟩ := ((box3_new w _ _ _ _).later hb1).grown hgrow4 hne))
    refine bodyPost_ret (v := .agg #[.slice a4 (n1 + n2) c4, .slice none 0 0, .string ⟨#[]⟩]) (by simp [results, Try.results56, go_sem, q0, q1, q2]) rfl ⟨_, rfl, ?_, ?_⟩
    · rw [pf_app]
      have hk := placed_ne hpl hne (Nat.lt_of_lt_of_le (by simp) hb1.size)
      exact owns_far (owns_far (owns_far hown4 hk _) hk _) hk _
    · exact below_three ((later_below ((Below.refl B w).alloc hB _) hb1 (by simp; omega)).grown hgrow4 (Nat.le_trans (by simp; omega) hb1.size) (fun k hk => (hown.lt k hk).1)) hB _ _ _

end Go.Proofs.Yteoacdkgicfomaa
