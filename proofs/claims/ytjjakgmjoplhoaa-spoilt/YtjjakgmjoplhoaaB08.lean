/-
  message.change, walked: what an update of these parts changes.
-/
import Derived.Test.YtjjakgmjoplhoaaB06
import Derived.Test.YtjjakgmjoplhoaaB04
import Derived.Test.YtjjakgmjoplhoaaB07
import Derived.Test.YtjjakgmjoplhoaaB05
import Derived.Deep.RegionHeld
import Derived.Test.YtjjakgmjoplhoaaB03
import Derived.Test.YtjjakgmjoplhoaaB01
namespace Go.Proofs.Ytjjakgmjoplhoaa
open Go.RowKit
open Rl

theorem cells_of_rowAt {w : World} {v : Value} {n size : Nat} {xs : List Value} (h : RowAt w v n size xs) (hn : n ≠ 0) : ∃ b o cap, v = .slice (some ⟨b, o, none⟩) n cap ∧ ∀ j u, xs[j]? = some u → w.cell? ((⟨b, o, none⟩ : Addr).add j) = some u := by
  rcases h.2 with ⟨a, c, _, e⟩ | ⟨b, o, cap, e, _, _, hc⟩
  · exact absurd e hn
  · refine ⟨b, o, cap, e, fun j u hu => ?_⟩
    have e2 : (⟨b, o, none⟩ : Addr).add j = ⟨b, o + j, none⟩ := by unfold Addr.add; split <;> simp_all
    rw [e2]; exact hc j u hu

theorem rowCells {w : World} {b o n cap size : Nat} {xs : List Value} (h : RowAt w (.slice (some ⟨b, o, none⟩) n cap) n size xs) (hn : n ≠ 0) : ∀ j u, xs[j]? = some u → w.cell? ((⟨b, o, none⟩ : Addr).add j) = some u := by
  obtain ⟨b', o', cap', e, hc⟩ := cells_of_rowAt h hn
  cases e
  exact hc

/-- a store into another block leaves a row. -/
theorem owns_far {w : World} {B k o : Nat} {e : TypeId} {size : Nat} {v : Value} {n : Nat} {xs : List Value} (h : w.ownsRow B e size v n xs) (hk : v.ownBlock ≠ some k) (u : Value) : (w.setCell ⟨k, o, none⟩ u).ownsRow B e size v n xs := by
  refine ⟨h.1, ?_⟩
  rcases h.2 with hn | ⟨g, cap, cur, rfl, hbg, hgg, rest⟩
  · exact .inl hn
  · refine .inr ⟨g, cap, cur, rfl, hbg, ?_, rest⟩
    rw [Below.heap_setCell w _ u g (by intro e; apply hk; simp [Value.ownBlock, e])]
    exact hgg

theorem placed_ne {w : World} {v v' : Value} {k : Nat} (h : Placed w v v') (h1 : some k ≠ v.ownBlock) (h2 : k < w.heap.size) : v'.ownBlock ≠ some k := by
  intro e
  rcases h with h | ⟨j, h, hj⟩
  · rw [h] at e; exact h1 e.symm
  · rw [h] at e; injection e; omega

theorem pf_app (a b : List (Int × Int)) : pfCells (a ++ b) = pfCells a ++ pfCells b := by unfold pfCells; rw [List.flatMap_append]

theorem slice_of_owns {w : World} {B : Nat} {e : TypeId} {size : Nat} {v : Value} {n : Nat} {xs : List Value} (h : w.ownsRow B e size v n xs) : ∃ a c, v = .slice a n c := by
  rcases h.2 with ⟨e1, e2⟩ | ⟨g, cap, cur, e1, _⟩
  · subst e2; exact ⟨none, 0, e1⟩
  · exact ⟨_, cap, e1⟩

theorem pf_one (l : List (Int × Int)) : ∀ u ∈ pfCells l, u.oneCell' = true := by
  intro u hu
  unfold pfCells at hu
  simp only [List.mem_flatMap, List.mem_cons, List.not_mem_nil, or_false] at hu
  obtain ⟨p, _, rfl | rfl⟩ := hu <;> rfl

/-- the three cells of a struct that is being laid. -/
structure Box3 (w : World) (n : Nat) (a b c : Value) : Prop where
  c0 : w.cell? ⟨n, 0, none⟩ = some a
  c1 : w.cell? ⟨n, 1, none⟩ = some b
  c2 : w.cell? ⟨n, 2, none⟩ = some c
  f0 : w.frozen? ⟨n, 0, none⟩ = false
  f1 : w.frozen? ⟨n, 1, none⟩ = false
  f2 : w.frozen? ⟨n, 2, none⟩ = false
  lt : n < w.heap.size

theorem box3_new (w : World) (a b c : Value) (T : TypeId) : Box3 (w.alloc (.cells #[a, b, c] T)) w.heap.size a b c :=
  ⟨by simp, by simp, by simp, by simp, by simp, by simp, by simp⟩

theorem Box3.later {w w' : World} {n : Nat} {a b c : Value} (h : Box3 w n a b c) (hb : Below w.heap.size w w') : Box3 w' n a b c :=
  ⟨(hb.cell (p := ⟨n, 0, none⟩) h.lt).trans h.c0, (hb.cell (p := ⟨n, 1, none⟩) h.lt).trans h.c1, (hb.cell (p := ⟨n, 2, none⟩) h.lt).trans h.c2, (hb.frozen (p := ⟨n, 0, none⟩) h.lt).trans h.f0, (hb.frozen (p := ⟨n, 1, none⟩) h.lt).trans h.f1, (hb.frozen (p := ⟨n, 2, none⟩) h.lt).trans h.f2, Nat.lt_of_lt_of_le h.lt hb.size⟩

theorem Box3.grown {w w' : World} {n : Nat} {a b c : Value} {row : Option Nat} (h : Box3 w n a b c) (hg : w.grownBy w' row) (hne : some n ≠ row) : Box3 w' n a b c := by
  have hk := hg.block n h.lt hne
  exact ⟨(World.cell?_of_block (a := ⟨n, 0, none⟩) hk).trans h.c0, (World.cell?_of_block (a := ⟨n, 1, none⟩) hk).trans h.c1, (World.cell?_of_block (a := ⟨n, 2, none⟩) hk).trans h.c2, (World.frozen?_of_block (a := ⟨n, 0, none⟩) hk).trans h.f0, (World.frozen?_of_block (a := ⟨n, 1, none⟩) hk).trans h.f1, (World.frozen?_of_block (a := ⟨n, 2, none⟩) hk).trans h.f2, Nat.lt_of_lt_of_le h.lt hg.size⟩

/-- three stores into a block that is not below B turn nothing below it. -/
theorem below_three {B : Nat} {a w : World} (h : Below B a w) {n : Nat} (hn : B ≤ n) (x y z : Value) : Below B a (((w.setCell ⟨n, 0, none⟩ x).setCell ⟨n, 1, none⟩ y).setCell ⟨n, 2, none⟩ z) :=
  ((h.setCell (p := ⟨n, 0, none⟩) hn x).setCell (p := ⟨n, 1, none⟩) hn y).setCell (p := ⟨n, 2, none⟩) hn z

set_option maxRecDepth 20000 in
set_option maxHeartbeats 2000000 in
theorem change_none (v3 : Value) (sp : Bool) (a1 a2 : Option Addr) (n1 c1 c2 : Nat) (w : World) :
    Calls Try.prog 56 #[.slice a1 n1 c1, .slice a2 0 c2, v3, .bool sp] w fun e w' => e = .returned (.agg #[.slice a1 n1 c1, .slice none 0 0, .string ⟨#[]⟩]) ∧ Below w.heap.size w w' := by
  go_enter Try.func56, Try.ntmps56
  go_wp2
  refine bodyPost_ret (v := .agg #[.slice a1 n1 c1, .slice none 0 0, .string ⟨#[]⟩]) (by simp [results, Try.results56, go_sem]) rfl ⟨rfl, ?_⟩
  exact (Below.refl _ _).alloc (Nat.le_refl _) _

set_option maxRecDepth 20000 in
set_option maxHeartbeats 2000000 in
theorem change_good (v3 : Value) (a1 a2 : Option Addr) (n1 c1 n2 c2 : Nat) (l3 : List At) (w : World) (h2 : n2 ≠ 0) (hn : needN l3 = 3) (hr : RowAt w v3 l3.length 3 (atCells l3)) (hx : l3.length ≤ 1048576) (hl : ∀ a ∈ l3, a.flags < 256 ∧ a.kind < 256 ∧ a.val.size ≤ 1048576) (hsum : (l3.flatMap atCan).length ≤ 140737488355328) :
    Calls Try.prog 56 #[.slice a1 n1 c1, .slice a2 n2 c2, v3, .bool false] w fun e w' => e = .returned (.agg #[.slice a1 n1 c1, .slice a2 n2 c2, .string ⟨(l3.flatMap atCan).toArray⟩]) ∧ Below w.heap.size w w' := by
  have hq : ((n2 : Int) == 0) = false := by rw [beq_eq_false_iff_ne]; omega
  have hneed := fun wx (hb : Below w.heap.size w wx) => hasNeeded_any v3 l3 wx (by omega) (hr.later hb)
  rw [show (needN l3 == 3) = true from by rw [hn]; rfl] at hneed
  have hwr := fun wx (hb : Below w.heap.size w wx) => writeCanonical_any v3 l3 wx hx hl hsum (hr.later hb)
  have hb0 := fun o => (Below.refl w.heap.size w).alloc (Nat.le_refl _) o
  clear hl hsum hr
  generalize (⟨(l3.flatMap atCan).toArray⟩ : ByteArray) = T at *
  go_enter Try.func56, Try.ntmps56
  go_wp2_with (first | (go_at_call 81; refine (hneed _ (hb0 _)).mono ?_; rintro e w1 ⟨rfl, hb1⟩) | (go_at_call 82; refine (hwr _ (later_below (hb0 _) hb1 (by simp))).mono ?_; rintro e w2 ⟨rfl, hb2⟩; obtain ⟨q0, q1, q2, f0, f1, f2, ql⟩ := ((box3_new _ _ _ _ _).later hb1).later hb2; have hbel := later_below (later_below (hb0 _) hb1 (by simp)) hb2 (Nat.le_trans (by simp) hb1.size)))
  refine bodyPost_ret (v := .agg #[.slice a1 n1 c1, .slice a2 n2 c2, .string T]) (by simp [results, Try.results56, go_sem, q0, q1, q2]) rfl ⟨rfl, ?_⟩
  exact below_three hbel (Nat.le_refl _) _ _ _

set_option maxRecDepth 20000 in
set_option maxHeartbeats 2000000 in
theorem change_bad (B : Nat) (v3 : Value) (sp : Bool) (a1 a2 : Option Addr) (n1 c1 n2 c2 : Nat) (l1 l2 : List (Int × Int)) (l3 : List At) (w : World) (h2 : n2 ≠ 0) (hn : sp = true ∨ needN l3 ≠ 3) (hB : B ≤ w.heap.size) (hr : RowAt w v3 l3.length 3 (atCells l3)) (hx : l3.length ≤ 1048576)
    (hown : w.ownsRow B 36 2 (.slice a1 n1 c1) n1 (pfCells l1)) (hr2 : RowAt w (.slice a2 n2 c2) n2 2 (pfCells l2)) (hs : n1 + n2 ≤ 1048576) :
    Calls Try.prog 56 #[.slice a1 n1 c1, .slice a2 n2 c2, v3, .bool sp] w fun e w' => ∃ v', e = .returned (.agg #[v', .slice none 0 0, .string ⟨#[]⟩]) ∧ w'.ownsRow B 36 2 v' (n1 + n2) (pfCells (l1 ++ l2)) ∧ Below B w w' := by
  obtain ⟨i0, hi, hz0, hz1, hz2⟩ := info_parts info_pfx
  obtain ⟨b2, o2, cap2, e2, hcell⟩ := cells_of_rowAt hr2 h2
  have hlen : (pfCells l2).length = n2 * 2 := hr2.1
  cases e2
  have hq : ((n2 : Int) == 0) = false := by rw [beq_eq_false_iff_ne]; omega
  have hb0 := fun o => (Below.refl w.heap.size w).alloc (Nat.le_refl _) o
  have hne := own_ne hown w.heap.size (Nat.le_refl _)
  have hcl := fun wx (hb : Below w.heap.size w wx) => rowCells (hr2.later hb) h2
  clear hcell
  cases sp with
  | true =>
    clear hn
    go_enter Try.func56, Try.ntmps56
    go_wp2_with (first | (at_builtin; refine wpList_append_placed _ rfl _ _ 26 rfl B 36 i0 (.agg #[.int .i64 0, .int .i64 0]) 2 16 Try.underlying26 hi hz0 hz1 hz2 rfl (by decide) _ _ _ rfl (hown.alloc _) ⟨b2, o2, none⟩ n2 c2 (pfCells l2) rfl hlen (hcl _ (hb0 _)) (pf_one l2) (by unfold maxLen; omega) (by omega) (by simp; omega) ?_; intro v' w4 hown4 hgrow4 hpl; obtain ⟨a4, c4, rfl⟩ := slice_of_owns hown4; obtain ⟨q0, q1, q2, f0, f1, f2, ql⟩ := (box3_new w _ _ _ _).grown hgrow4 hne))
    refine bodyPost_ret (v := .agg #[.slice a4 (n1 + n2) c4, .slice none 0 0, .string ⟨#[]⟩]) (by simp [results, Try.results56, go_sem, q0, q1, q2]) rfl ⟨_, rfl, ?_, ?_⟩
    · rw [pf_app]
      have hk := placed_ne hpl hne (by simp)
      exact owns_far (owns_far (owns_far hown4 hk _) hk _) hk _
    · exact below_three ((((Below.refl B w).alloc hB _)).grown hgrow4 (by simp; omega) (fun k hk => (hown.lt k hk).1)) hB _ _ _
  | false =>
    have hn2 : needN l3 ≠ 3 := by rcases hn with h | h; exact absurd h (by simp); exact h
    have hneed := fun wx (hb : Below w.heap.size w wx) => hasNeeded_any v3 l3 wx (by omega) (hr.later hb)
    rw [show (needN l3 == 3) = false from by rw [beq_eq_false_iff_ne]; exact hn2] at hneed
    clear hn hn2 hr
    go_enter Try.func56, Try.ntmps56
    go_wp2_with (first | (go_at_call 81; refine (hneed _ (hb0 _)).mono ?_; rintro e w1 ⟨rfl, hb1⟩) | (at_builtin; refine wpList_append_placed _ rfl _ _ 26 rfl B 36 i0 (.agg #[.int .i64 0, .int .i64 0]) 2 16 Try.underlying26 hi hz0 hz1 hz2 rfl (by decide) _ _ _ rfl (owns_later (hown.alloc _) hb1) ⟨b2, o2, none⟩ n2 c2 (pfCells l2) rfl hlen (hcl _ (later_below (hb0 _) hb1 (by simp))) (pf_one l2) (by unfold maxLen; omega) (by omega) (Nat.le_trans (by simp; omega) hb1.size) ?_; intro v' w4 hown4 hgrow4 hpl; obtain ⟨a4, c4, rfl⟩ := slice_of_owns hown4; obtain ⟨q0, q1, q2, f0, f1, f2, ql⟩ := ((box3_new w _ _ _ _).later hb1).grown hgrow4 hne))
    refine bodyPost_ret (v := .agg #[.slice a4 (n1 + n2) c4, .slice none 0 0, .string ⟨#[]⟩]) (by simp [results, Try.results56, go_sem, q0, q1, q2]) rfl ⟨_, rfl, ?_, ?_⟩
    · rw [pf_app]
      have hk := placed_ne hpl hne (Nat.lt_of_lt_of_le (by simp) hb1.size)
      exact owns_far (owns_far (owns_far hown4 hk _) hk _) hk _
    · exact below_three ((later_below ((Below.refl B w).alloc hB _) hb1 (by simp; omega)).grown hgrow4 (Nat.le_trans (by simp; omega) hb1.size) (fun k hk => (hown.lt k hk).1)) hB _ _ _

end Go.Proofs.Ytjjakgmjoplhoaa
/-
  routelogkeep's prefixes, walked: as many as there are raw numbers, at most top.
-/
namespace Go.Proofs.Ytjjakgmjoplhoaa
open Go.RowKit
open Rl

/-- the cells of raw numbers. -/
def ints (l : List Int) : List Value := l.map (Value.int .i64)

def keepL (raw : List Int) (top : Nat) : List (Int × Int) := (raw.take top).map keepP

theorem keepL_length (raw : List Int) (top : Nat) : (keepL raw top).length = min top raw.length := by simp [keepL]

theorem keepL_step (raw : List Int) (k : Nat) (h : k < raw.length) : keepL raw (k + 1) = keepL raw k ++ [keepP raw[k]] := by
  unfold keepL
  rw [List.take_succ_eq_append_getElem h, List.map_append]
  rfl

theorem kp_two (p q : Int) : ∀ u ∈ [Value.int .i64 p, Value.int .i64 q], u.oneCell' = true := by
  intro u hu; simp at hu; rcases hu with rfl | rfl <;> rfl

set_option maxRecDepth 20000 in
set_option maxHeartbeats 2000000 in
theorem keepPrefixes_any (v : Value) (raw : List Int) (top : Nat) (w : World) (hr : RowAt w v raw.length 1 (ints raw)) (hi64 : ∀ c ∈ raw, inI64 c) (ht : top ≤ 1000) (_hlen : raw.length ≤ 9223372036854775807) :
    Calls Try.prog 20 #[v, .int .i64 top] w fun e w' => ∃ v', e = .returned v' ∧ w'.ownsRow w.heap.size 36 2 v' (keepL raw top).length (pfCells (keepL raw top)) ∧ Below w.heap.size w w' := by
  obtain ⟨i0, hi, hz0, hz1, hz2⟩ := info_parts info_pfx
  obtain ⟨a0, c0, ev⟩ : ∃ a c, v = .slice a raw.length c := by
    rcases hr.2 with ⟨a, c, e, h0⟩ | ⟨b, o, cap, e, _⟩
    · rw [h0]; exact ⟨a, c, e⟩
    · exact ⟨_, cap, e⟩
  subst ev
  go_enter Try.func20, Try.ntmps20
  go_wp2
  go_loopw [5, 6] (fun x i wr => ∃ (k : Nat) (lv : Value), lv = x ∧ k ≤ raw.length ∧ k ≤ top ∧ i = .int .i64 k ∧ wr.ownsRow w.heap.size 36 2 lv k (pfCells (keepL raw k)) ∧ Below w.heap.size w wr) (fun _ i _ => top - (intOf i).toNat)
  case atStart => exact ⟨0, _, rfl, Nat.zero_le _, Nat.zero_le _, rfl, World.ownsRow_nil _ _ _ _, Below.refl _ _⟩
  case round =>
    obtain ⟨k, lv, rfl, hk1, hk2, rfl, hown, hbel⟩ := hrel
    by_cases hlt : k < raw.length
    · by_cases hlt2 : k < top
      · rcases hr.2 with ⟨_, _, _, h0⟩ | ⟨b, o, cap, e, _, hb, hc⟩
        · omega
        · cases e
          have hcell := (hbel.cell (p := ⟨b, o + k, none⟩) hb).trans (hc k _ (by unfold ints; rw [List.getElem?_map, List.getElem?_eq_getElem hlt]; rfl))
          have hcall := fun w => keepPrefix_any raw[k] w (hi64 _ (List.getElem_mem hlt))
          have HT := hide (keepL_step raw k hlt)
          have hx : (k : Int) < (raw.length : Int) := by omega
          clear hr hc hi64
          generalize raw[k] = c at *
          generalize keepP c = p at *
          go_wp2_with (first | (go_at_call 47; refine (hcall _).mono ?_; rintro e w2 ⟨rfl, hb2⟩; have hown2 := owns_later hown hb2; have hbel2 := later_below hbel hb2 hbel.size) | (at_builtin; refine wpList_append_own _ rfl _ _ 26 rfl w.heap.size 36 i0 (.agg #[.int .i64 0, .int .i64 0]) 2 16 Try.underlying26 hi hz0 hz1 hz2 rfl (by decide) _ _ _ rfl ((hown2.alloc _).alloc _) ⟨w2.heap.size + 1, 0, none⟩ 1 1 [.int .i64 p.1, .int .i64 p.2] rfl rfl (cells_new2' _ _ _ _) (kp_two _ _) (by unfold maxLen; omega) (by omega) (by have := hbel2.size; simp; omega) ?_; intro v5 w5 hown5 hgrow5 _))
          refine ⟨⟨k + 1, v5, rfl, by omega, by omega, by go_num, by rw [HT.out, pf_app]; exact hown5, below_app2' hbel2 hbel2.size hown2 hgrow5⟩, by simp [intOf]; omega⟩
      · have hk : k = top := by omega
        have hl : (keepL raw top).length = top := by rw [keepL_length]; omega
        have hg : ¬ (k : Int) < (top : Int) := by omega
        subst hk
        clear hr hi64
        go_wp2
        go_ret
        exact ⟨lv, rfl, hown, hbel⟩
    · have hl : keepL raw k = keepL raw top := by
        unfold keepL
        rw [List.take_of_length_le (by omega), List.take_of_length_le (by omega)]
      have hn : k = (keepL raw top).length := by rw [← hl, keepL_length]; omega
      rw [hl, hn] at hown
      clear hr hi64 hl hn
      go_wp2
      go_ret
      exact ⟨lv, rfl, hown, hbel⟩

end Go.Proofs.Ytjjakgmjoplhoaa
/-
  routelogkeep's told, walked: prefixes in bytes.
-/
namespace Go.Proofs.Ytjjakgmjoplhoaa
open Go.RowKit
open Rl

theorem kt_size (l : List UInt8) : (ByteArray.mk l.toArray).size = l.length := by show l.toArray.size = _; simp

theorem keep2k {w wx w2 : World} {b o : Nat} {x y : Value} (hS : wx.cell? ⟨b, o, none⟩ = some x ∧ wx.cell? ⟨b, o + 1, none⟩ = some y ∧ b < wx.heap.size ∧ Below w.heap.size w wx) (hb : Below wx.heap.size wx w2) :
    w2.cell? ⟨b, o, none⟩ = some x ∧ w2.cell? ⟨b, o + 1, none⟩ = some y ∧ b < w2.heap.size ∧ Below w.heap.size w w2 := by
  obtain ⟨h0, h1, h2, h3⟩ := hS
  exact ⟨(hb.cell (p := ⟨b, o, none⟩) h2).trans h0, (hb.cell (p := ⟨b, o + 1, none⟩) h2).trans h1, Nat.lt_of_lt_of_le h2 hb.size, later_below h3 hb h3.size⟩

theorem kt_eq (p : List UInt8) (a n : Nat) : (ByteArray.mk p.toArray) ++ (ByteArray.mk (be 1 n).toArray) ++ (ByteArray.mk (be 4 a).toArray).extract 0 (many n) = ⟨(p ++ (be 1 n ++ (be 4 a).take (many n))).toArray⟩ := by
  apply bytes_ext
  rw [append_data, append_data]
  simp

/-- prefixes in bytes, up to the k-th. -/
def ktTo (l : List (Nat × Nat)) (k : Nat) : List UInt8 := (l.take k).flatMap fun p => be 1 p.2 ++ (be 4 p.1).take (many p.2)

theorem ktTo_step (l : List (Nat × Nat)) (k : Nat) (h : k < l.length) : ktTo l (k + 1) = ktTo l k ++ (be 1 l[k].2 ++ (be 4 l[k].1).take (many l[k].2)) := by
  unfold ktTo
  rw [List.take_succ_eq_append_getElem h, List.flatMap_append]
  simp

theorem ktTo_le (l : List (Nat × Nat)) : ∀ k, (ktTo l k).length ≤ 5 * k := by
  intro k; induction k with
  | zero => simp [ktTo]
  | succ k ih =>
    by_cases h : k < l.length
    · rw [ktTo_step l k h, List.length_append, List.length_append, be_length, List.length_take, be_length]; omega
    · have e : ktTo l (k + 1) = ktTo l k := by
        unfold ktTo; rw [List.take_of_length_le (by omega), List.take_of_length_le (by omega)]
      rw [e]; omega

set_option maxRecDepth 20000 in
set_option maxHeartbeats 8000000 in
theorem keepTold_any (v : Value) (l : List (Nat × Nat)) (w : World) (hl : l.length ≤ 1000) (hp : ∀ p ∈ l, p.1 ≤ 4294967295 ∧ p.2 ≤ 32) (hr : RowAt w v l.length 2 (pfCells (l.map fun p => ((p.1 : Int), (p.2 : Int))))) :
    Calls Try.prog 21 #[v] w fun e w' => e = .returned (.string ⟨(ktTo l l.length).toArray⟩) ∧ Below w.heap.size w w' := by
  obtain ⟨F, hF0, hFs, hFl, hFe⟩ : ∃ F : Nat → List UInt8, F 0 = [] ∧ (∀ k (h : k < l.length), F (k + 1) = F k ++ (be 1 l[k].2 ++ (be 4 l[k].1).take (many l[k].2))) ∧ (∀ k, (F k).length ≤ 5 * k) ∧ F l.length = ktTo l l.length := ⟨ktTo l, by simp [ktTo], ktTo_step l, ktTo_le l, rfl⟩
  rw [← hFe]
  have HF0 := hide hF0
  have HFS := hide hFs
  have HFL := hide hFl
  clear hF0 hFs hFl hFe
  rcases hr.2 with ⟨a, c, rfl, h0⟩ | ⟨b, o, cap, rfl, hn, hb, hc⟩
  · have e0 : l = [] := List.eq_nil_of_length_eq_zero h0
    subst e0
    go_enter Try.func21, Try.ntmps21
    go_wp2
    refine wp_loop_rounds 1 ?_
    rw [rounds_succ]
    go_wp2
    go_ret
    exact ⟨by simp [HF0.out], Below.refl _ _⟩
  · go_enter Try.func21, Try.ntmps21
    go_wp2
    go_loopw [3, 4] (fun x i wr => ∃ k : Nat, k ≤ l.length ∧ i = .int .i64 k ∧ x = .string ⟨(F k).toArray⟩ ∧ Below w.heap.size w wr) (fun _ i _ => l.length - (intOf i).toNat)
    case atStart => exact ⟨0, Nat.zero_le _, rfl, by rw [HF0.out], Below.refl _ _⟩
    case round =>
      obtain ⟨k, hk, rfl, rfl, hbel⟩ := hrel
      by_cases hlt : k < l.length
      · have hkm : k < (l.map fun p => ((p.1 : Int), (p.2 : Int))).length := by simpa using hlt
        obtain ⟨g1, g2⟩ := pfCells_get (l.map fun p => ((p.1 : Int), (p.2 : Int))) k hkm
        have e0 : (l.map fun p => ((p.1 : Int), (p.2 : Int)))[k]'hkm = ((l[k].1 : Int), (l[k].2 : Int)) := by simp
        rw [e0] at g1 g2
        have c1 := (hbel.cell (p := ⟨b, o + k * 2, none⟩) hb).trans (hc _ _ g1)
        have c2 := (hbel.cell (p := ⟨b, o + (k * 2 + 1), none⟩) hb).trans (hc _ _ g2)
        simp only at c1 c2
        obtain ⟨hp1, hp2⟩ := hp l[k] (List.getElem_mem _)
        have HW := hide (HFS.out k hlt)
        have hle := HFL.out k
        have hbl : b < wr.heap.size := Nat.lt_of_lt_of_le hb hbel.size
        have hkl : (k : Int) < (l.length : Int) := by omega
        clear hr hc g1 g2 e0 hkm hp
        generalize F k = P at *
        generalize l[k].1 = A at *
        generalize l[k].2 = N at *
        have h1 := fun w => keepBytes_any N 1 w (by omega) (by omega)
        have h2 := fun w => keepBytes_any A 4 w (by omega) (by omega)
        have HS := hide (kt_eq P A N)
        have z1 := kt_size (be 1 N)
        have z2 := kt_size (be 4 A)
        have z4 := kt_size P
        rw [be_length] at z1 z2
        obtain ⟨U1, e1⟩ : ∃ U : ByteArray, U = ⟨(be 1 N).toArray⟩ := ⟨_, rfl⟩
        obtain ⟨U2, e2⟩ : ∃ U : ByteArray, U = ⟨(be 4 A).toArray⟩ := ⟨_, rfl⟩
        obtain ⟨U4, e4⟩ : ∃ U : ByteArray, U = ⟨P.toArray⟩ := ⟨_, rfl⟩
        rw [← e1] at h1
        rw [← e2] at h2
        rw [← e1, ← e2, ← e4] at HS
        rw [← e1] at z1
        rw [← e2] at z2
        rw [← e4] at z4
        rw [← e4]
        have hm0 : 0 ≤ ((N : Int) + 7) / 8 := by omega
        have hm4 : ((N : Int) + 7) / 8 ≤ (U2.size : Int) := by omega
        have hw1 : IntKind.i64.wrap ((N : Int) + 7) = (N : Int) + 7 := by rw [IntKind.wrap_i64]; omega
        have hw2 : IntKind.i64.wrap (((N : Int) + 7).tdiv 8) = (many N : Int) := by rw [IntKind.wrap_i64, Int.tdiv_eq_ediv_of_nonneg (by omega)]; unfold many; omega
        have hm8 : (many N : Int) ≤ (U2.size : Int) := by unfold many; omega
        have hxs : (U2.extract 0 (many N)).size ≤ 4 := by rw [ByteArray.size_extract]; omega
        have y1 : U1.size ≤ 1 := by omega
        have y4 : U4.size ≤ 5000 := by omega
        have y2 : U2.size ≤ 4 := by omega
        clear e1 e2 e4 z1 z2 z4 hle
        go_wp2
        go_region_held (fun w' => w'.cell? ⟨b, o + k * 2, none⟩ = some (.int .i64 (A : Int)) ∧ w'.cell? ⟨b, o + k * 2 + 1, none⟩ = some (.int .i64 (N : Int)) ∧ b < w'.heap.size ∧ Below w.heap.size w w') (first | assumption | (exact ⟨c1, c2, hbl, hbel.drew⟩) | (exact ⟨c1, c2, hbl, hbel⟩) | (exact keep2k (by assumption) (by assumption))) (first | (go_at_call_of 26 (N : Int); refine (h1 _).mono ?_; rintro e w2 ⟨rfl, hb2⟩) | (go_at_call_of 26 (A : Int); refine (h2 _).mono ?_; rintro e w2 ⟨rfl, hb2⟩))
        all_goals
          have hS := ‹w2.cell? _ = some _ ∧ w2.cell? _ = some _ ∧ b < w2.heap.size ∧ Below w.heap.size w w2›
          clear h1 h2 c1 c2
          go_wp2
          refine ⟨⟨k + 1, by omega, by go_num, ?_, hS.2.2.2⟩, by simp [intOf]; omega⟩
          rw [HW.out, ← HS.out]
      · have hk2 : k = l.length := by omega
        subst hk2
        clear hr hc hp
        go_wp2
        go_ret
        exact ⟨rfl, hbel⟩

end Go.Proofs.Ytjjakgmjoplhoaa
/-
  routelogkeep's attribute, walked.
-/
namespace Go.Proofs.Ytjjakgmjoplhoaa
open Go.RowKit
open Rl

theorem ka_add4 (F kd z : Nat) (v : ByteArray) : (ByteArray.mk (be 1 F).toArray) ++ (ByteArray.mk (be 1 kd).toArray) ++ (ByteArray.mk (be z v.size).toArray) ++ v = ⟨(atBytes F kd z v).toArray⟩ := by
  apply bytes_ext
  rw [append_data, append_data, append_data]
  simp [atBytes]

theorem below_held {w wx w2 : World} (h : Below w.heap.size w wx) (hb : Below wx.heap.size wx w2) : Below w.heap.size w w2 := later_below h hb h.size

set_option maxRecDepth 20000 in
set_option maxHeartbeats 8000000 in
theorem keepAttribute_any (f k : Nat) (v : ByteArray) (c : Bool) (w : World) (hf : f < 256) (hk : k < 256) (hv : v.size ≤ 200) :
    Calls Try.prog 24 #[.int .i64 f, .int .i64 k, .string v, .bool c] w fun e w' => e = .returned (.string ⟨(atBytes f k (if c = true then 2 else 1) v).toArray⟩) ∧ Below w.heap.size w w' := by
  have h1 := fun w => keepBytes_any f 1 w (by omega) (by omega)
  have h2 := fun w => keepBytes_any k 1 w (by omega) (by omega)
  have z1 := kt_size (be 1 f)
  have z2 := kt_size (be 1 k)
  rw [be_length] at z1 z2
  obtain ⟨U1, e1⟩ : ∃ U : ByteArray, U = ⟨(be 1 f).toArray⟩ := ⟨_, rfl⟩
  obtain ⟨U2, e2⟩ : ∃ U : ByteArray, U = ⟨(be 1 k).toArray⟩ := ⟨_, rfl⟩
  cases c with
  | true =>
    have h3 := fun w => keepBytes_any v.size 2 w (by omega) (by omega)
    have HS := hide (ka_add4 f k 2 v)
    have z3 := kt_size (be 2 v.size)
    rw [be_length] at z3
    obtain ⟨U3, e3⟩ : ∃ U : ByteArray, U = ⟨(be 2 v.size).toArray⟩ := ⟨_, rfl⟩
    rw [← e1] at h1 z1
    rw [← e2] at h2 z2
    rw [← e3] at h3 z3
    rw [← e1, ← e2, ← e3] at HS
    clear e1 e2 e3
    go_enter Try.func24, Try.ntmps24
    go_wp2_with fail
    refine (h1 _).mono ?_
    rintro e w1 ⟨rfl, hb1⟩
    go_wp2_with fail
    refine (h2 _).mono ?_
    rintro e w2 ⟨rfl, hb2⟩
    go_wp2_with fail
    refine (h3 _).mono ?_
    rintro e w3 ⟨rfl, hb3⟩
    go_wp2
    go_ret
    exact ⟨ret_str HS.out, below_held (below_held hb1 hb2) hb3⟩
  | false =>
    have h3 := fun w => keepBytes_any v.size 1 w (by omega) (by omega)
    have HS := hide (ka_add4 f k 1 v)
    have z3 := kt_size (be 1 v.size)
    rw [be_length] at z3
    obtain ⟨U3, e3⟩ : ∃ U : ByteArray, U = ⟨(be 1 v.size).toArray⟩ := ⟨_, rfl⟩
    rw [← e1] at h1 z1
    rw [← e2] at h2 z2
    rw [← e3] at h3 z3
    rw [← e1, ← e2, ← e3] at HS
    clear e1 e2 e3
    go_enter Try.func24, Try.ntmps24
    go_wp2_with fail
    refine (h1 _).mono ?_
    rintro e w1 ⟨rfl, hb1⟩
    go_wp2_with fail
    refine (h2 _).mono ?_
    rintro e w2 ⟨rfl, hb2⟩
    go_wp2_with fail
    refine (h3 _).mono ?_
    rintro e w3 ⟨rfl, hb3⟩
    go_wp2
    go_ret
    exact ⟨ret_str HS.out, below_held (below_held hb1 hb2) hb3⟩

end Go.Proofs.Ytjjakgmjoplhoaa
/-
  routelogkeep's bytes of any number, below 0 too, walked.
-/
namespace Go.Proofs.Ytjjakgmjoplhoaa
open Go.RowKit
open Rl

/-- the number, t times divided. -/
def itI : Nat → Int → Int
  | 0, v => v
  | t + 1, v => (itI t v).tdiv 256

/-- its last byte. -/
def byteI (x : Int) : UInt8 := UInt8.ofNat (x % 256).toNat

/-- the last t bytes. -/
def tailI : Nat → Int → List UInt8
  | 0, _ => []
  | t + 1, v => byteI (itI t v) :: tailI t v

theorem tailI_length (t : Nat) (v : Int) : (tailI t v).length = t := by
  induction t with
  | zero => rfl
  | succ t ih => simp [tailI, ih]

theorem itI_in (v : Int) (hv : inI64 v) : ∀ t, inI64 (itI t v) := by
  intro t; induction t with
  | zero => exact hv
  | succ t ih => exact (tdiv_in _ 256 ih (by omega)).1

def rowI (m : Nat) (v : Int) (j : Nat) : List UInt8 := List.replicate j 0 ++ tailI (m - j) v

theorem rowI_length (m : Nat) (v : Int) (j : Nat) (h : j ≤ m) : (rowI m v j).length = m := by simp [rowI, tailI_length]; omega

theorem rowI_step (m : Nat) (v : Int) (j : Nat) (h : j < m) : (rowI m v (j + 1)).set j (byteI (itI (m - (j + 1)) v)) = rowI m v j := by
  unfold rowI
  have e : m - j = (m - (j + 1)) + 1 := by omega
  rw [e, List.replicate_succ', List.append_assoc, List.set_append, if_neg (by simp), List.length_replicate, Nat.sub_self]
  rfl

theorem byteI_cast (x : Int) : ((byteI x).toNat : Int) = x % 256 := by
  unfold byteI
  rw [UInt8.toNat_ofNat']
  have h1 := Int.emod_nonneg x (show (256 : Int) ≠ 0 by omega)
  have h2 := Int.emod_lt_of_pos x (show (0 : Int) < 256 by omega)
  omega

set_option maxHeartbeats 1600000 in
theorem keepRaw_any (v : Int) (m : Nat) (w : World) (hv : inI64 v) (hm : m ≤ 8) :
    Calls Try.prog 26 #[.int .i64 v, .int .i64 m] w fun e w' => e = .returned (.string ⟨(tailI m v).toArray⟩) ∧ Below w.heap.size w w' := by
  obtain ⟨i0, hi, hz0, hz1, hz2⟩ := info_parts info_u8
  go_enter Try.func26, Try.ntmps26
  go_wp2_with (at_make; refine wpList_make_full _ rfl _ _ 59 rfl w.heap.size 5 i0 (.int .u8 0) 1 Try.underlying59 hi hz0 hz1 .i64 .i64 _ _ m rfl rfl rfl rfl (by rw [hz2]; omega) (by unfold maxLen; omega) (Nat.le_refl _) ?_; intro w1 hown hgrow)
  rw [zeros_u8] at hown
  go_loopw [0, 6] (fun x i wr => ∃ j : Nat, j ≤ m ∧ i = .int .i64 ((j : Int) - 1) ∧ x = .int .i64 (itI (m - j) v) ∧ wr.ownsRow w.heap.size 5 1 (.slice (some ⟨w.heap.size, 0, none⟩) m m) m (u8s (rowI m v j)) ∧ Below w.heap.size w wr) (fun _ i _ => (intOf i + 1).toNat)
  case atStart => exact ⟨m, Nat.le_refl _, rfl, by simp [itI], by simpa [rowI, tailI] using hown, (Below.refl _ _).grown hgrow (Nat.le_refl _) (by simp)⟩
  case round =>
    obtain ⟨j, hj, rfl, rfl, hr, hb⟩ := hrel
    cases j with
    | zero =>
      have e0 : rowI m v 0 = tailI m v := by simp [rowI]
      rw [e0] at hr
      have hconv : (convert 59 9 (.slice (some ⟨w.heap.size, 0, none⟩) m m)).run Try.prog wr = .ok (.string ⟨(tailI m v).toArray⟩) wr := by
        have h := run_convert_bytes_back (P := Try.prog) wr 59 9 5 ⟨w.heap.size, 0, none⟩ m (tailI m v) Try.underlying59 Try.underlying5 Try.underlying9 (by
          intro j hj
          have := hr.cellAt j (by rw [tailI_length] at hj; omega)
          rw [add_head, this, u8s_get _ _ hj])
        rwa [tailI_length] at h
      clear e0
      go_wp2
      go_ret
      exact ⟨rfl, hb⟩
    | succ j =>
      have hcell := hr.cellAt j (by omega)
      rw [u8s_get _ _ (by rw [rowI_length _ _ _ hj]; omega)] at hcell
      have hfrozen := hr.frozenAt j
      have hq := itI_in v hv (m - (j + 1))
      have hd := (tdiv_in _ 256 hq (by omega)).2
      have H := hide (hr.stored j (.int .u8 (itI (m - (j + 1)) v % 256)))
      have HS : Hid (itI (m - j) v = (itI (m - (j + 1)) v).tdiv 256) := by
        have e : m - j = (m - (j + 1)) + 1 := by omega
        unfold Hid
        rw [e]
        rfl
      have HR := hide (rowI_step m v j (by omega))
      have hu : IntKind.u8.wrap ((itI (m - (j + 1)) v).tmod 256) = itI (m - (j + 1)) v % 256 := by
        have h2 := Int.emod_nonneg (itI (m - (j + 1)) v) (show (256 : Int) ≠ 0 by omega)
        simp only [IntKind.wrap, IntKind.bits, IntKind.signed]
        have e : (itI (m - (j + 1)) v).tmod 256 % 256 = itI (m - (j + 1)) v % 256 := by
          have h := Int.tmod_add_mul_tdiv (itI (m - (j + 1)) v) 256
          omega
        simpa using e
      generalize itI (m - (j + 1)) v = q at *
      clear hr
      go_wp2
      exact ⟨⟨j, by omega, rfl, by rw [hd, HS.out], by have h := H.out.1; rw [set_u8s _ _ _ _ (byteI_cast q).symm, HR.out] at h; exact h, hb.setCell (by simp) _⟩, by simp [intOf]⟩

end Go.Proofs.Ytjjakgmjoplhoaa
/-
  An update's three parts: what begins a text behind the two bytes that tell its length.
-/
namespace Go.Proofs.Ytjjakgmjoplhoaa
open Go.RowKit
open Rl

/-- the number in the first two bytes. -/
def n2 (s : ByteArray) : Nat := (num ((s.extract 0 2).data.toList)).toNat

theorem n2_cast (s : ByteArray) : (n2 s : Int) = num ((s.extract 0 2).data.toList) := by
  unfold n2; have := num_nonneg ((s.extract 0 2).data.toList); omega

theorem n2_lt (s : ByteArray) : n2 s < 65536 := by
  have h := num_lt 2 ((s.extract 0 2).data.toList) (by rw [len_data, ByteArray.size_extract]; omega)
  have e : (256 : Int) ^ 2 = 65536 := by decide
  have := n2_cast s
  omega

/-- a whole part begins s. -/
def cutOk (s : ByteArray) : Bool := decide (2 ≤ s.size ∧ 2 + n2 s ≤ s.size)
def cutHead (s : ByteArray) : ByteArray := s.extract 2 (2 + n2 s)
def cutTail (s : ByteArray) : ByteArray := s.extract (2 + n2 s) s.size

theorem cutTail_size (s : ByteArray) : (cutTail s).size = s.size - (2 + n2 s) := by
  unfold cutTail; rw [ByteArray.size_extract]; omega

theorem cutTail_le (s : ByteArray) : (cutTail s).size ≤ s.size := by rw [cutTail_size]; omega

/-- the part behind, by the places of the whole. -/
theorem n2_tail (s : ByteArray) (h : 4 + n2 s ≤ s.size) : (n2 (cutTail s) : Int) = num ((s.extract (2 + n2 s) (4 + n2 s)).data.toList) := by
  rw [n2_cast, cutTail, ByteArray.extract_extract]
  have e : min (2 + n2 s + 2) s.size = 4 + n2 s := by omega
  rw [e]; rfl

theorem tailHead (s : ByteArray) (h : 4 + n2 s + n2 (cutTail s) ≤ s.size) : cutHead (cutTail s) = s.extract (4 + n2 s) (4 + n2 s + n2 (cutTail s)) := by
  unfold cutHead
  generalize n2 (cutTail s) = n at *
  unfold cutTail
  rw [ByteArray.extract_extract]
  have e : min (2 + n2 s + (2 + n)) s.size = 4 + n2 s + n := by omega
  have e1 : 2 + n2 s + 2 = 4 + n2 s := by omega
  rw [e, e1]

theorem tailTail (s : ByteArray) : cutTail (cutTail s) = s.extract (4 + n2 s + n2 (cutTail s)) s.size := by
  have hz := cutTail_size s
  rw [cutTail, hz]
  generalize n2 (cutTail s) = n at *
  unfold cutTail
  rw [ByteArray.extract_extract]
  have e : min (2 + n2 s + (s.size - (2 + n2 s))) s.size = s.size := by omega
  have e1 : 2 + n2 s + (2 + n) = 4 + n2 s + n := by omega
  rw [e, e1]

/-- both parts are whole. -/
def partsOk (s : ByteArray) : Bool := cutOk s && cutOk (cutTail s)

theorem partsOk_iff (s : ByteArray) : partsOk s = true ↔ 4 + n2 s ≤ s.size ∧ 4 + n2 s + n2 (cutTail s) ≤ s.size := by
  unfold partsOk cutOk
  rw [Bool.and_eq_true, decide_eq_true_iff, decide_eq_true_iff, cutTail_size]
  omega

end Go.Proofs.Ytjjakgmjoplhoaa
