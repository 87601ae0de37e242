/-
  A slice that is only read: where its cells lie. Nothing of the program is named here.
-/
import Derived.Test.YtjjakgmjoplhoaaB01
import Derived.Laws.OwnMore
import Derived.Below
import Derived.WalkSmall
import Derived.WalkMore
import Derived.Deep.LoopGhost
import Derived.Deep.QuietTactic
import Derived.BigQuiet
import Derived.Laws.ShiftsVar
import Derived.Lib.Strings
import Derived.Test.YtjjakgmjoplhoaaShelf
namespace Go.Proofs.Ytjjakgmjoplhoaa
open Go.RowKit
namespace Rl

/-- the slice value v of n elements, of 'size' cells each, reads as the cells xs. -/
def RowAt (w : World) (v : Value) (n size : Nat) (xs : List Value) : Prop :=
  xs.length = n * size ∧ ((∃ a c, v = .slice a 0 c ∧ n = 0) ∨
    ∃ b o cap, v = .slice (some ⟨b, o, none⟩) n cap ∧ 0 < n ∧ b < w.heap.size ∧ ∀ j u, xs[j]? = some u → w.cell? ⟨b, o + j, none⟩ = some u)

theorem RowAt.nil (w : World) (a : Option Addr) (c size : Nat) : RowAt w (.slice a 0 c) 0 size [] := ⟨by simp, .inl ⟨a, c, rfl, rfl⟩⟩

theorem RowAt.below {B : Nat} {w w' : World} {v : Value} {n size : Nat} {xs : List Value} (h : RowAt w v n size xs) (hb : Below B w w') (hB : ∀ k, v.ownBlock = some k → k < B) : RowAt w' v n size xs := by
  refine ⟨h.1, ?_⟩
  rcases h.2 with h | ⟨b, o, cap, rfl, hn, hlt, hc⟩
  · exact .inl h
  · refine .inr ⟨b, o, cap, rfl, hn, Nat.lt_of_lt_of_le hlt hb.size, fun j u hu => ?_⟩
    have := hB b rfl
    rw [hb.cell (p := ⟨b, o + j, none⟩) this]
    exact hc j u hu

/-- by the heap's whole size. -/
theorem RowAt.later {w w' : World} {v : Value} {n size : Nat} {xs : List Value} (h : RowAt w v n size xs) (hb : Below w.heap.size w w') : RowAt w' v n size xs := by
  rcases h.2 with ⟨a, c, rfl, rfl⟩ | ⟨b, o, cap, rfl, hn, hlt, hc⟩
  · exact ⟨h.1, .inl ⟨a, c, rfl, rfl⟩⟩
  · refine h.below hb ?_
    intro k hk
    simp [Value.ownBlock] at hk
    omega

theorem rowAt_of_owns {w : World} {base : Nat} {e : TypeId} {size : Nat} {v : Value} {n : Nat} {xs : List Value} (h : w.ownsRow base e size v n xs) : RowAt w v n size xs := by
  refine ⟨h.1, ?_⟩
  rcases h.2 with ⟨rfl, rfl⟩ | ⟨g, cap, cur, rfl, hb, hg, hnc, hcm, hcs, ht⟩
  · exact .inl ⟨none, 0, rfl, rfl⟩
  · by_cases hn : n = 0
    · subst hn; exact .inl ⟨_, _, rfl, rfl⟩
    · refine .inr ⟨g, 0, cap, rfl, by omega, (Array.getElem?_eq_some_iff.1 hg).1, fun j u hu => ?_⟩
      have hj : j < n * size := by
        have := (List.getElem?_eq_some_iff.1 hu).1
        rw [h.1] at this; exact this
      rw [Nat.zero_add, h.cellAt j hj, hu]

/-- an owned row stays owned behind a call that turns nothing that was there. -/
theorem owns_later {w w' : World} {base : Nat} {e : TypeId} {size : Nat} {v : Value} {n : Nat} {xs : List Value} (h : w.ownsRow base e size v n xs) (hb : Below w.heap.size w w') : w'.ownsRow base e size v n xs := by
  refine ⟨h.1, ?_⟩
  rcases h.2 with hn | ⟨g, cap, cur, rfl, hbg, hgg, rest⟩
  · exact .inl hn
  · refine .inr ⟨g, cap, cur, rfl, hbg, ?_, rest⟩
    rw [hb.block g (Array.getElem?_eq_some_iff.1 hgg).1]
    exact hgg

/-- what lies below a block's number reads as before: two rules for the walk. -/
theorem bcell {W w1 : World} (hb : Below W.heap.size W w1) : (∀ b o, b < W.heap.size → w1.cell? ⟨b, o, none⟩ = W.cell? ⟨b, o, none⟩) ∧ (∀ b o, b < W.heap.size → w1.frozen? ⟨b, o, none⟩ = W.frozen? ⟨b, o, none⟩) :=
  ⟨fun b o h => hb.cell (p := ⟨b, o, none⟩) h, fun b o h => hb.frozen (p := ⟨b, o, none⟩) h⟩

/-- behind a call: what was below B is so still. -/
theorem later_below {B : Nat} {a w w' : World} (h : Below B a w) (hb : Below w.heap.size w w') (hB : B ≤ w.heap.size) : Below B a w' := h.trans (hb.mono hB)

/-- a new block of three cells, behind a call. -/
theorem new3 {w w2 : World} {a b c : Value} {T : TypeId} (hb : Below (w.alloc (.cells #[a, b, c] T)).heap.size (w.alloc (.cells #[a, b, c] T)) w2) :
    w2.cell? ⟨w.heap.size, 0, none⟩ = some a ∧ w2.cell? ⟨w.heap.size, 1, none⟩ = some b ∧ w2.cell? ⟨w.heap.size, 2, none⟩ = some c ∧ w.heap.size < w2.heap.size := by
  have hs : w.heap.size < (w.alloc (.cells #[a, b, c] T)).heap.size := by simp
  refine ⟨?_, ?_, ?_, Nat.lt_of_lt_of_le hs hb.size⟩
  · rw [hb.cell (p := ⟨w.heap.size, 0, none⟩) hs]; simp
  · rw [hb.cell (p := ⟨w.heap.size, 1, none⟩) hs]; simp
  · rw [hb.cell (p := ⟨w.heap.size, 2, none⟩) hs]; simp

/-- the cells of a new block, as an append asks for them. -/
theorem cells_new (w : World) (cs : Array Value) (T : TypeId) : ∀ (j : Nat) (u : Value), cs.toList[j]? = some u → (w.alloc (.cells cs T)).cell? ((⟨w.heap.size, 0, none⟩ : Addr).add j) = some u := by
  intro j u h
  rw [add_head]
  simpa using h

/-- a cell outside the row that grew. -/
theorem grown_cell {w w' : World} {o : Obj} {row : Option Nat} (hg : (w.alloc o).grownBy w' row) {a : Addr} {v : Value} (h : w.cell? a = some v) (hne : some a.block ≠ row) : w'.cell? a = some v := by
  refine hg.cell ?_ hne
  have hlt := World.block_lt_of_cell? w a h
  rw [World.cell?_of_block (Below.heap_alloc w o a.block hlt)]
  exact h

theorem own_ne {w : World} {base : Nat} {e : TypeId} {size : Nat} {v : Value} {n : Nat} {xs : List Value} (h : w.ownsRow base e size v n xs) (k : Nat) (hk : w.heap.size ≤ k) : some k ≠ v.ownBlock := by
  intro e1
  have := (h.lt k e1.symm).2
  omega

/-- below the base nothing has turned, behind an append to an owned row. -/
theorem below_app {B : Nat} {a w w' : World} {o : Obj} {e : TypeId} {size : Nat} {v : Value} {n : Nat} {xs : List Value} (h : Below B a w) (hB : B ≤ w.heap.size) (hown : w.ownsRow B e size v n xs) (hg : (w.alloc o).grownBy w' v.ownBlock) : Below B a w' :=
  (h.alloc hB o).grown hg (by simp; omega) fun k hk => (hown.lt k hk).1

theorem owns_drewN {w : World} {base : Nat} {e : TypeId} {size : Nat} {v : Value} {n : Nat} {xs : List Value} (h : w.ownsRow base e size v n xs) (k : Nat) : (w.drewN k).ownsRow base e size v n xs := h

theorem one3 (a b : Int) (s : ByteArray) : ∀ u ∈ [Value.int .i64 a, Value.int .i64 b, Value.string s], u.oneCell' = true := by
  intro u hu; simp at hu; rcases hu with rfl | rfl | rfl <;> rfl

/-- the cells of a new block behind another one and a draw. -/
theorem cells_new2 (w : World) (o : Obj) (cs : Array Value) (T : TypeId) : ∀ (j : Nat) (u : Value), cs.toList[j]? = some u → ((w.alloc o).alloc (.cells cs T)).drew.cell? ((⟨w.heap.size + 1, 0, none⟩ : Addr).add j) = some u := by
  intro j u h
  have := cells_new (w.alloc o) cs T j u h
  simpa using this

theorem below_app2 {B : Nat} {a w w' : World} {o o2 : Obj} {e : TypeId} {size : Nat} {v : Value} {n : Nat} {xs : List Value} (h : Below B a w) (hB : B ≤ w.heap.size) (hown : w.ownsRow B e size v n xs) (hg : ((w.alloc o).alloc o2).drew.grownBy w' v.ownBlock) : Below B a w' :=
  ((h.alloc hB o).alloc (by simp; omega) o2).drew.grown hg (by simp; omega) fun k hk => (hown.lt k hk).1

/-- two cells of a new block, behind an append to a row that was there. -/
theorem two_cells {w w' : World} {a b : Value} {T : TypeId} {o : Obj} {row : Option Nat} (hg : ((w.alloc (.cells #[a, b] T)).alloc o).grownBy w' row) (hne : some w.heap.size ≠ row) :
    w'.cell? ⟨w.heap.size, 0, none⟩ = some a ∧ w'.cell? ⟨w.heap.size, 1, none⟩ = some b := by
  refine ⟨grown_cell hg ?_ hne, grown_cell hg ?_ hne⟩ <;> simp

theorem grown_size {w w' : World} {o o2 : Obj} {row : Option Nat} (hg : ((w.alloc o).alloc o2).grownBy w' row) : w.heap.size + 1 < w'.heap.size := by
  have := hg.size; simp at this; omega

theorem cells_new2' (w : World) (o : Obj) (cs : Array Value) (T : TypeId) : ∀ (j : Nat) (u : Value), cs.toList[j]? = some u → ((w.alloc o).alloc (.cells cs T)).cell? ((⟨w.heap.size + 1, 0, none⟩ : Addr).add j) = some u := by
  intro j u h
  have := cells_new (w.alloc o) cs T j u h
  simpa using this

theorem below_app2' {B : Nat} {a w w' : World} {o o2 : Obj} {e : TypeId} {size : Nat} {v : Value} {n : Nat} {xs : List Value} (h : Below B a w) (hB : B ≤ w.heap.size) (hown : w.ownsRow B e size v n xs) (hg : ((w.alloc o).alloc o2).grownBy w' v.ownBlock) : Below B a w' :=
  ((h.alloc hB o).alloc (by simp; omega) o2).grown hg (by simp; omega) fun k hk => (hown.lt k hk).1

theorem one1 (k : IntKind) (a : Int) : ∀ u ∈ [Value.int k a], u.oneCell' = true := by
  intro u hu; simp at hu; rcases hu with rfl; rfl

end Rl
end Go.Proofs.Ytjjakgmjoplhoaa
/-
  The two tests of a value of the second type, walked: routelogref.segments and message.isPath.
-/
namespace Go.Proofs.Ytjjakgmjoplhoaa
open Go.RowKit
open Rl

theorem ret_bool {a b : Bool} (h : a = b) : Ending.returned (.bool a) = .returned (.bool b) := by rw [h]

set_option maxHeartbeats 800000 in
theorem segments_any (s : ByteArray) (w : World) (hs : s.size ≤ maxLen) :
    Calls Try.prog 86 #[.string s] w fun e w' => e = .returned (.bool (pathB s.data.toList)) ∧ w' = w := by
  unfold maxLen at hs
  go_enter Try.func86, Try.ntmps86
  go_wp2
  go_loop [0] (fun x => ∃ t : ByteArray, x = .string t ∧ t.size ≤ s.size ∧ pathB t.data.toList = pathB s.data.toList) (fun x => strLen x)
  case atStart => exact ⟨s, rfl, Nat.le_refl _, rfl⟩
  case round =>
    obtain ⟨t, rfl, ht, hp⟩ := hrel
    have HP := hide hp
    clear hp
    by_cases h0 : t.size = 0
    · have hem : t.toList.isEmpty = true := by rw [Lib.toList_data, nil_of_size t h0]; rfl
      have HE := hide (nil_of_size t h0)
      have hz : (t.size : Int) < 2 := by omega
      clear h0
      go_wp2
      go_ret
      exact ⟨ret_bool (by rw [← HP.out, HE.out, pathB_nil]), rfl⟩
    · have hem : t.toList.isEmpty = false := by
        rw [Lib.toList_data]; have := ne_nil_of_size t (by omega)
        revert this; cases t.data.toList <;> simp
      have HN := hide (ne_nil_of_size t (by omega))
      by_cases h2 : t.size < 2
      · have HB := hide (pathB_bad _ HN.out (segOk_false (.inl (by rw [len_data]; exact h2))))
        go_wp2
        go_ret
        exact ⟨ret_bool (by rw [← HP.out, HB.out]), rfl⟩
      · have hb0 := at8_bytes t 0 (by omega)
        have hb1 := at8_bytes t 1 (by omega)
        have hl0 := at8_lt t.data.toList 0
        have hl1 := at8_lt t.data.toList 1
        have Hs := hide (@segOk_false t.data.toList)
        have Ht := hide (@segOk_true t.data.toList)
        have HQ := hide (pathB_step t.data.toList)
        rw [len_data] at Hs Ht
        have hx0 : (0 : Int) < (t.size : Int) := by omega
        have hx1 : (1 : Int) < (t.size : Int) := by omega
        generalize at8 t.data.toList 0 = b0 at *
        generalize at8 t.data.toList 1 = b1 at *
        by_cases hbad : t.size < 2 ∨ b0 < 1 ∨ 2 < b0 ∨ b1 < 1 ∨ t.size < 2 + 4 * b1
        · have HB := hide (pathB_bad _ HN.out (Hs.out hbad))
          clear Hs Ht HQ
          have h4 : b0 < 1 ∨ 2 < b0 ∨ b1 < 1 ∨ t.size < 2 + 4 * b1 := by omega
          clear hbad
          rcases h4 with h | h | h | h
          all_goals
            go_wp2
            all_goals
              go_ret
              exact ⟨ret_bool (by rw [← HP.out, HB.out]), rfl⟩
        · have HB := hide (HQ.out (Ht.out hbad))
          clear Hs Ht HQ
          have h1 : 1 ≤ b0 ∧ b0 ≤ 2 ∧ 1 ≤ b1 ∧ 2 + 4 * b1 ≤ t.size := by omega
          obtain ⟨g1, g2, g3, g4⟩ := h1
          clear hbad
          go_wp2
          go_round
          case rel => exact ⟨_, rfl, by rw [ByteArray.size_extract]; omega, by rw [Lib.extract_to_end, ← HP.out, HB.out]⟩
          case measure => simp only [strLen, ByteArray.size_extract]; omega

end Go.Proofs.Ytjjakgmjoplhoaa
/-
  Prefixes, walked: which are right.
-/
namespace Go.Proofs.Ytjjakgmjoplhoaa
open Go.RowKit
open Rl

theorem bytesFor_any (n : Nat) (w : World) (h : n ≤ 1000) :
    Calls Try.prog 72 #[.int .i64 n] w fun e w' => e = .returned (.int .i64 (many n : Int)) ∧ w' = w := by
  go_enter Try.func72, Try.ntmps72
  go_wp2
  go_ret
  exact ⟨ret_int (by unfold many; omega), rfl⟩

theorem firstBits_any (a n : Int) (w : World) (h0 : 0 ≤ n) (h1 : n ≤ 32) (ha : 0 ≤ a) (ha' : a ≤ 4294967295) :
    Calls Try.prog 73 #[.int .i64 a, .int .i64 n] w fun e w' => e = .returned (.int .i64 (a - a % gap n)) ∧ w' = w := by
  go_enter Try.func73, Try.ntmps73
  go_wp2
  go_ret
  exact ⟨ret_int (div_gap a n h0 ha ha'), rfl⟩

set_option maxHeartbeats 1600000 in
theorem isPrefix_any (a n : Int) (w : World) :
    Calls Try.prog 43 #[.agg #[.int .i64 a, .int .i64 n]] w fun e w' => e = .returned (.bool (pfxOk a n)) ∧ Below w.heap.size w w' := by
  by_cases hout : n < 0 ∨ 32 < n ∨ a < 0 ∨ 4294967295 < a
  · rw [pfxOk_out a n hout]
    rcases hout with h | h | h | h
    all_goals
      go_enter Try.func43, Try.ntmps43
      go_wp2
      all_goals
        go_ret
        exact ⟨rfl, (Below.refl _ _).alloc (Nat.le_refl _) _⟩
  · have hin : 0 ≤ n ∧ n ≤ 32 ∧ 0 ≤ a ∧ a ≤ 4294967295 := by omega
    clear hout
    obtain ⟨h0, h1, ha, ha'⟩ := hin
    rw [pfxOk_in a n h0 h1 ha ha']
    have hw := wrap_gap' n h0
    have hp := gap_pos n
    have hl := gap_le n h0
    have hz : (gap n == 0) = false := by rw [beq_eq_false_iff_ne]; omega
    go_enter Try.func43, Try.ntmps43
    go_wp2
    go_quiet (fail)
    go_wp2
    go_ret
    exact ⟨rfl, below_drewN ((Below.refl _ _).alloc (Nat.le_refl _) _) _⟩

theorem mod_ne (a n : Int) (h : pfxOk a n = false) (h0 : 0 ≤ n) (h1 : n ≤ 32) (ha : 0 ≤ a) (ha' : a ≤ 4294967295) : (a != a - a % gap n) = true := by
  rw [pfxOk_in a n h0 h1 ha ha'] at h
  rw [beq_eq_false_iff_ne] at h
  rw [bne_iff_ne]; omega

theorem mod_eq (a n : Int) (h : pfxOk a n = true) : (a != a - a % gap n) = false := by
  obtain ⟨h0, h1, ha, ha'⟩ := pfxOk_bounds a n h
  rw [pfxOk_in a n h0 h1 ha ha', beq_iff_eq] at h
  rw [bne_eq_false_iff_eq]; omega

set_option maxHeartbeats 4000000 in
theorem arePrefixes_any (v : Value) (l : List (Int × Int)) (w : World) (hx : l.length ≤ 1073741824) (hr : RowAt w v l.length 2 (pfCells l)) :
    Calls Try.prog 59 #[v] w fun e w' => e = .returned (.bool (pfAll l)) ∧ Below w.heap.size w w' := by
  obtain ⟨_, hr⟩ := hr
  rcases hr with ⟨a, c, rfl, hn⟩ | ⟨b, o, cap, rfl, hn, hb, hc⟩
  · have hn0 : l = [] := List.eq_nil_of_length_eq_zero hn
    subst hn0
    go_enter Try.func59, Try.ntmps59
    go_wp2
    refine wp_loop_rounds 1 ?_
    rw [rounds_succ]
    go_wp2
    go_ret
    exact ⟨rfl, Below.refl _ _⟩
  · go_enter Try.func59, Try.ntmps59
    go_wp2
    go_loopw [7] (fun i wr => ∃ k : Nat, k ≤ l.length ∧ i = .int .i64 k ∧ pfAll (l.take k) = true ∧ Below w.heap.size w wr) (fun i _ => l.length - (intOf i).toNat)
    case atStart => exact ⟨0, Nat.zero_le _, rfl, rfl, Below.refl _ _⟩
    case round =>
      obtain ⟨k, hk, rfl, hall, hbel⟩ := hrel
      have HA := hide hall
      clear hall
      by_cases hlt : k < l.length
      · obtain ⟨g1, g2⟩ := pfCells_get l k hlt
        have c1 := (hbel.cell (p := ⟨b, o + k * 2, none⟩) hb).trans (hc _ _ g1)
        have c2 := (hbel.cell (p := ⟨b, o + k * 2 + 1, none⟩) hb).trans (hc _ _ g2)
        have HB := hide (pfAll_take_bad l k hlt)
        have HT := hide (pfAll_take l k hlt HA.out)
        clear hc g1 g2 HA
        obtain ⟨a, ea⟩ : ∃ a, a = l[k].1 := ⟨_, rfl⟩
        obtain ⟨n, en⟩ : ∃ n, n = l[k].2 := ⟨_, rfl⟩
        rw [← ea, ← en] at HB HT
        rw [← ea] at c1
        rw [← en] at c2
        clear ea en
        cases hok : pfxOk a n with
        | true =>
          obtain ⟨h0, h1, ha, ha'⟩ := pfxOk_bounds a n hok
          have hm := mod_eq a n hok
          have HT2 := hide (HT.out hok)
          clear HB HT hok
          have d1 : decide (n < 0) = false := by simp; omega
          have d2 : decide (32 < n) = false := by simp; omega
          have d3 : decide (a < 0) = false := by simp; omega
          have d4 : decide (4294967295 < a) = false := by simp; omega
          go_wp2
          go_quiet ((go_at_call 73; exact Calls.quiet_of_same (firstBits_any _ _ _ h0 h1 ha ha')))
          go_wp2
          exact ⟨⟨k + 1, by omega, by go_num, HT2.out, below_drewN (hbel.alloc hbel.size _) _⟩, by simp [intOf]; omega⟩
        | false =>
          have HB2 := hide (HB.out hok)
          clear HB HT
          by_cases hn0 : n < 0
          · have d1 : decide (n < 0) = true := by simp; omega
            clear hok
            go_wp2
            go_quiet (fail)
            go_wp2
            go_ret
            exact ⟨ret_bool HB2.out.symm, below_drewN (hbel.alloc hbel.size _) _⟩
          · have d1 : decide (n < 0) = false := by simp; omega
            by_cases hn1 : 32 < n
            · have d2 : decide (32 < n) = true := by simp; omega
              clear hok
              go_wp2
              go_quiet (fail)
              go_wp2
              go_ret
              exact ⟨ret_bool HB2.out.symm, below_drewN (hbel.alloc hbel.size _) _⟩
            · have d2 : decide (32 < n) = false := by simp; omega
              by_cases ha0 : a < 0
              · have d3 : decide (a < 0) = true := by simp; omega
                clear hok
                go_wp2
                go_quiet (fail)
                go_wp2
                go_ret
                exact ⟨ret_bool HB2.out.symm, below_drewN (hbel.alloc hbel.size _) _⟩
              · have d3 : decide (a < 0) = false := by simp; omega
                by_cases ha1 : 4294967295 < a
                · have d4 : decide (4294967295 < a) = true := by simp; omega
                  clear hok
                  go_wp2
                  go_quiet (fail)
                  go_wp2
                  go_ret
                  exact ⟨ret_bool HB2.out.symm, below_drewN (hbel.alloc hbel.size _) _⟩
                · have d4 : decide (4294967295 < a) = false := by simp; omega
                  have hm := mod_ne a n hok (by omega) (by omega) (by omega) (by omega)
                  clear hok
                  go_wp2
                  go_quiet ((go_at_call 73; exact Calls.quiet_of_same (firstBits_any _ _ _ (by omega) (by omega) (by omega) (by omega))))
                  go_wp2
                  go_ret
                  exact ⟨ret_bool HB2.out.symm, below_drewN (hbel.alloc hbel.size _) _⟩
      · clear hc
        go_wp2
        go_ret
        exact ⟨ret_bool (by have := HA.out; rw [List.take_of_length_le (by omega)] at this; rw [this]), hbel⟩

end Go.Proofs.Ytjjakgmjoplhoaa
/-
  What Frame answers, as a plain function of the bytes. Nothing of the program is named here.
-/
namespace Go.Proofs.Ytjjakgmjoplhoaa
open Go.RowKit
namespace Rl

/-- is every one of the first 16 bytes (of as many as there are) 255? -/
def marked (l : List UInt8) : Bool := (l.take 16).all (· == 255)

/-- the length that is told in a message's head. -/
def told2 (l : List UInt8) : Int := num ((l.drop 16).take 2)

def fr (l : List UInt8) : Int × Int × Int :=
  if marked l = true then
    if l.length < 18 then (0, 0, 0)
    else if told2 l < 19 ∨ 200 < told2 l then (0, 0, 2)
    else if (l.length : Int) < told2 l then (0, 0, 0)
    else (told2 l, ((l.getD 18 0).toNat : Int), 0)
  else (0, 0, 2)

def frN (l : List UInt8) : Int := (fr l).1
def frK (l : List UInt8) : Int := (fr l).2.1
def frE (l : List UInt8) : Int := (fr l).2.2

theorem fr_unmarked (l : List UInt8) (h : marked l = false) : frN l = 0 ∧ frK l = 0 ∧ frE l = 2 := by
  simp [frN, frK, frE, fr, h]

theorem fr_short (l : List UInt8) (h : marked l = true) (h1 : l.length < 18) : frN l = 0 ∧ frK l = 0 ∧ frE l = 0 := by
  simp [frN, frK, frE, fr, h, h1]

theorem fr_bad (l : List UInt8) (h : marked l = true) (h1 : ¬ l.length < 18) (h2 : told2 l < 19 ∨ 200 < told2 l) : frN l = 0 ∧ frK l = 0 ∧ frE l = 2 := by
  simp [frN, frK, frE, fr, h, h1, h2]

theorem fr_part (l : List UInt8) (h : marked l = true) (h1 : ¬ l.length < 18) (h2 : ¬ (told2 l < 19 ∨ 200 < told2 l)) (h3 : (l.length : Int) < told2 l) : frN l = 0 ∧ frK l = 0 ∧ frE l = 0 := by
  unfold frN frK frE fr
  rw [if_pos h, if_neg h1, if_neg h2, if_pos h3]; exact ⟨rfl, rfl, rfl⟩

theorem fr_whole (l : List UInt8) (h : marked l = true) (h1 : ¬ l.length < 18) (h2 : ¬ (told2 l < 19 ∨ 200 < told2 l)) (h3 : ¬ (l.length : Int) < told2 l) : frN l = told2 l ∧ frK l = ((l.getD 18 0).toNat : Int) ∧ frE l = 0 := by
  unfold frN frK frE fr
  rw [if_pos h, if_neg h1, if_neg h2, if_neg h3]; exact ⟨rfl, rfl, rfl⟩

theorem prefix_replicate : ∀ (n : Nat) (l : List UInt8), (List.replicate n 255 : List UInt8).length ≥ l.length → (l.isPrefixOf (List.replicate n (255 : UInt8)) = l.all (· == 255)) := by
  intro n
  induction n with
  | zero => intro l h; have e : l = [] := List.eq_nil_of_length_eq_zero (by simp at h; simpa using h)
            subst e; rfl
  | succ n ih =>
    intro l h
    cases l with
    | nil => rfl
    | cons c r =>
      rw [List.replicate_succ, List.isPrefixOf_cons_cons, ih r (by simp at h ⊢; omega), List.all_cons]

/-- the marks that a message begins with. -/
def mark16 : List UInt8 := List.replicate 16 255

theorem has_marks (l : List UInt8) : Lib.hasPrefix mark16 (l.take 16) = marked l := by
  unfold Lib.hasPrefix mark16 marked
  exact prefix_replicate 16 _ (by simp; omega)

theorem has_marks_short (l : List UInt8) (h : l.length ≤ 16) : Lib.hasPrefix mark16 l = marked l := by
  have := has_marks l
  rwa [List.take_of_length_le h] at this

/-- the first k bytes are 255. -/
def upTo (s : ByteArray) (k : Nat) : Prop := ∀ j (h : j < s.size), j < k → s[j] = 255

theorem upTo_zero (s : ByteArray) : upTo s 0 := fun _ _ h => absurd h (by omega)

theorem upTo_succ (s : ByteArray) (k : Nat) (h : k < s.size) (hu : upTo s k) (hb : s[k] = 255) : upTo s (k + 1) := by
  intro j hj hk
  by_cases e : j = k
  · subst e; exact hb
  · exact hu j hj (by omega)

theorem marked_iff (s : ByteArray) : marked s.data.toList = true ↔ upTo s 16 := by
  unfold marked upTo
  rw [List.all_eq_true]
  constructor
  · intro h j hj hk
    have e : s[j] = s.data.toList[j]'(by simpa using hj) := by rfl
    have m : s.data.toList[j]'(by simpa using hj) ∈ s.data.toList.take 16 := by
      rw [List.mem_take_iff_getElem]
      exact ⟨j, by simp; omega, rfl⟩
    have := h _ m
    rw [e]; simpa using this
  · intro h x hx
    rw [List.mem_take_iff_getElem] at hx
    obtain ⟨j, hj, rfl⟩ := hx
    have h2 : j < s.size := by simp at hj; omega
    have h3 : s[j] = 255 := h j h2 (by omega)
    have e : s[j] = s.data.toList[j]'(by simpa using h2) := by rfl
    rw [← e, h3]; rfl

theorem marked_end (s : ByteArray) (k : Nat) (hu : upTo s k) (h : ¬ k < s.size ∨ ¬ k < 16) : marked s.data.toList = true := by
  rw [marked_iff]
  intro j hj h16
  exact hu j hj (by omega)

end Rl
end Go.Proofs.Ytjjakgmjoplhoaa
/-
  The two Frames, walked: routelogref.Frame and message.Frame answer the same three numbers of every text.
-/
namespace Go.Proofs.Ytjjakgmjoplhoaa
open Go.RowKit
open Rl

theorem fin3 {a b c a' b' c' : Int} (h : a' = a ∧ b' = b ∧ c' = c) : Ending.returned (.tuple #[.int .i64 a, .int .i64 b, .int .i64 c]) = Ending.returned (.tuple #[.int .i64 a', .int .i64 b', .int .i64 c']) := by
  obtain ⟨rfl, rfl, rfl⟩ := h; rfl

theorem extract_marks (s : ByteArray) : ((s.extract 0 (min (s.size : Int) 16).toNat).data.toList) = s.data.toList.take 16 := by
  rw [Lib.extract_data]
  have e : s.data.toList.length = s.size := by simp
  by_cases h : s.size ≤ 16
  · have e1 : (min (s.size : Int) 16).toNat = s.size := by omega
    rw [e1, List.take_of_length_le (l := s.data.toList) (by omega), Nat.sub_zero, List.drop_zero, List.take_of_length_le (by omega)]
  · have e1 : (min (s.size : Int) 16).toNat = 16 := by omega
    rw [e1]; simp

theorem marks_call (s : ByteArray) (w : World) (b : Bool) (hb : marked s.data.toList = b) :
    Calls Try.prog 51 #[.string { data := #[255, 255, 255, 255, 255, 255, 255, 255, 255, 255, 255, 255, 255, 255, 255, 255] }, .string (s.extract 0 (min (s.size : Int) 16).toNat)] w fun e w' => e = .returned (.bool b) ∧ w' = w := by
  refine (Try.strings_HasPrefix _ _ w).mono ?_
  rintro e w' ⟨he, hw⟩
  refine ⟨?_, hw⟩
  rw [he, extract_marks, ← hb, ← has_marks]; rfl

theorem told2_call (s : ByteArray) (w : World) (h : ¬ s.size < 18) :
    Calls Try.prog 52 #[.string (s.extract 16 18)] w fun e w' => e = .returned (.int .i64 (told2 s.data.toList)) ∧ w' = w := by
  refine (read_any _ w (by rw [ByteArray.size_extract]; omega)).mono ?_
  rintro e w' ⟨he, hw⟩
  refine ⟨?_, hw⟩
  rw [he, Lib.extract_data]; rfl

theorem told2_ref (s : ByteArray) (w : World) (h : ¬ s.size < 18) :
    Calls Try.prog 34 #[.string (s.extract 16 18)] w fun e w' => e = .returned (.int .i64 (told2 s.data.toList)) ∧ w' = w := by
  refine (number_any _ w (by rw [ByteArray.size_extract]; omega)).mono ?_
  rintro e w' ⟨he, hw⟩
  refine ⟨?_, hw⟩
  rw [he, Lib.extract_data]; rfl

theorem told2_bound (l : List UInt8) : 0 ≤ told2 l ∧ told2 l < 65536 := by
  refine ⟨num_nonneg _, ?_⟩
  have h := num_lt 2 ((l.drop 16).take 2) (by rw [List.length_take]; omega)
  have e : (256 : Int) ^ 2 = 65536 := by decide
  unfold told2; omega

theorem ret18 (s : ByteArray) (h : 18 < s.size) : wrap64 (s[18].toNat : Int) = ((s.data.toList.getD 18 0).toNat : Int) := by
  rw [wrap64_byte]
  have e : s.data.toList.getD 18 0 = s[18] := by
    rw [List.getD_eq_getElem?_getD, List.getElem?_eq_getElem (by simpa using h)]; rfl
  rw [e]

set_option maxHeartbeats 400000 in
theorem frame_any (s : ByteArray) (w : World) (hs : s.size ≤ maxLen) :
    Calls Try.prog 33 #[.string s] w fun e w' => e = .returned (.tuple #[.int .i64 (frN s.data.toList), .int .i64 (frK s.data.toList), .int .i64 (frE s.data.toList)]) ∧ Below w.heap.size w w' := by
  unfold maxLen at hs
  cases hm : marked s.data.toList with
  | false =>
    have H := hide (fr_unmarked _ hm)
    go_enter Try.func33, Try.ntmps33
    go_wp2_with (go_at_call 51; refine (marks_call s _ _ hm).mono ?_; rintro e w' ⟨rfl, rfl⟩)
    go_ret3
    exact ⟨fin3 H.out, Below.refl _ _⟩
  | true =>
    by_cases h18 : s.size < 18
    · have H := hide (fr_short _ hm (by simpa using h18))
      go_enter Try.func33, Try.ntmps33
      go_wp2_with (go_at_call 51; refine (marks_call s _ _ hm).mono ?_; rintro e w' ⟨rfl, rfl⟩)
      go_ret3
      exact ⟨fin3 H.out, Below.refl _ _⟩
    · obtain ⟨hb0, hb1⟩ := told2_bound s.data.toList
      go_enter Try.func33, Try.ntmps33
      go_wp2_with (first | (go_at_call 51; refine (marks_call s _ _ hm).mono ?_; rintro e w' ⟨rfl, rfl⟩) | (go_at_call 52; refine (told2_call s _ h18).mono ?_; rintro e w' ⟨rfl, rfl⟩))
      · have hx : told2 s.data.toList < 19 ∨ 200 < told2 s.data.toList := by assumption
        have H := hide (fr_bad _ hm (by simpa using h18) hx)
        go_ret3
        exact ⟨fin3 H.out, Below.refl _ _⟩
      · have hx : ¬ (told2 s.data.toList < 19 ∨ 200 < told2 s.data.toList) := by omega
        have H := hide (fr_part _ hm (by simpa using h18) hx (by simpa using ‹(s.size : Int) < told2 s.data.toList›))
        go_ret3
        exact ⟨fin3 H.out, Below.refl _ _⟩
      · have hx : ¬ (told2 s.data.toList < 19 ∨ 200 < told2 s.data.toList) := by omega
        have h19 : (18 : Int) < (s.size : Int) := by omega
        have H : Hid (frN s.data.toList = told2 s.data.toList ∧ frK s.data.toList = ((s.data.toList.getD 18 0).toNat : Int) ∧ frE s.data.toList = 0) := fr_whole _ hm (by simpa using h18) hx (by have := ‹told2 s.data.toList ≤ (s.size : Int)›; simp; omega)
        go_quiet (fail)
        go_wp2
        go_ret3
        refine ⟨?_, below_drewN (Below.refl _ _) _⟩
        obtain ⟨e1, e2, e3⟩ := H.out
        exact fin3 ⟨e1, e2.trans (ret18 s (by omega)).symm, e3⟩
      · have H := hide (fr_bad _ hm (by simpa using h18) (.inl ‹told2 s.data.toList < 19›))
        go_ret3
        exact ⟨fin3 H.out, Below.refl _ _⟩

set_option maxHeartbeats 400000 in
theorem frameref_any (s : ByteArray) (w : World) (hs : s.size ≤ maxLen) :
    Calls Try.prog 11 #[.string s] w fun e w' => e = .returned (.tuple #[.int .i64 (frN s.data.toList), .int .i64 (frK s.data.toList), .int .i64 (frE s.data.toList)]) ∧ Below w.heap.size w w' := by
  unfold maxLen at hs
  go_enter Try.func11, Try.ntmps11
  go_wp2
  go_loop [5] (fun i => ∃ k : Nat, k ≤ s.size ∧ k ≤ 16 ∧ i = .int .i64 k ∧ upTo s k) (fun i => s.size - (intOf i).toNat)
  case atStart => exact ⟨0, by omega, by omega, rfl, upTo_zero s⟩
  case round =>
    obtain ⟨k, hk, hk16, rfl, hu⟩ := hrel
    by_cases hc : k < s.size ∧ k < 16
    · obtain ⟨hlt, h16⟩ := hc
      by_cases hb : s[k] = 255
      · have hb' : (s[k].toNat : Int) = 255 := by rw [hb]; rfl
        go_wp2
        go_round
        case rel => exact ⟨k + 1, by omega, by omega, by go_num, upTo_succ s k hlt hu hb⟩
        case measure => simp [intOf]; omega
      · have hb' : ((s[k].toNat : Int) != 255) = true := by
          rw [bne_iff_ne]; intro e; apply hb; apply UInt8.toNat_inj.1; simpa using (by omega : s[k].toNat = 255)
        have hm : marked s.data.toList = false := by
          rw [Bool.eq_false_iff]; intro e; rw [marked_iff] at e; exact hb (e k hlt h16)
        have H := hide (fr_unmarked _ hm)
        go_wp2
        go_ret3
        exact ⟨fin3 H.out, Below.refl _ _⟩
    · have hm := marked_end s k hu (by omega)
      obtain ⟨hb0, hb1⟩ := told2_bound s.data.toList
      clear hu
      by_cases h18 : s.size < 18
      · have H := hide (fr_short _ hm (by simpa using h18))
        by_cases hlt : k < s.size
        all_goals
          go_wp2
          go_ret3
          exact ⟨fin3 H.out, Below.refl _ _⟩
      · have hlt : k < s.size := by omega
        go_wp2_with (go_at_call 34; refine (told2_ref s _ h18).mono ?_; rintro e w' ⟨rfl, rfl⟩)
        · have hx : told2 s.data.toList < 19 ∨ 200 < told2 s.data.toList := by assumption
          have H := hide (fr_bad _ hm (by simpa using h18) hx)
          go_ret3
          exact ⟨fin3 H.out, Below.refl _ _⟩
        · have hx : ¬ (told2 s.data.toList < 19 ∨ 200 < told2 s.data.toList) := by omega
          have H := hide (fr_part _ hm (by simpa using h18) hx (by simpa using ‹(s.size : Int) < told2 s.data.toList›))
          go_ret3
          exact ⟨fin3 H.out, Below.refl _ _⟩
        · have hx : ¬ (told2 s.data.toList < 19 ∨ 200 < told2 s.data.toList) := by omega
          have h19 : (18 : Int) < (s.size : Int) := by omega
          have H : Hid (frN s.data.toList = told2 s.data.toList ∧ frK s.data.toList = ((s.data.toList.getD 18 0).toNat : Int) ∧ frE s.data.toList = 0) := fr_whole _ hm (by simpa using h18) hx (by have := ‹told2 s.data.toList ≤ (s.size : Int)›; simp; omega)
          go_quiet (fail)
          go_wp2
          go_ret3
          refine ⟨?_, below_drewN (Below.refl _ _) _⟩
          obtain ⟨e1, e2, e3⟩ := H.out
          exact fin3 ⟨e1, e2.trans (ret18 s (by omega)).symm, e3⟩
        · have H := hide (fr_bad _ hm (by simpa using h18) (.inl ‹told2 s.data.toList < 19›))
          go_ret3
          exact ⟨fin3 H.out, Below.refl _ _⟩

end Go.Proofs.Ytjjakgmjoplhoaa
/-
  message.isPath, walked: is a text segments, one behind the other?
-/
namespace Go.Proofs.Ytjjakgmjoplhoaa
open Go.RowKit
open Rl

set_option maxHeartbeats 800000 in
theorem isPath_any (s : ByteArray) (w : World) (hs : s.size ≤ maxLen) :
    Calls Try.prog 91 #[.string s] w fun e w' => e = .returned (.bool (pathB s.data.toList)) ∧ w' = w := by
  unfold maxLen at hs
  go_enter Try.func91, Try.ntmps91
  go_wp2
  go_step3
  go_wp2
  go_step3
  go_wp2
  go_loop [0] (fun x => ∃ t : ByteArray, x = .string t ∧ t.size ≤ s.size ∧ pathB t.data.toList = pathB s.data.toList) (fun x => strLen x)
  case atStart => exact ⟨s, rfl, Nat.le_refl _, rfl⟩
  case round =>
    obtain ⟨t, rfl, ht, hp⟩ := hrel
    have HP := hide hp
    clear hp
    by_cases h0 : t.size = 0
    · have hem : t.toList.isEmpty = true := by rw [Lib.toList_data, nil_of_size t h0]; rfl
      have HE := hide (nil_of_size t h0)
      have hz : (t.size : Int) < 2 := by omega
      clear h0
      go_wp2
      try rw [Exit.noGoto_ret]
      go_ret
      exact ⟨ret_bool (by rw [← HP.out, HE.out, pathB_nil]), rfl⟩
    · have hem : t.toList.isEmpty = false := by
        rw [Lib.toList_data]; have := ne_nil_of_size t (by omega)
        revert this; cases t.data.toList <;> simp
      have HN := hide (ne_nil_of_size t (by omega))
      by_cases h2 : t.size < 2
      · have HB := hide (pathB_bad _ HN.out (segOk_false (.inl (by rw [len_data]; exact h2))))
        go_wp2
        try rw [Exit.noGoto_ret]
        go_ret
        exact ⟨ret_bool (by rw [← HP.out, HB.out]), rfl⟩
      · have hb0 := at8_bytes t 0 (by omega)
        have hb1 := at8_bytes t 1 (by omega)
        have hl0 := at8_lt t.data.toList 0
        have hl1 := at8_lt t.data.toList 1
        have Hs := hide (@segOk_false t.data.toList)
        have Ht := hide (@segOk_true t.data.toList)
        have HQ := hide (pathB_step t.data.toList)
        rw [len_data] at Hs Ht
        have hx0 : (0 : Int) < (t.size : Int) := by omega
        have hx1 : (1 : Int) < (t.size : Int) := by omega
        generalize at8 t.data.toList 0 = b0 at *
        generalize at8 t.data.toList 1 = b1 at *
        by_cases hbad : t.size < 2 ∨ b0 < 1 ∨ 2 < b0 ∨ b1 < 1 ∨ t.size < 2 + 4 * b1
        · have HB := hide (pathB_bad _ HN.out (Hs.out hbad))
          clear Hs Ht HQ
          have h4 : b0 < 1 ∨ 2 < b0 ∨ b1 < 1 ∨ t.size < 2 + 4 * b1 := by omega
          clear hbad
          rcases h4 with h | h | h | h
          all_goals
            go_wp2
            all_goals
              try rw [Exit.noGoto_ret]
              go_ret
              exact ⟨ret_bool (by rw [← HP.out, HB.out]), rfl⟩
        · have HB := hide (HQ.out (Ht.out hbad))
          clear Hs Ht HQ
          have h1 : 1 ≤ b0 ∧ b0 ≤ 2 ∧ 1 ≤ b1 ∧ 2 + 4 * b1 ≤ t.size := by omega
          obtain ⟨g1, g2, g3, g4⟩ := h1
          clear hbad
          have e2 : ((2 + 4 * (b1 : Int)) == 2) = false := by rw [beq_eq_false_iff_ne]; omega
          go_wp2
          all_goals
            refine ⟨?rel, ?measure⟩
            case rel => exact ⟨_, rfl, by rw [ByteArray.size_extract]; omega, by rw [Lib.extract_to_end, ← HP.out, HB.out]⟩
            case measure => simp only [strLen, ByteArray.size_extract]; omega

end Go.Proofs.Ytjjakgmjoplhoaa
