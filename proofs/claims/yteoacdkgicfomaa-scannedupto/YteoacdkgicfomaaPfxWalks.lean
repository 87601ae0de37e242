/-
  Prefixes, walked: which are right.
-/
import Derived.Test.YteoacdkgicfomaaNumWalks
import Derived.Test.YteoacdkgicfomaaPfxMath
import Derived.Test.YteoacdkgicfomaaBeWalks
import Derived.Test.YteoacdkgicfomaaRowAt
import Derived.Test.YteoacdkgicfomaaPathWalks
import Derived.Deep.QuietTactic
import Derived.BigQuiet
import Derived.Laws.ShiftsVar
namespace Go.Proofs.Yteoacdkgicfomaa
open Go.RowKit
open Rl

theorem bytesFor_any (n : Nat) (w : World) (h : n ≤ 1000) :
    Calls Try.prog 72 #[.int .i64 n] w fun e w' => e = .returned (.int .i64 (many n : Int)) ∧ w' = w := by
  go_enter Try.func72, Try.ntmps72
  go_wp2
  go_ret
  exact ⟨ret_int (by unfold many; omega), rfl⟩

theorem firstBits_any (a n : Int) (w : World) (h0 : 0 ≤ n) (h1 : n ≤ 32) (ha : 0 ≤ a) (ha' : a ≤ 4294967295) :
    Calls Try.prog 73 #[.int .i64 a, .int .i64 n] w fun e w' => e = .returned (.int .i64 (a - a % gap n)) ∧ w' = w := by
  go_enter Try.func73, Try.ntmps73
  go_wp2
  go_ret
  exact ⟨ret_int (div_gap a n h0 ha ha'), rfl⟩

set_option maxHeartbeats 1600000 in
theorem isPrefix_any (a n : Int) (w : World) :
    Calls Try.prog 43 #[.agg #[.int .i64 a, .int .i64 n]] w fun e w' => e = .returned (.bool (pfxOk a n)) ∧ Below w.heap.size w w' := by
  by_cases hout : n < 0 ∨ 32 < n ∨ a < 0 ∨ 4294967295 < a
  · rw [pfxOk_out a n hout]
    rcases hout with h | h | h | h
    all_goals
      go_enter Try.func43, Try.ntmps43
      go_wp2
      all_goals
        go_ret
        exact ⟨rfl, (Below.refl _ _).alloc (Nat.le_refl _) _⟩
  · have hin : 0 ≤ n ∧ n ≤ 32 ∧ 0 ≤ a ∧ a ≤ 4294967295 := by omega
    clear hout
    obtain ⟨h0, h1, ha, ha'⟩ := hin
    rw [pfxOk_in a n h0 h1 ha ha']
    have hw := wrap_gap' n h0
    have hp := gap_pos n
    have hl := gap_le n h0
    have hz : (gap n == 0) = false := by rw [beq_eq_false_iff_ne]; omega
    go_enter Try.func43, Try.ntmps43
    go_wp2
    go_quiet (fail)
    go_wp2
    go_ret
    exact ⟨rfl, below_drewN ((Below.refl _ _).alloc (Nat.le_refl _) _) _⟩

theorem mod_ne (a n : Int) (h : pfxOk a n = false) (h0 : 0 ≤ n) (h1 : n ≤ 32) (ha : 0 ≤ a) (ha' : a ≤ 4294967295) : (a != a - a % gap n) = true := by
  rw [pfxOk_in a n h0 h1 ha ha'] at h
  rw [beq_eq_false_iff_ne] at h
  rw [bne_iff_ne]; omega

theorem mod_eq (a n : Int) (h : pfxOk a n = true) : (a != a - a % gap n) = false := by
  obtain ⟨h0, h1, ha, ha'⟩ := pfxOk_bounds a n h
  rw [pfxOk_in a n h0 h1 ha ha', beq_iff_eq] at h
  rw [bne_eq_false_iff_eq]; omega

set_option maxHeartbeats 4000000 in
theorem arePrefixes_any (v : Value) (l : List (Int × Int)) (w : World) (hx : l.length ≤ 1073741824) (hr : RowAt w v l.length 2 (pfCells l)) :
    Calls Try.prog 59 #[v] w fun e w' => e = .returned (.bool (pfAll l)) ∧ Below w.heap.size w w' := by
  obtain ⟨_, hr⟩ := hr
  rcases hr with ⟨a, c, rfl, hn⟩ | ⟨b, o, cap, rfl, hn, hb, hc⟩
  · have hn0 : l = [] := List.eq_nil_of_length_eq_zero hn
    subst hn0
    go_enter Try.func59, Try.ntmps59
    go_wp2
    refine wp_loop_rounds 1 ?_
    rw [rounds_succ]
    go_wp2
    go_ret
    exact ⟨rfl, Below.refl _ _⟩
  · go_enter Try.func59, Try.ntmps59
    go_wp2
    go_loopw [7] (fun i wr => ∃ k : Nat, k ≤ l.length ∧ i = .int .i64 k ∧ pfAll (l.take k) = true ∧ Below w.heap.size w wr) (fun i _ => l.length - (intOf i).toNat)
    case atStart => exact ⟨0, Nat.zero_le _, rfl, rfl, Below.refl _ _⟩
    case round =>
      obtain ⟨k, hk, rfl, hall, hbel⟩ := hrel
      have HA := hide hall
      clear hall
      by_cases hlt : k < l.length
      · obtain ⟨g1, g2⟩ := pfCells_get l k hlt
        have c1 := (hbel.cell (p := ⟨b, o + k * 2, none⟩) hb).trans (hc _ _ g1)
        have c2 := (hbel.cell (p := ⟨b, o + k * 2 + 1, none⟩) hb).trans (hc _ _ g2)
        have HB := hide (pfAll_take_bad l k hlt)
        have HT := hide (pfAll_take l k hlt HA.out)
        clear hc g1 g2 HA
        obtain ⟨a, ea⟩ : ∃ a, a = l[k].1 := ⟨_, rfl⟩
        obtain ⟨n, en⟩ : ∃ n, n = l[k].2 := ⟨_, rfl⟩
        rw [← ea, ← en] at HB HT
        rw [← ea] at c1
        rw [← en] at c2
        clear ea en
        cases hok : pfxOk a n with
        | true =>
          obtain ⟨h0, h1, ha, ha'⟩ := pfxOk_bounds a n hok
          have hm := mod_eq a n hok
          have HT2 := hide (HT.out hok)
          clear HB HT hok
          have d1 : decide (n < 0) = false := by simp; omega
          have d2 : decide (32 < n) = false := by simp; omega
          have d3 : decide (a < 0) = false := by simp; omega
          have d4 : decide (4294967295 < a) = false := by simp; omega
          go_wp2
          go_quiet ((go_at_call 73; exact Calls.quiet_of_same (firstBits_any _ _ _ h0 h1 ha ha')))
          go_wp2
          exact ⟨⟨k + 1, by omega, by go_num, HT2.out, below_drewN (hbel.alloc hbel.size _) _⟩, by simp [intOf]; omega⟩
        | false =>
          have HB2 := hide (HB.out hok)
          clear HB HT
          by_cases hn0 : n < 0
          · have d1 : decide (n < 0) = true := by simp; omega
            clear hok
            go_wp2
            go_quiet (fail)
            go_wp2
            go_ret
            exact ⟨ret_bool HB2.out.symm, below_drewN (hbel.alloc hbel.size _) _⟩
          · have d1 : decide (n < 0) = false := by simp; omega
            by_cases hn1 : 32 < n
            · have d2 : decide (32 < n) = true := by simp; omega
              clear hok
              go_wp2
              go_quiet (fail)
              go_wp2
              go_ret
              exact ⟨ret_bool HB2.out.symm, below_drewN (hbel.alloc hbel.size _) _⟩
            · have d2 : decide (32 < n) = false := by simp; omega
              by_cases ha0 : a < 0
              · have d3 : decide (a < 0) = true := by simp; omega
                clear hok
                go_wp2
                go_quiet (fail)
                go_wp2
                go_ret
                exact ⟨ret_bool HB2.out.symm, below_drewN (hbel.alloc hbel.size _) _⟩
              · have d3 : decide (a < 0) = false := by simp; omega
                by_cases ha1 : 4294967295 < a
                · have d4 : decide (4294967295 < a) = true := by simp; omega
                  clear hok
                  go_wp2
                  go_quiet (fail)
                  go_wp2
                  go_ret
                  exact ⟨ret_bool HB2.out.symm, below_drewN (hbel.alloc hbel.size _) _⟩
                · have d4 : decide (4294967295 < a) = false := by simp; omega
                  have hm := mod_ne a n hok (by omega) (by omega) (by omega) (by omega)
                  clear hok
                  go_wp2
                  go_quiet ((go_at_call 73; exact Calls.quiet_of_same (firstBits_any _ _ _ (by omega) (by omega) (by omega) (by omega))))
                  go_wp2
                  go_ret
                  exact ⟨ret_bool HB2.out.symm, below_drewN (hbel.alloc hbel.size _) _⟩
      · clear hc
        go_wp2
        go_ret
        exact ⟨ret_bool (by have := HA.out; rw [List.take_of_length_le (by omega)] at this; rw [this]), hbel⟩

end Go.Proofs.Yteoacdkgicfomaa
