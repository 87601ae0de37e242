/-
  The table of known types, walked: routelogref.known and right, message.flagsOf and valueFits.
-/
import Derived.Test.YteoacdkgicfomaaPathOwn
import Derived.Test.YteoacdkgicfomaaAttrMath
namespace Go.Proofs.Yteoacdkgicfomaa
open Go.RowKit
open Rl

set_option maxHeartbeats 800000 in
theorem known_any (k : Int) (w : World) :
    Calls Try.prog 64 #[.int .i64 k] w fun e w' => e = .returned (.int .i64 (flagsI k)) ∧ w' = w := by
  cases h : knownB k with
  | true =>
    rcases known_cases k h with rfl | rfl | rfl | rfl | rfl | rfl | rfl
    all_goals
      go_enter Try.func64, Try.ntmps64
      go_wp2
      go_ret
      exact ⟨rfl, rfl⟩
  | false =>
    have hk := unknown_cases k h
    rw [flagsI_unknown k h]
    clear h
    have e1 : (k == 1) = false := by rw [beq_eq_false_iff_ne]; omega
    have e2 : (k == 2) = false := by rw [beq_eq_false_iff_ne]; omega
    have e3 : (k == 3) = false := by rw [beq_eq_false_iff_ne]; omega
    have e4 : (k == 4) = false := by rw [beq_eq_false_iff_ne]; omega
    have e6 : (k == 6) = false := by rw [beq_eq_false_iff_ne]; omega
    have e7 : (k == 7) = false := by rw [beq_eq_false_iff_ne]; omega
    have e8 : (k == 8) = false := by rw [beq_eq_false_iff_ne]; omega
    clear hk
    go_enter Try.func64, Try.ntmps64
    go_wp2
    go_ret
    exact ⟨rfl, rfl⟩

theorem flagsOf_known (k : Int) (w : World) (h : knownB k = true) :
    Calls Try.prog 76 #[.int .i64 k] w fun e w' => e = .returned (.tuple #[.int .i64 (flagsI k), .bool true]) ∧ w' = w := by
  rcases known_cases k h with rfl | rfl | rfl | rfl | rfl | rfl | rfl
  all_goals
    go_enter Try.func76, Try.ntmps76
    go_wp2
    go_ret2
    exact ⟨rfl, rfl⟩

theorem flagsOf_unknown (k : Int) (w : World) (h : knownB k = false) :
    Calls Try.prog 76 #[.int .i64 k] w fun e w' => e = .returned (.tuple #[.int .i64 0, .bool false]) ∧ w' = w := by
  have hk := unknown_cases k h
  clear h
  have e1 : (k == 1) = false := by rw [beq_eq_false_iff_ne]; omega
  have e2 : (k == 2) = false := by rw [beq_eq_false_iff_ne]; omega
  have e3 : (k == 3) = false := by rw [beq_eq_false_iff_ne]; omega
  have e4 : (k == 4) = false := by rw [beq_eq_false_iff_ne]; omega
  have e6 : (k == 6) = false := by rw [beq_eq_false_iff_ne]; omega
  have e7 : (k == 7) = false := by rw [beq_eq_false_iff_ne]; omega
  have e8 : (k == 8) = false := by rw [beq_eq_false_iff_ne]; omega
  clear hk
  go_enter Try.func76, Try.ntmps76
  go_wp2
  go_ret2
  exact ⟨rfl, rfl⟩

theorem right_one (v : ByteArray) : rightB 1 v = decide (v.size = 1 ∧ at8 v.data.toList 0 ≤ 2) := by simp [rightB]
theorem right_two (v : ByteArray) : rightB 2 v = pathB v.data.toList := by simp [rightB]
theorem right_four (k : Int) (v : ByteArray) (h : k = 3 ∨ k = 4) : rightB k v = decide (v.size = 4) := by rcases h with rfl | rfl <;> simp [rightB]
theorem right_six (v : ByteArray) : rightB 6 v = decide (v.size = 0) := by simp [rightB]
theorem right_seven (v : ByteArray) : rightB 7 v = decide (v.size = 8) := by simp [rightB]
theorem right_eight (v : ByteArray) : rightB 8 v = decide (4 ≤ v.size ∧ v.size % 4 = 0) := by simp [rightB]

theorem isEmpty_size (v : ByteArray) : v.toList.isEmpty = decide (v.size = 0) := by
  rw [Lib.toList_data]
  by_cases h : v.size = 0
  · rw [nil_of_size v h]; simp [h]
  · have := ne_nil_of_size v (by omega)
    revert this
    cases v.data.toList <;> simp [h]

theorem int_size (v : ByteArray) (n : Nat) : ((v.size : Int) == (n : Int)) = decide (v.size = n) := by
  rw [Bool.eq_iff_iff]; simp; omega

theorem mod_size (v : ByteArray) (h : 4 ≤ v.size) : ((v.size : Int) % 4 == 0) = decide (4 ≤ v.size ∧ v.size % 4 = 0) := by
  rw [Bool.eq_iff_iff]; simp; omega

theorem mod_size' (v : ByteArray) (h : ¬ v.size = 0) : ((v.size : Int) % 4 == 0) = decide (4 ≤ v.size ∧ v.size % 4 = 0) := by
  rw [Bool.eq_iff_iff]; simp; omega

set_option maxHeartbeats 1600000 in
theorem right_any (k : Int) (v : ByteArray) (w : World) (hv : v.size ≤ maxLen) (h : knownB k = true) :
    Calls Try.prog 65 #[.int .i64 k, .string v] w fun e w' => e = .returned (.bool (rightB k v)) ∧ w' = w := by
  have hv' := hv
  unfold maxLen at hv
  rcases known_cases k h with rfl | rfl | rfl | rfl | rfl | rfl | rfl
  · clear h
    by_cases h1 : v.size = 1
    · have h0 : 0 < v.size := by omega
      have hb := at8_bytes v 0 h0
      have hx : (0 : Int) < (v.size : Int) := by omega
      have H := hide (right_one v)
      have hs : ((v.size : Int) == 1) = true := by rw [beq_iff_eq]; omega
      have H1 := hide h1
      clear h1
      generalize at8 v.data.toList 0 = b at *
      go_enter Try.func65, Try.ntmps65
      go_wp2
      all_goals
        go_ret
        refine ⟨ret_bool ?_, rfl⟩
        rw [H.out]
        simp [H1.out]; omega
    · have hs : ((v.size : Int) == 1) = false := by rw [beq_eq_false_iff_ne]; omega
      rw [right_one]
      have H1 := hide h1
      clear h1
      go_enter Try.func65, Try.ntmps65
      go_wp2
      go_ret
      refine ⟨ret_bool ?_, rfl⟩
      simp [H1.out]
  · clear h
    rw [right_two]
    go_enter Try.func65, Try.ntmps65
    go_wp2_with (go_at_call 86; refine (segments_any v _ hv').mono ?_; rintro e w' ⟨rfl, rfl⟩)
    go_ret
    exact ⟨rfl, rfl⟩
  · clear h
    rw [right_four _ _ (.inl rfl)]
    go_enter Try.func65, Try.ntmps65
    go_wp2
    go_ret
    exact ⟨ret_bool (int_size v 4), rfl⟩
  · clear h
    rw [right_four _ _ (.inr rfl)]
    go_enter Try.func65, Try.ntmps65
    go_wp2
    go_ret
    exact ⟨ret_bool (int_size v 4), rfl⟩
  · clear h
    rw [right_six]
    go_enter Try.func65, Try.ntmps65
    go_wp2
    go_ret
    exact ⟨ret_bool (isEmpty_size v), rfl⟩
  · clear h
    rw [right_seven]
    go_enter Try.func65, Try.ntmps65
    go_wp2
    go_ret
    exact ⟨ret_bool (int_size v 8), rfl⟩
  · clear h
    rw [right_eight]
    by_cases h4 : 4 ≤ v.size
    · have H4 := hide h4
      go_enter Try.func65, Try.ntmps65
      go_wp2
      go_ret
      exact ⟨ret_bool (mod_size v H4.out), rfl⟩
    · have H4 := hide h4
      go_enter Try.func65, Try.ntmps65
      go_wp2
      go_ret
      exact ⟨ret_bool (by simp), rfl⟩

set_option maxHeartbeats 1600000 in
theorem valueFits_any (k : Int) (v : ByteArray) (w : World) (hv : v.size ≤ maxLen) (h : knownB k = true) :
    Calls Try.prog 77 #[.int .i64 k, .string v] w fun e w' => e = .returned (.bool (rightB k v)) ∧ w' = w := by
  have hv' := hv
  unfold maxLen at hv
  rcases known_cases k h with rfl | rfl | rfl | rfl | rfl | rfl | rfl
  · clear h
    by_cases h1 : v.size = 1
    · have h0 : 0 < v.size := by omega
      have hb := at8_bytes v 0 h0
      have hx : (0 : Int) < (v.size : Int) := by omega
      have H := hide (right_one v)
      have hs : ((v.size : Int) == 1) = true := by rw [beq_iff_eq]; omega
      have H1 := hide h1
      clear h1
      generalize at8 v.data.toList 0 = b at *
      go_enter Try.func77, Try.ntmps77
      go_wp2
      all_goals
        go_ret
        refine ⟨ret_bool ?_, rfl⟩
        rw [H.out]
        simp [H1.out]; omega
    · have hs : ((v.size : Int) == 1) = false := by rw [beq_eq_false_iff_ne]; omega
      rw [right_one]
      have H1 := hide h1
      clear h1
      go_enter Try.func77, Try.ntmps77
      go_wp2
      go_ret
      refine ⟨ret_bool ?_, rfl⟩
      simp [H1.out]
  · clear h
    rw [right_two]
    go_enter Try.func77, Try.ntmps77
    go_wp2_with (go_at_call 91; refine (isPath_any v _ hv').mono ?_; rintro e w' ⟨rfl, rfl⟩)
    go_ret
    exact ⟨rfl, rfl⟩
  · clear h
    rw [right_four _ _ (.inl rfl)]
    go_enter Try.func77, Try.ntmps77
    go_wp2
    go_ret
    exact ⟨ret_bool (int_size v 4), rfl⟩
  · clear h
    rw [right_four _ _ (.inr rfl)]
    go_enter Try.func77, Try.ntmps77
    go_wp2
    go_ret
    exact ⟨ret_bool (int_size v 4), rfl⟩
  · clear h
    rw [right_six]
    go_enter Try.func77, Try.ntmps77
    go_wp2
    go_ret
    exact ⟨ret_bool (isEmpty_size v), rfl⟩
  · clear h
    rw [right_seven]
    go_enter Try.func77, Try.ntmps77
    go_wp2
    go_ret
    exact ⟨ret_bool (int_size v 8), rfl⟩
  · clear h
    rw [right_eight]
    by_cases h0 : v.size = 0
    · have hem : v.toList.isEmpty = true := by rw [isEmpty_size]; simp [h0]
      have H0 := hide h0
      clear h0
      go_enter Try.func77, Try.ntmps77
      go_wp2
      go_ret
      exact ⟨ret_bool (by simp [H0.out]), rfl⟩
    · have hem : v.toList.isEmpty = false := by rw [isEmpty_size]; simp [h0]
      have H0 := hide h0
      go_enter Try.func77, Try.ntmps77
      go_wp2
      go_ret
      exact ⟨ret_bool (mod_size' v H0.out), rfl⟩

end Go.Proofs.Yteoacdkgicfomaa
