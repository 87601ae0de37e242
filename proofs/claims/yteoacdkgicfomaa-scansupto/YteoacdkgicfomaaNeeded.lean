/-
  message.isCanonical and hasNeeded, walked.
-/
import Derived.Test.YteoacdkgicfomaaCutAttr
import Derived.Test.YteoacdkgicfomaaRowAt
namespace Go.Proofs.Yteoacdkgicfomaa
open Go.RowKit
open Rl

theorem atOk_known (f k : Int) (v : ByteArray) (h : knownB k = true) : atOk f k v = (decide (f = flagsI k) && rightB k v) := by unfold atOk; rw [if_pos h]
theorem atOk_unknown (f k : Int) (v : ByteArray) (h : knownB k = false) : atOk f k v = decide (f = 192 ∨ f = 224) := by unfold atOk; rw [if_neg (by simp [h])]
theorem int_eq (a b : Int) : (a == b) = decide (a = b) := by rw [Bool.eq_iff_iff]; simp

set_option maxHeartbeats 800000 in
theorem isCanonical_any (f k : Int) (v : ByteArray) (w : World) (hv : v.size ≤ maxLen) :
    Calls Try.prog 83 #[.agg #[.int .i64 f, .int .i64 k, .string v]] w fun e w' => e = .returned (.bool (atOk f k v)) ∧ Below w.heap.size w w' := by
  cases h : knownB k with
  | true =>
    rw [atOk_known f k v h]
    have hcall := fun w => flagsOf_known k w h
    have hcall2 := fun w => valueFits_any k v w hv h
    clear h
    generalize flagsI k = g at *
    generalize rightB k v = r at *
    by_cases e : f = g
    · subst e
      have eb : (f == f) = true := by simp
      go_enter Try.func83, Try.ntmps83
      go_wp2_with (first | (go_at_call 76; refine (hcall _).mono ?_; rintro e w' ⟨rfl, rfl⟩) | (go_at_call 77; refine (hcall2 _).mono ?_; rintro e w' ⟨rfl, rfl⟩))
      go_ret
      exact ⟨ret_bool (by simp), (Below.refl _ _).alloc (Nat.le_refl _) _⟩
    · have eb : (f == g) = false := by rw [beq_eq_false_iff_ne]; exact e
      have E := hide e
      clear e
      go_enter Try.func83, Try.ntmps83
      go_wp2_with (first | (go_at_call 76; refine (hcall _).mono ?_; rintro e w' ⟨rfl, rfl⟩) | (go_at_call 77; refine (hcall2 _).mono ?_; rintro e w' ⟨rfl, rfl⟩))
      go_ret
      exact ⟨ret_bool (by simp [E.out]), (Below.refl _ _).alloc (Nat.le_refl _) _⟩
  | false =>
    rw [atOk_unknown f k v h]
    have hcall := fun w => flagsOf_unknown k w h
    clear h
    go_enter Try.func83, Try.ntmps83
    go_wp2_with (first | (go_at_call 76; refine (hcall _).mono ?_; rintro e w' ⟨rfl, rfl⟩))
    · go_ret
      exact ⟨ret_bool (by simp; omega), (Below.refl _ _).alloc (Nat.le_refl _) _⟩
    · have hn : ¬ f = 192 := by assumption
      go_ret
      exact ⟨ret_bool (by simp [hn, int_eq]), (Below.refl _ _).alloc (Nat.le_refl _) _⟩

set_option maxHeartbeats 800000 in
theorem hasNeeded_any (v : Value) (xs : List At) (w : World) (hx : xs.length ≤ 1073741824) (hr : RowAt w v xs.length 3 (atCells xs)) :
    Calls Try.prog 81 #[v] w fun e w' => e = .returned (.bool (needN xs == 3)) ∧ Below w.heap.size w w' := by
  obtain ⟨_, hr⟩ := hr
  rcases hr with ⟨a, c, rfl, hn⟩ | ⟨b, o, cap, rfl, hn, hb, hc⟩
  · have hn0 : xs = [] := List.eq_nil_of_length_eq_zero hn
    subst hn0
    go_enter Try.func81, Try.ntmps81
    go_wp2
    refine wp_loop_rounds 1 ?_
    rw [rounds_succ]
    go_wp2
    go_ret
    exact ⟨ret_bool (by simp [needN]), Below.refl _ _⟩
  · go_enter Try.func81, Try.ntmps81
    go_wp2
    go_loopw [3, 8] (fun x i wr => ∃ k : Nat, k ≤ xs.length ∧ i = .int .i64 k ∧ x = .int .i64 (needN (xs.take k)) ∧ Below w.heap.size w wr) (fun _ i _ => xs.length - (intOf i).toNat)
    case atStart => exact ⟨0, Nat.zero_le _, rfl, rfl, Below.refl _ _⟩
    case round =>
      obtain ⟨k, hk, rfl, rfl, hbel⟩ := hrel
      have hnl : needN (xs.take k) ≤ k := Nat.le_trans (needN_le _) (List.length_take_le _ _)
      by_cases hlt : k < xs.length
      · obtain ⟨g1, g2, g3⟩ := atCells_get xs k hlt
        have c1 := (hbel.cell (p := ⟨b, o + k * 3, none⟩) hb).trans (hc _ _ g1)
        have c2 := (hbel.cell (p := ⟨b, o + k * 3 + 1, none⟩) hb).trans (hc _ _ g2)
        have c3 := (hbel.cell (p := ⟨b, o + k * 3 + 2, none⟩) hb).trans (hc _ _ g3)
        have HN := hide (needN_take xs k hlt)
        clear hc g1 g2 g3
        generalize xs[k] = a at *
        generalize needN (xs.take k) = n at *
        by_cases h13 : 1 ≤ a.kind ∧ a.kind ≤ 3
        · have h3 : a.kind = 1 ∨ a.kind = 2 ∨ a.kind = 3 := by omega
          rw [if_pos h13] at HN
          obtain ⟨af, ak, av⟩ := a
          simp only at *
          clear h13
          rcases h3 with rfl | rfl | rfl
          all_goals
            go_wp2
            go_roundw
            case rel => exact ⟨k + 1, by omega, by go_num, by rw [HN.out]; go_num, hbel.alloc (by exact hbel.size) _⟩
            case measure => simp [intOf]; omega
        · rw [if_neg h13] at HN
          have e1 : ((a.kind : Int) == 1) = false := by rw [beq_eq_false_iff_ne]; omega
          have e2 : ((a.kind : Int) == 2) = false := by rw [beq_eq_false_iff_ne]; omega
          have e3 : ((a.kind : Int) == 3) = false := by rw [beq_eq_false_iff_ne]; omega
          clear h13
          go_wp2
          go_roundw
          case rel => exact ⟨k + 1, by omega, by go_num, by rw [HN.out]; go_num, hbel.alloc (by exact hbel.size) _⟩
          case measure => simp [intOf]; omega
      · clear hc
        go_wp2
        go_ret
        exact ⟨ret_bool (by rw [List.take_of_length_le (by omega), int_eq]; rw [Bool.eq_iff_iff]; simp; omega), hbel⟩

end Go.Proofs.Yteoacdkgicfomaa
