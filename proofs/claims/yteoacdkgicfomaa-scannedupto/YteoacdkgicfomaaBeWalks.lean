/-
  The two writers of numbers, walked: routelogref.bytes and number.Write answer the same bytes of a number that is not below 0.
-/
import Derived.Test.YteoacdkgicfomaaNumWalks
import Derived.Test.YteoacdkgicfomaaBeMath
import Derived.Laws.IdiomStrings
import Derived.Laws.OwnMore
import Derived.OwnWalk
import Derived.Below
namespace Go.Proofs.Yteoacdkgicfomaa
open Go.RowKit
open Rl

theorem info_u8 : (Try.prog.info? 5).map (fun i => (i.zero, i.size, i.bytes)) = some (some (.int .u8 0), 1, 1) := by kernel_rfl

theorem zeros_u8 (m : Nat) : (madeCells (Value.int .u8 0).cells (m * 1)).toList = u8s (List.replicate m 0) := by
  apply List.ext_getElem?
  intro j
  by_cases h : j < m
  · simp [madeCells, u8s, Value.cells, h, Nat.mod_one]
  · simp [madeCells, u8s, h]

set_option maxHeartbeats 400000 in
theorem bytes_any (n m : Nat) (w : World) (hn : n < 9223372036854775808) (hm : m ≤ 8) :
    Calls Try.prog 45 #[.int .i64 n, .int .i64 m] w fun e w' => e = .returned (.string ⟨(be m n).toArray⟩) ∧ Below w.heap.size w w' := by
  obtain ⟨i0, hi, hz0, hz1, hz2⟩ := info_parts info_u8
  go_enter Try.func45, Try.ntmps45
  go_wp2_with (at_make; refine wpList_make_full _ rfl _ _ 59 rfl w.heap.size 5 i0 (.int .u8 0) 1 Try.underlying59 hi hz0 hz1 .i64 .i64 _ _ m rfl rfl rfl rfl (by rw [hz2]; omega) (by unfold maxLen; omega) (Nat.le_refl _) ?_; intro w1 hown hgrow)
  rw [zeros_u8] at hown
  go_loopw [0, 6] (fun x i wr => ∃ j : Nat, j ≤ m ∧ i = .int .i64 ((j : Int) - 1) ∧ x = .int .i64 ((n / 256 ^ (m - j) : Nat) : Int) ∧ wr.ownsRow w.heap.size 5 1 (.slice (some ⟨w.heap.size, 0, none⟩) m m) m (u8s (beRow m n j)) ∧ Below w.heap.size w wr) (fun _ i _ => (intOf i + 1).toNat)
  case atStart => exact ⟨m, Nat.le_refl _, rfl, by simp, by rw [beRow_all]; exact hown, (Below.refl _ _).grown hgrow (Nat.le_refl _) (by simp)⟩
  case round =>
    obtain ⟨j, hj, rfl, rfl, hr, hb⟩ := hrel
    cases j with
    | zero =>
      rw [beRow_zero] at hr
      have hconv : (convert 59 9 (.slice (some ⟨w.heap.size, 0, none⟩) m m)).run Try.prog wr = .ok (.string ⟨(be m n).toArray⟩) wr := by
        have h := run_convert_bytes_back (P := Try.prog) wr 59 9 5 ⟨w.heap.size, 0, none⟩ m (be m n) Try.underlying59 Try.underlying5 Try.underlying9 (by
          intro j hj
          have := hr.cellAt j (by rw [be_length] at hj; omega)
          rw [add_head, this, u8s_get _ _ hj])
        rwa [be_length] at h
      go_wp2
      go_ret
      exact ⟨rfl, hb⟩
    | succ j =>
      have hcell := hr.cellAt j (by omega)
      rw [u8s_get _ _ (by rw [beRow_length _ _ _ hj]; omega)] at hcell
      have hfrozen := hr.frozenAt j
      have hdiv := div_le' n (m - (j + 1))
      have H := hide (hr.stored j (.int .u8 (((n / 256 ^ (m - (j + 1)) : Nat) : Int) % 256)))
      have HS := hide (div_step n m j (by omega))
      have HR := hide (beRow_step m n j (by omega))
      generalize n / 256 ^ (m - (j + 1)) = q at *
      clear hr
      go_wp2
      go_roundw
      case rel => exact ⟨j, by omega, by go_num, by rw [← HS.out]; go_num, by have h := H.out.1; rw [set_u8s _ _ _ _ (toNat_mod q).symm, HR.out] at h; exact h, hb.setCell (by simp) _⟩
      case measure => simp [intOf]

set_option maxHeartbeats 400000 in
theorem write_any (n m : Nat) (w : World) (_hn : n < 9223372036854775808) (hm : m ≤ 8) :
    Calls Try.prog 62 #[.int .i64 n, .int .i64 m] w fun e w' => e = .returned (.string ⟨(be m n).toArray⟩) ∧ Below w.heap.size w w' := by
  obtain ⟨i0, hi, hz0, hz1, hz2⟩ := info_parts info_u8
  go_enter Try.func62, Try.ntmps62
  go_wp2_with (at_make; refine wpList_make_full _ rfl _ _ 59 rfl w.heap.size 5 i0 (.int .u8 0) 1 Try.underlying59 hi hz0 hz1 .i64 .i64 _ _ m rfl rfl rfl rfl (by rw [hz2]; omega) (by unfold maxLen; omega) (Nat.le_refl _) ?_; intro w1 hown hgrow)
  rw [zeros_u8] at hown
  go_loopw [0, 6] (fun x i wr => ∃ j : Nat, j ≤ m ∧ i = .int .i64 ((j : Int) - 1) ∧ x = .int .i64 ((n / 256 ^ (m - j) : Nat) : Int) ∧ wr.ownsRow w.heap.size 5 1 (.slice (some ⟨w.heap.size, 0, none⟩) m m) m (u8s (beRow m n j)) ∧ Below w.heap.size w wr) (fun _ i _ => (intOf i + 1).toNat)
  case atStart => exact ⟨m, Nat.le_refl _, rfl, by simp, by rw [beRow_all]; exact hown, (Below.refl _ _).grown hgrow (Nat.le_refl _) (by simp)⟩
  case round =>
    obtain ⟨j, hj, rfl, rfl, hr, hb⟩ := hrel
    cases j with
    | zero =>
      rw [beRow_zero] at hr
      have hconv : (convert 59 9 (.slice (some ⟨w.heap.size, 0, none⟩) m m)).run Try.prog wr = .ok (.string ⟨(be m n).toArray⟩) wr := by
        have h := run_convert_bytes_back (P := Try.prog) wr 59 9 5 ⟨w.heap.size, 0, none⟩ m (be m n) Try.underlying59 Try.underlying5 Try.underlying9 (by
          intro j hj
          have := hr.cellAt j (by rw [be_length] at hj; omega)
          rw [add_head, this, u8s_get _ _ hj])
        rwa [be_length] at h
      go_wp2
      go_ret
      exact ⟨rfl, hb⟩
    | succ j =>
      have hcell := hr.cellAt j (by omega)
      rw [u8s_get _ _ (by rw [beRow_length _ _ _ hj]; omega)] at hcell
      have hfrozen := hr.frozenAt j
      have hdiv := div_le' n (m - (j + 1))
      have H := hide (hr.stored j (.int .u8 (((n / 256 ^ (m - (j + 1)) : Nat) : Int) % 256)))
      have HS := hide (div_step n m j (by omega))
      have HR := hide (beRow_step m n j (by omega))
      generalize n / 256 ^ (m - (j + 1)) = q at *
      clear hr
      go_wp2
      go_roundw
      case rel => exact ⟨j, by omega, by go_num, by rw [← HS.out]; go_num, by have h := H.out.1; rw [set_u8s _ _ _ _ (toNat_mod q).symm, HR.out] at h; exact h, hb.setCell (by simp) _⟩
      case measure => simp [intOf]

end Go.Proofs.Yteoacdkgicfomaa
