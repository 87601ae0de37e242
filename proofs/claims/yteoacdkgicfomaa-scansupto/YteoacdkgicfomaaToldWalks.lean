/-
  A prefix in bytes, walked: routelogref.told.
-/
import Derived.Test.YteoacdkgicfomaaPfxWalks
import Derived.Deep.RegionWith
import Derived.BigRegion
namespace Go.Proofs.Yteoacdkgicfomaa
open Go.RowKit
open Rl

theorem ret_str {a b : ByteArray} (h : a = b) : Ending.returned (.string a) = .returned (.string b) := by rw [h]

theorem bytes_ext {a b : ByteArray} (h : a.data.toList = b.data.toList) : a = b := by
  apply ByteArray.ext
  exact Array.toList_inj.1 h

theorem append_data (a b : ByteArray) : (a ++ b).data.toList = a.data.toList ++ b.data.toList := by
  rw [ByteArray.data_append]; simp

theorem told_eq (a n : Nat) (hn : n ≤ 32) : (⟨(be 1 n).toArray⟩ : ByteArray) ++ (ByteArray.extract ⟨(be 4 a).toArray⟩ 0 (many n)) = ⟨(pfxBytes (a, n)).toArray⟩ := by
  apply bytes_ext
  rw [append_data, Lib.extract_data]
  show be 1 n ++ (List.drop 0 (be 4 a)).take (many n - 0) = pfxBytes (a, n)
  simp only [be, pfxBytes, List.drop_zero, Nat.sub_zero, Nat.pow_zero, Nat.div_one, List.cons_append, List.nil_append]
  congr 2
  omega

set_option maxHeartbeats 1600000 in
theorem told_any (a n : Nat) (w : World) (ha : a ≤ 4294967295) (hn : n ≤ 32) :
    Calls Try.prog 44 #[.agg #[.int .i64 a, .int .i64 n]] w fun e w' => e = .returned (.string ⟨(pfxBytes (a, n)).toArray⟩) ∧ Below w.heap.size w w' := by
  go_enter Try.func44, Try.ntmps44
  go_wp2_with fail
  refine (bytes_any a 4 _ (by omega) (by omega)).mono ?_
  rintro e w1 ⟨rfl, hb1⟩
  obtain ⟨k0, k1, k4⟩ : w1.cell? ⟨w.heap.size, 0, none⟩ = some (.int .i64 a) ∧ w1.cell? ⟨w.heap.size, 1, none⟩ = some (.int .i64 n) ∧ w.heap.size < w1.heap.size := by
    have hs : w.heap.size < (w.alloc (.cells #[.int .i64 a, .int .i64 n] 36)).heap.size := by simp
    refine ⟨?_, ?_, Nat.lt_of_lt_of_le hs hb1.size⟩
    · rw [hb1.cell (p := ⟨w.heap.size, 0, none⟩) hs]; simp
    · rw [hb1.cell (p := ⟨w.heap.size, 1, none⟩) hs]; simp
  have hbel : Below w.heap.size w w1 := later_below ((Below.refl _ _).alloc (Nat.le_refl _) _) hb1 (by simp)
  clear hb1
  have hcall := fun w => bytes_any n 1 w (by omega) (by omega)
  obtain ⟨S, eS⟩ : ∃ S : ByteArray, S = ⟨(be 4 a).toArray⟩ := ⟨_, rfl⟩
  obtain ⟨U, eU⟩ : ∃ U : ByteArray, U = ⟨(be 1 n).toArray⟩ := ⟨_, rfl⟩
  have hS : S.size = 4 := by rw [eS]; show (be 4 a).toArray.size = 4; simp [be_length]
  have hU : U.size = 1 := by rw [eU]; show (be 1 n).toArray.size = 1; simp [be_length]
  rw [← eS]
  rw [← eU] at hcall
  have HS := hide eS
  have HU := hide eU
  clear eS eU
  have hm0 : 0 ≤ ((n : Int) + 7) / 8 := by omega
  have hm4 : ((n : Int) + 7) / 8 ≤ (S.size : Int) := by omega
  have hS2 : S.size ≤ 4 := by omega
  have hU2 : U.size ≤ 1 := by omega
  clear hS hU
  have hw1 : IntKind.i64.wrap ((n : Int) + 7) = (n : Int) + 7 := by rw [IntKind.wrap_i64]; omega
  have hw2 : IntKind.i64.wrap (((n : Int) + 7).tdiv 8) = (many n : Int) := by rw [IntKind.wrap_i64, Int.tdiv_eq_ediv_of_nonneg (by omega)]; unfold many; omega
  have hm8 : (many n : Int) ≤ (S.size : Int) := by unfold many; omega
  go_wp2
  go_region_with (go_at_call 45; refine (hcall _).mono ?_; rintro e w2 ⟨rfl, hb2⟩; have j1 := (hb2.cell (p := ⟨w.heap.size, 1, none⟩) k4).trans k1; have j0 := (hb2.cell (p := ⟨w.heap.size, 0, none⟩) k4).trans k0)
  all_goals
    go_wp2
    go_ret
    refine ⟨ret_str ?_, later_below hbel.drew hb2 hbel.size⟩
    rw [HS.out, HU.out]
    exact told_eq a n hn

end Go.Proofs.Yteoacdkgicfomaa
