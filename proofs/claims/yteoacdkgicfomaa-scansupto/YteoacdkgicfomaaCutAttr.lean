/-
  message.cutAttribute, walked: what attribute begins a text, and what is left.
-/
import Derived.Test.YteoacdkgicfomaaFrameWalks
import Derived.Test.YteoacdkgicfomaaAttrWalks
import Derived.RegionTactic
import Derived.ChangeAlike
import Derived.Laws.ResultCell
import Derived.BigRegion
namespace Go.Proofs.Yteoacdkgicfomaa
open Go.RowKit
open Rl

theorem lenZ_call (t : ByteArray) (z : Nat) (w : World) (hz : 1 ≤ z ∧ z ≤ 2) :
    Calls Try.prog 52 #[.string (t.extract 2 (2 + z))] w fun e w' => e = .returned (.int .i64 (lenZ z t : Int)) ∧ w' = w := by
  refine (read_any _ w (by rw [ByteArray.size_extract]; omega)).mono ?_
  rintro e w' ⟨he, hw⟩
  exact ⟨by rw [he, lenZ_cast], hw⟩

set_option maxHeartbeats 800000 in
theorem cut_none (t : ByteArray) (z : Nat) (w : World) (ht : t.size ≤ maxLen) (hz : 1 ≤ z ∧ z ≤ 2) (h : wholeZ z t = false) :
    Calls Try.prog 74 #[.string t, .int .i64 z] w fun e w' => e = .returned (.tuple #[.agg #[.int .i64 0, .int .i64 0, .string ⟨#[]⟩], .string ⟨#[]⟩, .bool false]) ∧ Below w.heap.size w w' := by
  unfold maxLen at ht
  unfold wholeZ at h
  rw [decide_eq_false_iff_not] at h
  have hl := lenZ_lt z t hz.2
  have hz' := hz
  obtain ⟨z1, z2⟩ := hz
  by_cases h2 : t.size < 2 + z
  · clear h
    go_enter Try.func74, Try.ntmps74
    go_wp2
    exact bodyPost_ret (v := .tuple #[.agg #[.int .i64 0, .int .i64 0, .string ⟨#[]⟩], .string ⟨#[]⟩, .bool false]) (by simp [results, Try.results74, go_sem]) rfl ⟨rfl, (Below.refl _ _).alloc (Nat.le_refl _) _⟩
  · have h3 : t.size < 2 + z + lenZ z t := by omega
    clear h
    go_enter Try.func74, Try.ntmps74
    go_wp2_with (go_at_call 52; refine (lenZ_call t z _ hz').mono ?_; rintro e w' ⟨rfl, rfl⟩)
    exact bodyPost_ret (v := .tuple #[.agg #[.int .i64 0, .int .i64 0, .string ⟨#[]⟩], .string ⟨#[]⟩, .bool false]) (by simp [results, Try.results74, go_sem]) rfl ⟨rfl, (Below.refl _ _).alloc (Nat.le_refl _) _⟩

set_option maxHeartbeats 1600000 in
theorem cut_some (t : ByteArray) (z : Nat) (w : World) (ht : t.size ≤ maxLen) (hz : 1 ≤ z ∧ z ≤ 2) (h : wholeZ z t = true) :
    Calls Try.prog 74 #[.string t, .int .i64 z] w fun e w' => e = .returned (.tuple #[.agg #[.int .i64 ((headZ z t).flags : Int), .int .i64 ((headZ z t).kind : Int), .string (headZ z t).val], .string (restZ z t), .bool true]) ∧ Below w.heap.size w w' := by
  unfold maxLen at ht
  unfold wholeZ at h
  rw [decide_eq_true_iff] at h
  have hl := lenZ_lt z t hz.2
  have hz' := hz
  obtain ⟨z1, z2⟩ := hz
  obtain ⟨h2, h3⟩ := h
  have hb0 := at8_bytes t 0 (by omega)
  have hb1 := at8_bytes t 1 (by omega)
  have hl0 := at8_lt t.data.toList 0
  have hl1 := at8_lt t.data.toList 1
  have hx0 : (0 : Int) < (t.size : Int) := by omega
  have hx1 : (1 : Int) < (t.size : Int) := by omega
  have hcall := fun w => lenZ_call t z w hz'
  unfold headZ restZ
  simp only
  generalize at8 t.data.toList 0 = b0 at *
  generalize at8 t.data.toList 1 = b1 at *
  generalize lenZ z t = n at *
  go_enter Try.func74, Try.ntmps74
  go_wp2_with (go_at_call 52; refine (hcall _).mono ?_; rintro e w' ⟨rfl, rfl⟩)
  go_region
  go_wp2
  refine bodyPost_ret (v := .tuple #[.agg #[.int .i64 b0, .int .i64 b1, .string (t.extract (2 + z) (2 + z + n))], .string (t.extract (2 + z + n) t.size), .bool true]) (by simp [results, Try.results74, go_sem]) rfl ⟨rfl, ?_⟩
  exact below_drewN (n := 1) ((Below.refl _ _).alloc (Nat.le_refl _) _)

end Go.Proofs.Yteoacdkgicfomaa
