/-
  message.cutPart, message.parts and the document's parts, walked.
-/
import Derived.Test.YteoacdkgicfomaaPartsMath
import Derived.Test.YteoacdkgicfomaaCutAttr
namespace Go.Proofs.Yteoacdkgicfomaa
open Go.RowKit
open Rl

theorem n2_read (s : ByteArray) (w : World) :
    Calls Try.prog 52 #[.string (s.extract 0 2)] w fun e w' => e = .returned (.int .i64 (n2 s : Int)) ∧ w' = w := by
  refine (read_any _ w (by rw [ByteArray.size_extract]; omega)).mono ?_
  rintro e w' ⟨he, hw⟩
  exact ⟨by rw [he, n2_cast], hw⟩

theorem n2_ref (s : ByteArray) (w : World) :
    Calls Try.prog 34 #[.string (s.extract 0 2)] w fun e w' => e = .returned (.int .i64 (n2 s : Int)) ∧ w' = w := by
  refine (number_any _ w (by rw [ByteArray.size_extract]; omega)).mono ?_
  rintro e w' ⟨he, hw⟩
  exact ⟨by rw [he, n2_cast], hw⟩

theorem n2_ref2 (s : ByteArray) (w : World) (h : 4 + n2 s ≤ s.size) :
    Calls Try.prog 34 #[.string (s.extract (2 + n2 s) (4 + n2 s))] w fun e w' => e = .returned (.int .i64 (n2 (cutTail s) : Int)) ∧ w' = w := by
  refine (number_any _ w (by rw [ByteArray.size_extract]; omega)).mono ?_
  rintro e w' ⟨he, hw⟩
  exact ⟨by rw [he, n2_tail s h], hw⟩

set_option maxHeartbeats 800000 in
theorem cutPart_no (s : ByteArray) (w : World) (hs : s.size ≤ maxLen) (h : cutOk s = false) :
    Calls Try.prog 71 #[.string s] w fun e w' => e = .returned (.tuple #[.string ⟨#[]⟩, .string ⟨#[]⟩, .bool false]) ∧ Below w.heap.size w w' := by
  unfold maxLen at hs
  unfold cutOk at h
  rw [decide_eq_false_iff_not] at h
  have hl := n2_lt s
  by_cases h2 : s.size < 2
  · clear h
    go_enter Try.func71, Try.ntmps71
    go_wp2
    go_ret3
    exact ⟨rfl, Below.refl _ _⟩
  · have h3 : s.size < 2 + n2 s := by omega
    clear h
    go_enter Try.func71, Try.ntmps71
    go_wp2_with (go_at_call 52; refine (n2_read s _).mono ?_; rintro e w' ⟨rfl, rfl⟩)
    go_ret3
    exact ⟨rfl, Below.refl _ _⟩

set_option maxHeartbeats 800000 in
theorem cutPart_yes (s : ByteArray) (w : World) (hs : s.size ≤ maxLen) (h : cutOk s = true) :
    Calls Try.prog 71 #[.string s] w fun e w' => e = .returned (.tuple #[.string (cutHead s), .string (cutTail s), .bool true]) ∧ Below w.heap.size w w' := by
  unfold maxLen at hs
  unfold cutOk at h
  rw [decide_eq_true_iff] at h
  have hl := n2_lt s
  obtain ⟨h2, h3⟩ := h
  have hcall := fun w => n2_read s w
  unfold cutHead cutTail
  generalize n2 s = n at *
  go_enter Try.func71, Try.ntmps71
  go_wp2_with (go_at_call 52; refine (hcall _).mono ?_; rintro e w' ⟨rfl, rfl⟩)
  go_region
  go_wp2
  go_ret3
  exact ⟨rfl, below_drewN (Below.refl _ _) _⟩

set_option maxHeartbeats 800000 in
theorem parts_no1 (s : ByteArray) (w : World) (hs : s.size ≤ maxLen) (h1 : cutOk s = false) :
    Calls Try.prog 53 #[.string s] w fun e w' => e = .returned (.tuple #[.string ⟨#[]⟩, .string ⟨#[]⟩, .string ⟨#[]⟩, .bool false]) ∧ Below w.heap.size w w' := by
  have hc := fun w => cutPart_no s w hs h1
  unfold maxLen at hs
  go_enter Try.func53, Try.ntmps53
  go_wp2_with (go_at_call 71; refine (hc _).mono ?_; rintro e w1 ⟨rfl, hb1⟩)
  exact bodyPost_ret (v := .tuple #[.string ⟨#[]⟩, .string ⟨#[]⟩, .string ⟨#[]⟩, .bool false]) (by simp [results, Try.results53, go_sem]) rfl ⟨rfl, hb1⟩

set_option maxHeartbeats 800000 in
theorem parts_no2 (s : ByteArray) (w : World) (hs : s.size ≤ maxLen) (h1 : cutOk s = true) (h2 : cutOk (cutTail s) = false) :
    Calls Try.prog 53 #[.string s] w fun e w' => e = .returned (.tuple #[.string (cutHead s), .string ⟨#[]⟩, .string ⟨#[]⟩, .bool false]) ∧ Below w.heap.size w w' := by
  have ht : (cutTail s).size ≤ maxLen := Nat.le_trans (cutTail_le s) hs
  have hc := fun w => cutPart_yes s w hs h1
  have hd := fun w => cutPart_no (cutTail s) w ht h2
  generalize cutHead s = p at *
  generalize cutTail s = r at *
  clear h1 h2
  unfold maxLen at hs
  go_enter Try.func53, Try.ntmps53
  go_wp2_with (first | (go_at_call_of 71 s; refine (hc _).mono ?_; rintro e w1 ⟨rfl, hb1⟩) | (go_at_call_of 71 r; refine (hd _).mono ?_; rintro e w2 ⟨rfl, hb2⟩))
  exact bodyPost_ret (v := .tuple #[.string p, .string ⟨#[]⟩, .string ⟨#[]⟩, .bool false]) (by simp [results, Try.results53, go_sem]) rfl ⟨rfl, hb1.trans (hb2.mono hb1.size)⟩

set_option maxHeartbeats 800000 in
theorem parts_yes (s : ByteArray) (w : World) (hs : s.size ≤ maxLen) (h1 : cutOk s = true) (h2 : cutOk (cutTail s) = true) :
    Calls Try.prog 53 #[.string s] w fun e w' => e = .returned (.tuple #[.string (cutHead s), .string (cutHead (cutTail s)), .string (cutTail (cutTail s)), .bool true]) ∧ Below w.heap.size w w' := by
  have ht : (cutTail s).size ≤ maxLen := Nat.le_trans (cutTail_le s) hs
  have hc := fun w => cutPart_yes s w hs h1
  have hd := fun w => cutPart_yes (cutTail s) w ht h2
  generalize cutHead s = p at *
  generalize cutTail s = r at *
  generalize cutHead r = p2 at *
  generalize cutTail r = r2 at *
  clear h1 h2
  unfold maxLen at hs
  go_enter Try.func53, Try.ntmps53
  go_wp2_with (first | (go_at_call_of 71 s; refine (hc _).mono ?_; rintro e w1 ⟨rfl, hb1⟩) | (go_at_call_of 71 r; refine (hd _).mono ?_; rintro e w2 ⟨rfl, hb2⟩))
  exact bodyPost_ret (v := .tuple #[.string p, .string p2, .string r2, .bool true]) (by simp [results, Try.results53, go_sem]) rfl ⟨rfl, hb1.trans (hb2.mono hb1.size)⟩

set_option maxHeartbeats 1600000 in
theorem partsref_no (s : ByteArray) (w : World) (hs : s.size ≤ maxLen) (hk : partsOk s = false) :
    Calls Try.prog 36 #[.string s] w fun e w' => e = .returned (.tuple #[.string ⟨#[]⟩, .string ⟨#[]⟩, .string ⟨#[]⟩, .bool false]) ∧ Below w.heap.size w w' := by
  unfold maxLen at hs
  have hl := n2_lt s
  have hl2 := n2_lt (cutTail s)
  have hp := partsOk_iff s
  have hc1 := fun w => n2_ref s w
  have hc2 := n2_ref2 s
  rw [hk] at hp
  simp only [Bool.false_eq_true, false_iff] at hp
  generalize n2 (cutTail s) = n at *
  generalize n2 s = k at *
  clear hk
  go_enter Try.func36, Try.ntmps36
  go_wp2_with (first | (go_at_call_of 34 (s.extract 0 2); refine (hc1 _).mono ?_; rintro e w1 ⟨rfl, rfl⟩) | (go_at_call 34; refine (hc2 _ (by omega)).mono ?_; rintro e w1 ⟨rfl, rfl⟩))
  all_goals first | (exfalso; apply hp; omega) | skip
  all_goals exact bodyPost_ret (v := .tuple #[.string ⟨#[]⟩, .string ⟨#[]⟩, .string ⟨#[]⟩, .bool false]) (by simp [results, Try.results36, go_sem]) rfl ⟨rfl, Below.refl _ _⟩

set_option maxHeartbeats 1600000 in
theorem partsref_yes (s : ByteArray) (w : World) (hs : s.size ≤ maxLen) (hk : partsOk s = true) :
    Calls Try.prog 36 #[.string s] w fun e w' => e = .returned (.tuple #[.string (cutHead s), .string (cutHead (cutTail s)), .string (cutTail (cutTail s)), .bool true]) ∧ Below w.heap.size w w' := by
  unfold maxLen at hs
  have hl := n2_lt s
  have hl2 := n2_lt (cutTail s)
  obtain ⟨hp1, hp2⟩ := (partsOk_iff s).1 hk
  rw [tailHead s hp2, tailTail s]
  have hc1 := fun w => n2_ref s w
  have hc2 := n2_ref2 s
  unfold cutHead
  generalize n2 (cutTail s) = n at *
  generalize n2 s = k at *
  clear hk
  go_enter Try.func36, Try.ntmps36
  go_wp2_with (first | (go_at_call_of 34 (s.extract 0 2); refine (hc1 _).mono ?_; rintro e w1 ⟨rfl, rfl⟩) | (go_at_call 34; refine (hc2 _ (by omega)).mono ?_; rintro e w1 ⟨rfl, rfl⟩))
  go_region
  go_wp2
  exact bodyPost_ret (v := .tuple #[.string (s.extract 2 (2 + k)), .string (s.extract (4 + k) (4 + k + n)), .string (s.extract (4 + k + n) s.size), .bool true]) (by simp [results, Try.results36, go_sem]) rfl ⟨rfl, below_drewN (Below.refl _ _) _⟩

end Go.Proofs.Yteoacdkgicfomaa
