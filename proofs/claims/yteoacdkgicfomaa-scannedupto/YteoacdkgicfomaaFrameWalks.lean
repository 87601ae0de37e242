/-
  The two Frames, walked: routelogref.Frame and message.Frame answer the same three numbers of every text.
-/
import Derived.Test.YteoacdkgicfomaaNumWalks
import Derived.Test.YteoacdkgicfomaaFrameMath
import Derived.Test.YteoacdkgicfomaaShelf
import Derived.Deep.QuietTactic
import Derived.BigQuiet
import Derived.WalkSmall
namespace Go.Proofs.Yteoacdkgicfomaa
open Go.RowKit
open Rl

theorem fin3 {a b c a' b' c' : Int} (h : a' = a ∧ b' = b ∧ c' = c) : Ending.returned (.tuple #[.int .i64 a, .int .i64 b, .int .i64 c]) = Ending.returned (.tuple #[.int .i64 a', .int .i64 b', .int .i64 c']) := by
  obtain ⟨rfl, rfl, rfl⟩ := h; rfl

theorem extract_marks (s : ByteArray) : ((s.extract 0 (min (s.size : Int) 16).toNat).data.toList) = s.data.toList.take 16 := by
  rw [Lib.extract_data]
  have e : s.data.toList.length = s.size := by simp
  by_cases h : s.size ≤ 16
  · have e1 : (min (s.size : Int) 16).toNat = s.size := by omega
    rw [e1, List.take_of_length_le (l := s.data.toList) (by omega), Nat.sub_zero, List.drop_zero, List.take_of_length_le (by omega)]
  · have e1 : (min (s.size : Int) 16).toNat = 16 := by omega
    rw [e1]; simp

theorem marks_call (s : ByteArray) (w : World) (b : Bool) (hb : marked s.data.toList = b) :
    Calls Try.prog 51 #[.string { data := #[255, 255, 255, 255, 255, 255, 255, 255, 255, 255, 255, 255, 255, 255, 255, 255] }, .string (s.extract 0 (min (s.size : Int) 16).toNat)] w fun e w' => e = .returned (.bool b) ∧ w' = w := by
  refine (Try.strings_HasPrefix _ _ w).mono ?_
  rintro e w' ⟨he, hw⟩
  refine ⟨?_, hw⟩
  rw [he, extract_marks, ← hb, ← has_marks]; rfl

theorem told2_call (s : ByteArray) (w : World) (h : ¬ s.size < 18) :
    Calls Try.prog 52 #[.string (s.extract 16 18)] w fun e w' => e = .returned (.int .i64 (told2 s.data.toList)) ∧ w' = w := by
  refine (read_any _ w (by rw [ByteArray.size_extract]; omega)).mono ?_
  rintro e w' ⟨he, hw⟩
  refine ⟨?_, hw⟩
  rw [he, Lib.extract_data]; rfl

theorem told2_ref (s : ByteArray) (w : World) (h : ¬ s.size < 18) :
    Calls Try.prog 34 #[.string (s.extract 16 18)] w fun e w' => e = .returned (.int .i64 (told2 s.data.toList)) ∧ w' = w := by
  refine (number_any _ w (by rw [ByteArray.size_extract]; omega)).mono ?_
  rintro e w' ⟨he, hw⟩
  refine ⟨?_, hw⟩
  rw [he, Lib.extract_data]; rfl

theorem told2_bound (l : List UInt8) : 0 ≤ told2 l ∧ told2 l < 65536 := by
  refine ⟨num_nonneg _, ?_⟩
  have h := num_lt 2 ((l.drop 16).take 2) (by rw [List.length_take]; omega)
  have e : (256 : Int) ^ 2 = 65536 := by decide
  unfold told2; omega

theorem ret18 (s : ByteArray) (h : 18 < s.size) : wrap64 (s[18].toNat : Int) = ((s.data.toList.getD 18 0).toNat : Int) := by
  rw [wrap64_byte]
  have e : s.data.toList.getD 18 0 = s[18] := by
    rw [List.getD_eq_getElem?_getD, List.getElem?_eq_getElem (by simpa using h)]; rfl
  rw [e]

set_option maxHeartbeats 400000 in
theorem frame_any (s : ByteArray) (w : World) (hs : s.size ≤ maxLen) :
    Calls Try.prog 33 #[.string s] w fun e w' => e = .returned (.tuple #[.int .i64 (frN s.data.toList), .int .i64 (frK s.data.toList), .int .i64 (frE s.data.toList)]) ∧ Below w.heap.size w w' := by
  unfold maxLen at hs
  cases hm : marked s.data.toList with
  | false =>
    have H := hide (fr_unmarked _ hm)
    go_enter Try.func33, Try.ntmps33
    go_wp2_with (go_at_call 51; refine (marks_call s _ _ hm).mono ?_; rintro e w' ⟨rfl, rfl⟩)
    go_ret3
    exact ⟨fin3 H.out, Below.refl _ _⟩
  | true =>
    by_cases h18 : s.size < 18
    · have H := hide (fr_short _ hm (by simpa using h18))
      go_enter Try.func33, Try.ntmps33
      go_wp2_with (go_at_call 51; refine (marks_call s _ _ hm).mono ?_; rintro e w' ⟨rfl, rfl⟩)
      go_ret3
      exact ⟨fin3 H.out, Below.refl _ _⟩
    · obtain ⟨hb0, hb1⟩ := told2_bound s.data.toList
      go_enter Try.func33, Try.ntmps33
      go_wp2_with (first | (go_at_call 51; refine (marks_call s _ _ hm).mono ?_; rintro e w' ⟨rfl, rfl⟩) | (go_at_call 52; refine (told2_call s _ h18).mono ?_; rintro e w' ⟨rfl, rfl⟩))
      · have hx : told2 s.data.toList < 19 ∨ 200 < told2 s.data.toList := by assumption
        have H := hide (fr_bad _ hm (by simpa using h18) hx)
        go_ret3
        exact ⟨fin3 H.out, Below.refl _ _⟩
      · have hx : ¬ (told2 s.data.toList < 19 ∨ 200 < told2 s.data.toList) := by omega
        have H := hide (fr_part _ hm (by simpa using h18) hx (by simpa using ‹(s.size : Int) < told2 s.data.toList›))
        go_ret3
        exact ⟨fin3 H.out, Below.refl _ _⟩
      · have hx : ¬ (told2 s.data.toList < 19 ∨ 200 < told2 s.data.toList) := by omega
        have h19 : (18 : Int) < (s.size : Int) := by omega
        have H : Hid (frN s.data.toList = told2 s.data.toList ∧ frK s.data.toList = ((s.data.toList.getD 18 0).toNat : Int) ∧ frE s.data.toList = 0) := fr_whole _ hm (by simpa using h18) hx (by have := ‹told2 s.data.toList ≤ (s.size : Int)›; simp; omega)
        go_quiet (fail)
        go_wp2
        go_ret3
        refine ⟨?_, below_drewN (Below.refl _ _) _⟩
        obtain ⟨e1, e2, e3⟩ := H.out
        exact fin3 ⟨e1, e2.trans (ret18 s (by omega)).symm, e3⟩
      · have H := hide (fr_bad _ hm (by simpa using h18) (.inl ‹told2 s.data.toList < 19›))
        go_ret3
        exact ⟨fin3 H.out, Below.refl _ _⟩

set_option maxHeartbeats 400000 in
theorem frameref_any (s : ByteArray) (w : World) (hs : s.size ≤ maxLen) :
    Calls Try.prog 11 #[.string s] w fun e w' => e = .returned (.tuple #[.int .i64 (frN s.data.toList), .int .i64 (frK s.data.toList), .int .i64 (frE s.data.toList)]) ∧ Below w.heap.size w w' := by
  unfold maxLen at hs
  go_enter Try.func11, Try.ntmps11
  go_wp2
  go_loop [5] (fun i => ∃ k : Nat, k ≤ s.size ∧ k ≤ 16 ∧ i = .int .i64 k ∧ upTo s k) (fun i => s.size - (intOf i).toNat)
  case atStart => exact ⟨0, by omega, by omega, rfl, upTo_zero s⟩
  case round =>
    obtain ⟨k, hk, hk16, rfl, hu⟩ := hrel
    by_cases hc : k < s.size ∧ k < 16
    · obtain ⟨hlt, h16⟩ := hc
      by_cases hb : s[k] = 255
      · have hb' : (s[k].toNat : Int) = 255 := by rw [hb]; rfl
        go_wp2
        go_round
        case rel => exact ⟨k + 1, by omega, by omega, by go_num, upTo_succ s k hlt hu hb⟩
        case measure => simp [intOf]; omega
      · have hb' : ((s[k].toNat : Int) != 255) = true := by
          rw [bne_iff_ne]; intro e; apply hb; apply UInt8.toNat_inj.1; simpa using (by omega : s[k].toNat = 255)
        have hm : marked s.data.toList = false := by
          rw [Bool.eq_false_iff]; intro e; rw [marked_iff] at e; exact hb (e k hlt h16)
        have H := hide (fr_unmarked _ hm)
        go_wp2
        go_ret3
        exact ⟨fin3 H.out, Below.refl _ _⟩
    · have hm := marked_end s k hu (by omega)
      obtain ⟨hb0, hb1⟩ := told2_bound s.data.toList
      clear hu
      by_cases h18 : s.size < 18
      · have H := hide (fr_short _ hm (by simpa using h18))
        by_cases hlt : k < s.size
        all_goals
          go_wp2
          go_ret3
          exact ⟨fin3 H.out, Below.refl _ _⟩
      · have hlt : k < s.size := by omega
        go_wp2_with (go_at_call 34; refine (told2_ref s _ h18).mono ?_; rintro e w' ⟨rfl, rfl⟩)
        · have hx : told2 s.data.toList < 19 ∨ 200 < told2 s.data.toList := by assumption
          have H := hide (fr_bad _ hm (by simpa using h18) hx)
          go_ret3
          exact ⟨fin3 H.out, Below.refl _ _⟩
        · have hx : ¬ (told2 s.data.toList < 19 ∨ 200 < told2 s.data.toList) := by omega
          have H := hide (fr_part _ hm (by simpa using h18) hx (by simpa using ‹(s.size : Int) < told2 s.data.toList›))
          go_ret3
          exact ⟨fin3 H.out, Below.refl _ _⟩
        · have hx : ¬ (told2 s.data.toList < 19 ∨ 200 < told2 s.data.toList) := by omega
          have h19 : (18 : Int) < (s.size : Int) := by omega
          have H : Hid (frN s.data.toList = told2 s.data.toList ∧ frK s.data.toList = ((s.data.toList.getD 18 0).toNat : Int) ∧ frE s.data.toList = 0) := fr_whole _ hm (by simpa using h18) hx (by have := ‹told2 s.data.toList ≤ (s.size : Int)›; simp; omega)
          go_quiet (fail)
          go_wp2
          go_ret3
          refine ⟨?_, below_drewN (Below.refl _ _) _⟩
          obtain ⟨e1, e2, e3⟩ := H.out
          exact fin3 ⟨e1, e2.trans (ret18 s (by omega)).symm, e3⟩
        · have H := hide (fr_bad _ hm (by simpa using h18) (.inl ‹told2 s.data.toList < 19›))
          go_ret3
          exact ⟨fin3 H.out, Below.refl _ _⟩

end Go.Proofs.Yteoacdkgicfomaa
