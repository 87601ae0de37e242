/-
  The two tests of a value of the second type, walked: routelogref.segments and message.isPath.
-/
import Derived.Test.YteoacdkgicfomaaNumWalks
import Derived.Test.YteoacdkgicfomaaPathMath
import Derived.WalkMore
import Derived.Deep.LoopGhost
namespace Go.Proofs.Yteoacdkgicfomaa
open Go.RowKit
open Rl

theorem ret_bool {a b : Bool} (h : a = b) : Ending.returned (.bool a) = .returned (.bool b) := by rw [h]

set_option maxHeartbeats 800000 in
theorem segments_any (s : ByteArray) (w : World) (hs : s.size ≤ maxLen) :
    Calls Try.prog 86 #[.string s] w fun e w' => e = .returned (.bool (pathB s.data.toList)) ∧ w' = w := by
  unfold maxLen at hs
  go_enter Try.func86, Try.ntmps86
  go_wp2
  go_loop [0] (fun x => ∃ t : ByteArray, x = .string t ∧ t.size ≤ s.size ∧ pathB t.data.toList = pathB s.data.toList) (fun x => strLen x)
  case atStart => exact ⟨s, rfl, Nat.le_refl _, rfl⟩
  case round =>
    obtain ⟨t, rfl, ht, hp⟩ := hrel
    have HP := hide hp
    clear hp
    by_cases h0 : t.size = 0
    · have hem : t.toList.isEmpty = true := by rw [Lib.toList_data, nil_of_size t h0]; rfl
      have HE := hide (nil_of_size t h0)
      have hz : (t.size : Int) < 2 := by omega
      clear h0
      go_wp2
      go_ret
      exact ⟨ret_bool (by rw [← HP.out, HE.out, pathB_nil]), rfl⟩
    · have hem : t.toList.isEmpty = false := by
        rw [Lib.toList_data]; have := ne_nil_of_size t (by omega)
        revert this; cases t.data.toList <;> simp
      have HN := hide (ne_nil_of_size t (by omega))
      by_cases h2 : t.size < 2
      · have HB := hide (pathB_bad _ HN.out (segOk_false (.inl (by rw [len_data]; exact h2))))
        go_wp2
        go_ret
        exact ⟨ret_bool (by rw [← HP.out, HB.out]), rfl⟩
      · have hb0 := at8_bytes t 0 (by omega)
        have hb1 := at8_bytes t 1 (by omega)
        have hl0 := at8_lt t.data.toList 0
        have hl1 := at8_lt t.data.toList 1
        have Hs := hide (@segOk_false t.data.toList)
        have Ht := hide (@segOk_true t.data.toList)
        have HQ := hide (pathB_step t.data.toList)
        rw [len_data] at Hs Ht
        have hx0 : (0 : Int) < (t.size : Int) := by omega
        have hx1 : (1 : Int) < (t.size : Int) := by omega
        generalize at8 t.data.toList 0 = b0 at *
        generalize at8 t.data.toList 1 = b1 at *
        by_cases hbad : t.size < 2 ∨ b0 < 1 ∨ 2 < b0 ∨ b1 < 1 ∨ t.size < 2 + 4 * b1
        · have HB := hide (pathB_bad _ HN.out (Hs.out hbad))
          clear Hs Ht HQ
          have h4 : b0 < 1 ∨ 2 < b0 ∨ b1 < 1 ∨ t.size < 2 + 4 * b1 := by omega
          clear hbad
          rcases h4 with h | h | h | h
          all_goals
            go_wp2
            all_goals
              go_ret
              exact ⟨ret_bool (by rw [← HP.out, HB.out]), rfl⟩
        · have HB := hide (HQ.out (Ht.out hbad))
          clear Hs Ht HQ
          have h1 : 1 ≤ b0 ∧ b0 ≤ 2 ∧ 1 ≤ b1 ∧ 2 + 4 * b1 ≤ t.size := by omega
          obtain ⟨g1, g2, g3, g4⟩ := h1
          clear hbad
          go_wp2
          go_round
          case rel => exact ⟨_, rfl, by rw [ByteArray.size_extract]; omega, by rw [Lib.extract_to_end, ← HP.out, HB.out]⟩
          case measure => simp only [strLen, ByteArray.size_extract]; omega

end Go.Proofs.Yteoacdkgicfomaa
