/-
  message.readCanonical, walked: the attributes of a canonical text; false, if it is none.
-/
import Derived.Test.YteoacdkgicfomaaNeeded
import Derived.Test.YteoacdkgicfomaaCanonMath
import Derived.OwnWalk
namespace Go.Proofs.Yteoacdkgicfomaa
open Go.RowKit
open Rl

theorem info_attr : (Try.prog.info? 104).map (fun i => (i.zero, i.size, i.bytes)) = some (some (.agg #[.int .i64 0, .int .i64 0, .string ⟨#[]⟩]), 3, 32) := by kernel_rfl

set_option maxRecDepth 20000 in
set_option maxHeartbeats 1600000 in
theorem readCanonical_any (s : ByteArray) (w : World) (hs : s.size ≤ 1048576) :
    Calls Try.prog 58 #[.string s] w fun e w' => ∃ v, e = .returned (.tuple #[v, .bool (canB s)]) ∧ Below w.heap.size w w' ∧ (canB s = true → w'.ownsRow w.heap.size 104 3 v (canL s).length (atCells (canL s)) ∧ (canL s).length ≤ s.size) := by
  obtain ⟨i0, hi, hz0, hz1, hz2⟩ := info_parts info_attr
  go_enter Try.func58, Try.ntmps58
  go_wp2
  go_loopw [0, 4, 5] (fun x l p wr => ∃ (t : ByteArray) (last : Int) (xs : List At) (lv : Value), lv = l ∧ x = .string t ∧ p = .int .i64 last ∧ -1 ≤ last ∧ last < 256 ∧ t.size + 4 * xs.length ≤ s.size ∧ ReadTo s t last xs ∧ wr.ownsRow w.heap.size 104 3 lv xs.length (atCells xs) ∧ Below w.heap.size w wr) (fun x _ _ _ => strLen x)
  case atStart => exact ⟨s, -1, [], _, rfl, rfl, rfl, by omega, by omega, by simp, readTo_start s, World.ownsRow_nil _ _ _ _, Below.refl _ _⟩
  case round =>
    obtain ⟨t, last, xs, lv, rfl, rfl, rfl, hl0, hl1, hsz, hread, hown, hbel⟩ := hrel
    have HR := hide hread
    clear hread
    have htm : t.size ≤ maxLen := by unfold maxLen; omega
    by_cases h0 : t.size = 0
    · have hem : t.toList.isEmpty = true := by rw [isEmpty_size]; simp [h0]
      have HE := hide (readTo_end HR.out h0)
      clear h0
      go_wp2_with (go_at_call 81; refine (hasNeeded_any _ xs _ (by omega) (rowAt_of_owns hown)).mono ?_; rintro e w' ⟨rfl, hb2⟩)
      go_ret2
      refine ⟨lv, ?_, later_below hbel hb2 hbel.size, fun _ => ?_⟩
      · rw [HE.out.1]; rfl
      · rw [HE.out.2]; exact ⟨owns_later hown hb2, by omega⟩
    · have hem : t.toList.isEmpty = false := by rw [isEmpty_size]; simp [h0]
      have H0 := hide h0
      clear h0
      cases hw : wholeZ 2 t with
      | false =>
        have HB := hide (readTo_fail HR.out H0.out (canOk_false_whole t last hw))
        go_wp2_with (go_at_call 74; refine (cut_none t 2 _ htm (by omega) hw).mono ?_; rintro e w' ⟨rfl, hb2⟩)
        go_ret2
        refine ⟨.slice none 0 0, ?_, (later_below hbel hb2 hbel.size).alloc (Nat.le_trans hbel.size hb2.size) _, fun h => ?_⟩
        · rw [HB.out]; rfl
        · rw [HB.out] at h; exact absurd h (by simp)
      | true =>
        have hrs := restC_size t hw
        have hcut := fun w => cut_some t 2 w htm (by omega) hw
        change ∀ w, Calls Try.prog 74 #[.string t, .int .i64 2] w fun e w' => e = .returned (.tuple #[.agg #[.int .i64 ((headC t).flags : Int), .int .i64 ((headC t).kind : Int), .string (headC t).val], .string (restC t), .bool true]) ∧ Below w.heap.size w w' at hcut
        have hv := headC_val t
        have hk := headC_kind t
        by_cases hlast : ((headC t).kind : Int) ≤ last
        · have HB := hide (readTo_fail HR.out H0.out (canOk_false_last t last hlast))
          generalize headC t = a at *
          clear hrs
          generalize restC t = r at *
          go_wp2_with (go_at_call 74; refine (hcut _).mono ?_; rintro e w' ⟨rfl, hb2⟩)
          go_ret2
          refine ⟨.slice none 0 0, ?_, (later_below hbel hb2 hbel.size).alloc (Nat.le_trans hbel.size hb2.size) _, fun h => ?_⟩
          · rw [HB.out]; rfl
          · rw [HB.out] at h; exact absurd h (by simp)
        · cases hok : atOk (headC t).flags (headC t).kind (headC t).val with
          | false =>
            have HB := hide (readTo_fail HR.out H0.out (canOk_false_at t last hok))
            have hcan := fun w => isCanonical_any (headC t).flags (headC t).kind (headC t).val w (by unfold maxLen; omega)
            rw [hok] at hcan
            clear hok
            generalize headC t = a at *
            clear hrs
            generalize restC t = r at *
            go_wp2_with (first | (go_at_call 74; refine (hcut _).mono ?_; rintro e w' ⟨rfl, hb2⟩) | (go_at_call 83; refine (hcan _).mono ?_; rintro e w'' ⟨rfl, hb3⟩))
            go_ret2
            refine ⟨.slice none 0 0, ?_, later_below ((later_below hbel hb2 hbel.size).alloc (Nat.le_trans hbel.size hb2.size) _) hb3 (by simp; exact Nat.le_succ_of_le (Nat.le_trans hbel.size hb2.size)), fun h => ?_⟩
            · rw [HB.out]; rfl
            · rw [HB.out] at h; exact absurd h (by simp)
          | true =>
            have HT := hide (readTo_step HR.out (canOk_true t last hw (by omega) hok))
            have hcan := fun w => isCanonical_any (headC t).flags (headC t).kind (headC t).val w (by unfold maxLen; omega)
            rw [hok] at hcan
            clear hok
            generalize headC t = a at *
            generalize restC t = r at *
            go_wp2_with (go_at_call 74; refine (hcut _).mono ?_; rintro e w' ⟨rfl, hb2⟩)
            refine (hcan _).mono ?_
            rintro e w2 ⟨rfl, hb3⟩
            obtain ⟨k1, k2, k3, k4⟩ := new3 hb3
            have hown2 := owns_later ((owns_later hown hb2).alloc _) hb3
            have hbel2 : Below w.heap.size w w2 := later_below ((later_below hbel hb2 hbel.size).alloc (Nat.le_trans hbel.size hb2.size) _) hb3 (by simp; exact Nat.le_succ_of_le (Nat.le_trans hbel.size hb2.size))
            have hne := own_ne (owns_later hown hb2) w'.heap.size (Nat.le_refl _)
            clear hown hbel hb2 hb3 hcan hcut
            go_wp2_with (at_builtin; refine wpList_append_own _ rfl _ _ 86 rfl w.heap.size 104 i0 (.agg #[.int .i64 0, .int .i64 0, .string ⟨#[]⟩]) 3 32 Try.underlying86 hi hz0 hz1 hz2 rfl (by decide) _ _ _ rfl (hown2.alloc _) ⟨w2.heap.size, 0, none⟩ 1 1 [.int .i64 (a.flags : Int), .int .i64 (a.kind : Int), .string a.val] rfl rfl (cells_new _ _ _) ?c2 ?c3 ?c4 ?c5 ?_)
            case c2 => intro u hu; simp at hu; rcases hu with rfl | rfl | rfl <;> rfl
            case c3 => unfold maxLen; omega
            case c4 => omega
            case c5 => have := hbel2.size; simp; omega
            intro v' w4 hown4 hgrow4 _
            have q2 := grown_cell hgrow4 k2 hne
            have hbel4 := below_app hbel2 hbel2.size hown2 hgrow4
            clear hgrow4 hown2 hbel2 k1 k2 k3 k4
            go_wp2
            go_quiet (fail)
            go_wp2
            refine ⟨⟨r, a.kind, xs ++ [a], v', rfl, rfl, rfl, by omega, by omega, by simp; omega, HT.out, ?_, below_drewN hbel4 _⟩, by simp only [strLen]; omega⟩
            rw [List.length_append, atCells_snoc]
            exact owns_drewN hown4 _

end Go.Proofs.Yteoacdkgicfomaa
