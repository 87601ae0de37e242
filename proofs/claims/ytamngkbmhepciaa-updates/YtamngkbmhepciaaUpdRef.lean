/-
  The document's Update: one contract for every message: the same answer.
-/
import Derived.Test.YtamngkbmhepciaaRefUpd3
import Derived.Test.YtamngkbmhepciaaRefText
import Derived.Test.YtamngkbmhepciaaRefNeeds
import Derived.Test.YtamngkbmhepciaaAkSort
namespace Go.Proofs.Ytamngkbmhepciaa
open Go.RowKit
open Rl

theorem isSome_of {α : Type} {o : Option α} {x : α} (h : o = some x) : o.isSome = true := by rw [h]; rfl

theorem updateRef_any (m : ByteArray) (w : World) (hm : m.size ≤ maxLen) :
    Calls Try.prog 12 #[.string m] w fun e w' => Answers (upd m) w e w' := by
  cases hf : frameOk m with
  | false =>
    have hu : upd m = ⟨2, [], [], []⟩ := by unfold upd; rw [if_neg (by simp [hf])]
    rw [hu]
    exact (ref_frame m w hm hf).mono fun e w' h => answers_refused h
  | true =>
    have hu : upd m = updParts (m.extract 19 m.size) := by unfold upd; rw [if_pos hf]
    rw [hu]
    obtain ⟨h19, h200, hE, hN, hK⟩ := frame_size m hf
    have hfr := fun w => frameref_any m w hm
    rw [hE, hN, hK] at hfr
    have hcs : (m.extract 19 m.size).size ≤ m.size := by rw [ByteArray.size_extract]; omega
    have hcm : (m.extract 19 m.size).size ≤ maxLen := Nat.le_trans hcs hm
    obtain ⟨zG, zK, zC⟩ := cut_sizes (m.extract 19 m.size)
    unfold updParts
    cases hp : partsOk (m.extract 19 m.size) with
    | false =>
      rw [if_neg (by simp)]
      exact (ref_parts m w h19 h200 hfr (fun w => partsref_no _ w hcm hp)).mono fun e w' h => answers_refused h
    | true =>
      rw [if_pos rfl]
      have hpa := fun w => partsref_yes (m.extract 19 m.size) w hcm hp
      have yG := Nat.le_trans zG hcs
      have yK := Nat.le_trans zK hcs
      have yC := Nat.le_trans zC hcs
      cases hg : rdAll (cutHead (m.extract 19 m.size)) with
      | none => exact (ref_rd1 m _ _ _ w h19 h200 yG yK yC hfr hpa (by rw [hg]; rfl)).mono fun e w' h => answers_refused h
      | some g =>
        cases hc : rdAll (cutTail (cutTail (m.extract 19 m.size))) with
        | none => exact (ref_rd2 m _ _ _ w h19 h200 yG yK yC hfr hpa (isSome_of hg) (by rw [hc]; rfl)).mono fun e w' h => answers_refused h
        | some a =>
          cases hk : akOf (cutHead (cutTail (m.extract 19 m.size))) with
          | none => exact (ref_ak m _ _ _ w h19 h200 yG yK yC hfr hpa (isSome_of hg) (isSome_of hc) hk).mono fun e w' h => answers_refused h
          | some p =>
            obtain ⟨l, sp⟩ := p
            simp only
            obtain ⟨sn2, hkep⟩ := akOf_kep _ l sp hk
            have hneed := needN_flags l hkep.once
            unfold updBody
            by_cases h0 : a.length = 0
            · rw [if_pos h0]
              have ha : a = [] := List.eq_nil_of_length_eq_zero h0
              subst ha
              exact (ref_none m _ _ _ w h19 h200 yG yK yC hfr hpa g l sp hg hc hk).mono fun e w' h => h
            · rw [if_neg h0]
              by_cases hb : sp = true ∨ needN l ≠ 3
              · rw [if_pos hb]
                cases sp with
                | true => exact (ref_spoilt m _ _ _ w h19 h200 yG yK yC hfr hpa g a l hg hc hk h0 _ (fun b sn sp en wx hK => needs_any b _ _ sn sp en wx hK)).mono fun e w' h => h
                | false =>
                  have hn : needN l ≠ 3 := by rcases hb with h | h; exact absurd h (by simp); exact h
                  have hx : (decide (flagAt l 1 < 0) || decide (flagAt l 2 < 0) || decide (flagAt l 3 < 0)) = true := by
                    have e : (needN l == 3) = false := by rw [beq_eq_false_iff_ne]; exact hn
                    rw [e] at hneed
                    cases hd : (decide (flagAt l 1 < 0) || decide (flagAt l 2 < 0) || decide (flagAt l 3 < 0)) with
                    | true => rfl
                    | false => rw [hd] at hneed; simp at hneed
                  refine (ref_lacks m _ _ _ w h19 h200 yG yK yC hfr hpa g a l hg hc hk h0 (fun b sn sp en wx hK => ?_)).mono fun e w' h => h
                  have h := needs_any b _ _ sn sp en wx hK
                  rw [hx] at h
                  exact h
              · rw [if_neg hb]
                have hs : sp = false := by cases sp <;> simp_all
                have hn : needN l = 3 := by by_cases e : needN l = 3; exact e; exact absurd (Or.inr e) hb
                subst hs
                have hx : (decide (flagAt l 1 < 0) || decide (flagAt l 2 < 0) || decide (flagAt l 3 < 0)) = false := by
                  have e : (needN l == 3) = true := by rw [hn]; rfl
                  rw [e] at hneed
                  cases hd : (decide (flagAt l 1 < 0) || decide (flagAt l 2 < 0) || decide (flagAt l 3 < 0)) with
                  | false => rfl
                  | true => rw [hd] at hneed; simp at hneed
                refine (ref_good m _ _ _ w h19 h200 yG yK yC hfr hpa g a l hg hc hk h0 (fun b sn sp en wx hK => ?_) (fun b sn sp en wx hK => ?_)).mono fun e w' h => h
                · have h := needs_any b _ _ sn sp en wx hK
                  rw [hx] at h
                  exact h
                · have hb1 := canTo_bound l _ (valAt_le hkep) 256
                  have hb2 : (cutHead (cutTail (m.extract 19 m.size))).size ≤ 200 := by omega
                  generalize (cutHead (cutTail (m.extract 19 m.size))).size = z at *
                  exact text_any b l sn sp en wx hK (flagAt_lt hkep) (fun i => Nat.le_trans (valAt_le hkep i) (by omega)) (by omega)

end Go.Proofs.Ytamngkbmhepciaa
