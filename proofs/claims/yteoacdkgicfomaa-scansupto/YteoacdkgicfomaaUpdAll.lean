/-
  message.Update and routelog.Update: one contract for every message.
-/
import Derived.Test.YteoacdkgicfomaaUpdOwn
namespace Go.Proofs.Yteoacdkgicfomaa
open Go.RowKit
open Rl

theorem frame_size (m : ByteArray) (h : frameOk m = true) : 19 ≤ m.size ∧ m.size ≤ 200 ∧ frE m.data.toList = 0 ∧ frN m.data.toList = m.size ∧ frK m.data.toList = 2 := by
  unfold frameOk at h
  rw [decide_eq_true_iff] at h
  obtain ⟨hE, hN, hK⟩ := h
  refine ⟨?_, ?_, hE, hN, hK⟩
  all_goals
    cases hm : marked m.data.toList with
    | false => have := fr_unmarked _ hm; omega
    | true =>
      by_cases h1 : m.data.toList.length < 18
      · have := fr_short _ hm h1; omega
      · by_cases h2 : told2 m.data.toList < 19 ∨ 200 < told2 m.data.toList
        · have := fr_bad _ hm h1 h2; omega
        · by_cases h3 : (m.data.toList.length : Int) < told2 m.data.toList
          · have := fr_part _ hm h1 h2 h3; omega
          · have := fr_whole _ hm h1 h2 h3; omega

/-- what both Updates answer: the change's three fields and the error; the two lists are the caller's, and apart. -/
def Answers (u : Upd) (w : World) (e : Ending) (w' : World) : Prop :=
  ∃ v1 v2, e = .returned (.tuple #[.agg #[v1, v2, .string ⟨u.text.toArray⟩], .int .i64 u.err]) ∧ Below w.heap.size w w' ∧ w'.ownsRow w.heap.size 36 2 v1 u.gone.length (pfCells u.gone) ∧ w'.ownsRow w.heap.size 36 2 v2 u.come.length (pfCells u.come) ∧ Apart v1 v2

theorem answers_refused {E : Int} {w w' : World} {e : Ending} (h : e = Refused E ∧ Below w.heap.size w w') : Answers ⟨E, [], [], []⟩ w e w' :=
  ⟨.slice none 0 0, .slice none 0 0, h.1, h.2, World.ownsRow_nil _ _ _ _, World.ownsRow_nil _ _ _ _, apart_nil _⟩

theorem cut_sizes (c : ByteArray) : (cutHead c).size ≤ c.size ∧ (cutHead (cutTail c)).size ≤ c.size ∧ (cutTail (cutTail c)).size ≤ c.size := by
  have h1 := cutTail_le c
  have h2 := cutTail_le (cutTail c)
  refine ⟨?_, ?_, by omega⟩
  · unfold cutHead; rw [ByteArray.size_extract]; omega
  · unfold cutHead; rw [ByteArray.size_extract]; omega

theorem update_any (m : ByteArray) (w : World) (hm : m.size ≤ maxLen) :
    Calls Try.prog 35 #[.string m] w fun e w' => Answers (upd m) w e w' := by
  cases hf : frameOk m with
  | false =>
    have hu : upd m = ⟨2, [], [], []⟩ := by unfold upd; rw [if_neg (by simp [hf])]
    rw [hu]
    exact (upd_frame m w hm hf).mono fun e w' h => answers_refused h
  | true =>
    have hu : upd m = updParts (m.extract 19 m.size) := by unfold upd; rw [if_pos hf]
    rw [hu]
    obtain ⟨h19, h200, hE, hN, hK⟩ := frame_size m hf
    have hfr := fun w => frame_any m w hm
    rw [hE, hN, hK] at hfr
    have hcs : (m.extract 19 m.size).size ≤ m.size := by rw [ByteArray.size_extract]; omega
    have hcm : (m.extract 19 m.size).size ≤ maxLen := Nat.le_trans hcs hm
    obtain ⟨zG, zK, zC⟩ := cut_sizes (m.extract 19 m.size)
    have hm2 : m.size ≤ 1048576 := by omega
    unfold updParts
    cases hp : partsOk (m.extract 19 m.size) with
    | false =>
      rw [if_neg (by simp)]
      have hpa : ∀ w, Calls Try.prog 53 #[.string (m.extract 19 m.size)] w fun e w' => (∃ a b c : Value, e = .returned (.tuple #[a, b, c, .bool false])) ∧ Below w.heap.size w w' := by
        intro w
        cases h1 : cutOk (m.extract 19 m.size) with
        | false => exact (parts_no1 _ w hcm h1).mono fun e w' h => ⟨⟨_, _, _, h.1⟩, h.2⟩
        | true =>
          have h2 : cutOk (cutTail (m.extract 19 m.size)) = false := by unfold partsOk at hp; rw [h1] at hp; simpa using hp
          exact (parts_no2 _ w hcm h1 h2).mono fun e w' h => ⟨⟨_, _, _, h.1⟩, h.2⟩
      exact (upd_parts m w h19 hm2 hfr hpa).mono fun e w' h => answers_refused h
    | true =>
      rw [if_pos rfl]
      have hp2 := hp
      unfold partsOk at hp2
      rw [Bool.and_eq_true] at hp2
      have hpa := fun w => parts_yes (m.extract 19 m.size) w hcm hp2.1 hp2.2
      have yG := Nat.le_trans zG hcs
      have yK := Nat.le_trans zK hcs
      have yC := Nat.le_trans zC hcs
      cases hg : rdAll (cutHead (m.extract 19 m.size)) with
      | none => exact (upd_rd1 m _ _ _ w h19 hm2 yG yK yC hfr hpa hg).mono fun e w' h => answers_refused h
      | some g =>
        cases hc : rdAll (cutTail (cutTail (m.extract 19 m.size))) with
        | none => exact (upd_rd2 m _ _ _ w h19 hm2 yG yK yC hfr hpa g hg hc).mono fun e w' h => answers_refused h
        | some a =>
          cases hk : akOf (cutHead (cutTail (m.extract 19 m.size))) with
          | none => exact (upd_ak m _ _ _ w h19 hm2 yG yK yC hfr hpa g a hg hc hk).mono fun e w' h => answers_refused h
          | some p =>
            obtain ⟨l, sp⟩ := p
            simp only
            unfold updBody
            by_cases h0 : a.length = 0
            · rw [if_pos h0]
              have ha : a = [] := List.eq_nil_of_length_eq_zero h0
              subst ha
              exact (upd_none m _ _ _ w h19 h200 yG yK yC hfr hpa g l sp hg hc hk).mono fun e w' h => h
            · rw [if_neg h0]
              by_cases hb : sp = true ∨ needN l ≠ 3
              · rw [if_pos hb]
                exact (upd_bad m _ _ _ w h19 h200 yG yK yC hfr hpa g a l sp hg hc hk h0 hb).mono fun e w' h => h
              · rw [if_neg hb]
                have hs : sp = false := by cases sp <;> simp_all
                have hn : needN l = 3 := by by_cases e : needN l = 3; exact e; exact absurd (Or.inr e) hb
                subst hs
                exact (upd_good m _ _ _ w h19 h200 yG yK yC hfr hpa g a l hg hc hk h0 hn).mono fun e w' h => h

/-- the call that a statement names. -/
theorem update_outer (m : ByteArray) (w : World) (hm : m.size ≤ maxLen) :
    Calls Try.prog 12 #[.string m] w fun e w' => Answers (upd m) w e w' := by
  have h := fun wx => update_any m wx hm
  generalize upd m = u at *
  obtain ⟨E, g, a, T⟩ := u
  go_enter Try.func12, Try.ntmps12
  go_wp2_with (first | (go_at_call 35; refine (h _).mono ?_; rintro e w' ⟨v1, v2, rfl, hb, h1, h2, h3⟩; obtain ⟨a1, c1, rfl⟩ := slice_of_owns h1; obtain ⟨a2, c2, rfl⟩ := slice_of_owns h2; obtain ⟨⟨q0, q1, q2, f0, f1, f2, ql⟩, hbel⟩ := box3_first _ _ _ _ _ _ hb))
  refine bodyPost_ret (v := .tuple #[.agg #[.slice a1 g.length c1, .slice a2 a.length c2, .string ⟨T.toArray⟩], .int .i64 E]) (by simp [results, Try.results12, go_sem, q0, q1, q2]) rfl ⟨_, _, rfl, below_three hbel (Nat.le_refl _) _ _ _, ?_, ?_, h3⟩
  · exact owns_box h1 (by simp) _ _ _
  · exact owns_box h2 (by simp) _ _ _

end Go.Proofs.Yteoacdkgicfomaa
