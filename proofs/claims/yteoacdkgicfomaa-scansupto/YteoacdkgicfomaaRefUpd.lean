/-
  The document's Update, walked: where it refuses.
-/
import Derived.Test.YteoacdkgicfomaaUpdAll
import Derived.Test.YteoacdkgicfomaaRefPfx
import Derived.Test.YteoacdkgicfomaaRefAk
namespace Go.Proofs.Yteoacdkgicfomaa
open Go.RowKit
open Rl

theorem rf_yes (s : ByteArray) (l : List (Int × Int)) (w : World) (hs : s.size ≤ 1048576) (h : rdAll s = some l) :
    Calls Try.prog 37 #[.string s] w fun e w' => ∃ a c, e = .returned (.tuple #[.slice a l.length c, .bool true]) ∧ Below w.heap.size w w' ∧ w'.ownsRow w.heap.size 36 2 (.slice a l.length c) l.length (pfCells l) ∧ l.length ≤ s.size := by
  refine (prefixes_any s w hs).mono ?_
  rintro e w' ⟨v, he, hb, hy, _⟩
  obtain ⟨ho, hl⟩ := hy l h
  obtain ⟨a, c, rfl⟩ := slice_of_owns ho
  exact ⟨a, c, by rw [he, h]; rfl, hb, ho, hl⟩

theorem rf_any (s : ByteArray) (b : Bool) (w : World) (hs : s.size ≤ 1048576) (h : (rdAll s).isSome = b) :
    Calls Try.prog 37 #[.string s] w fun e w' => ∃ a n c, e = .returned (.tuple #[.slice a n c, .bool b]) ∧ Below w.heap.size w w' := by
  refine (prefixes_any s w hs).mono ?_
  rintro e w' ⟨v, he, hb, hy, hn⟩
  cases hr : rdAll s with
  | none => exact ⟨none, 0, 0, by rw [he, h, hn hr], hb⟩
  | some l =>
    obtain ⟨a, c, rfl⟩ := slice_of_owns (hy l hr).1
    exact ⟨a, _, c, by rw [he, h], hb⟩

set_option maxRecDepth 20000 in
set_option maxHeartbeats 4000000 in
theorem ref_frame (m : ByteArray) (w : World) (hm : m.size ≤ maxLen) (h : frameOk m = false) :
    Calls Try.prog 13 #[.string m] w fun e w' => e = Refused 2 ∧ Below w.heap.size w w' := by
  have hfr := fun w => frameref_any m w hm
  unfold frameOk at h
  rw [decide_eq_false_iff_not] at h
  generalize frE m.data.toList = E at *
  generalize frN m.data.toList = N at *
  generalize frK m.data.toList = K at *
  unfold Refused
  by_cases hE : E = 0
  · by_cases hN0 : N = 0
    · subst hE
      subst hN0
      clear h
      go_enter Try.func13, Try.ntmps13
      go_wp2_with (first | (go_at_call 11; refine (hfr _).mono ?_; rintro e w1 ⟨rfl, hb1⟩; obtain ⟨⟨q0, q1, q2, f0, f1, f2, ql⟩, hbel⟩ := box3_first _ _ _ _ _ _ hb1))
      refine bodyPost_ret (v := .tuple #[.agg #[.slice none 0 0, .slice none 0 0, .string ⟨#[]⟩], .int .i64 2]) (by simp [results, Try.results13, go_sem, q0, q1, q2]) rfl ⟨rfl, ?_⟩
      exact below_three hbel (Nat.le_refl _) _ _ _
    · have hN1 : (N == 0) = false := by rw [beq_eq_false_iff_ne]; exact hN0
      by_cases hN : N = m.size
      · have hK : (K != 2) = true := by rw [bne_iff_ne]; intro e; exact h ⟨hE, hN, e⟩
        subst hE
        subst hN
        clear h hN0
        go_enter Try.func13, Try.ntmps13
        go_wp2_with (first | (go_at_call 11; refine (hfr _).mono ?_; rintro e w1 ⟨rfl, hb1⟩; obtain ⟨⟨q0, q1, q2, f0, f1, f2, ql⟩, hbel⟩ := box3_first _ _ _ _ _ _ hb1))
        refine bodyPost_ret (v := .tuple #[.agg #[.slice none 0 0, .slice none 0 0, .string ⟨#[]⟩], .int .i64 2]) (by simp [results, Try.results13, go_sem, q0, q1, q2]) rfl ⟨rfl, ?_⟩
        exact below_three hbel (Nat.le_refl _) _ _ _
      · have hN2 : (N != (m.size : Int)) = true := by rw [bne_iff_ne]; exact hN
        subst hE
        clear h hN hN0
        go_enter Try.func13, Try.ntmps13
        go_wp2_with (first | (go_at_call 11; refine (hfr _).mono ?_; rintro e w1 ⟨rfl, hb1⟩; obtain ⟨⟨q0, q1, q2, f0, f1, f2, ql⟩, hbel⟩ := box3_first _ _ _ _ _ _ hb1))
        refine bodyPost_ret (v := .tuple #[.agg #[.slice none 0 0, .slice none 0 0, .string ⟨#[]⟩], .int .i64 2]) (by simp [results, Try.results13, go_sem, q0, q1, q2]) rfl ⟨rfl, ?_⟩
        exact below_three hbel (Nat.le_refl _) _ _ _
  · have hE2 : (E != 0) = true := by rw [bne_iff_ne]; exact hE
    clear h hE
    go_enter Try.func13, Try.ntmps13
    go_wp2_with (first | (go_at_call 11; refine (hfr _).mono ?_; rintro e w1 ⟨rfl, hb1⟩; obtain ⟨⟨q0, q1, q2, f0, f1, f2, ql⟩, hbel⟩ := box3_first _ _ _ _ _ _ hb1))
    refine bodyPost_ret (v := .tuple #[.agg #[.slice none 0 0, .slice none 0 0, .string ⟨#[]⟩], .int .i64 2]) (by simp [results, Try.results13, go_sem, q0, q1, q2]) rfl ⟨rfl, ?_⟩
    exact below_three hbel (Nat.le_refl _) _ _ _

set_option maxRecDepth 20000 in
set_option maxHeartbeats 4000000 in
theorem ref_parts (m : ByteArray) (w : World) (h19 : 19 ≤ m.size) (hm : m.size ≤ 200) (hfr : ∀ w, Calls Try.prog 11 #[.string m] w fun e w' => e = .returned (.tuple #[.int .i64 m.size, .int .i64 2, .int .i64 0]) ∧ Below w.heap.size w w')
    (hpa : ∀ w, Calls Try.prog 36 #[.string (m.extract 19 m.size)] w fun e w' => e = .returned (.tuple #[.string ⟨#[]⟩, .string ⟨#[]⟩, .string ⟨#[]⟩, .bool false]) ∧ Below w.heap.size w w') :
    Calls Try.prog 13 #[.string m] w fun e w' => e = Refused 3 ∧ Below w.heap.size w w' := by
  have hx : (19 : Int) ≤ (m.size : Int) := by omega
  have hz : ((m.size : Int) == 0) = false := by rw [beq_eq_false_iff_ne]; omega
  unfold Refused
  go_enter Try.func13, Try.ntmps13
  go_wp2_with (first | (go_at_call 11; refine (hfr _).mono ?_; rintro e w1 ⟨rfl, hb1⟩; obtain ⟨hbx, hbel⟩ := box3_first _ _ _ _ _ _ hb1; have hsz := hbx.lt) | (go_at_call 36; refine (hpa _).mono ?_; rintro e w2 ⟨rfl, hb2⟩; have hbel2 := later_below hbel hb2 hbel.size; obtain ⟨q0, q1, q2, f0, f1, f2, ql⟩ := hbx.later hb2))
  refine bodyPost_ret (v := .tuple #[.agg #[.slice none 0 0, .slice none 0 0, .string ⟨#[]⟩], .int .i64 3]) (by simp [results, Try.results13, go_sem, q0, q1, q2]) rfl ⟨rfl, ?_⟩
  exact below_three hbel2 (Nat.le_refl _) _ _ _

set_option maxRecDepth 20000 in
set_option maxHeartbeats 4000000 in
theorem ref_rd1 (m G K C : ByteArray) (w : World) (h19 : 19 ≤ m.size) (hm : m.size ≤ 200) (hG : G.size ≤ m.size) (hKs : K.size ≤ m.size) (hC : C.size ≤ m.size) (hfr : ∀ w, Calls Try.prog 11 #[.string m] w fun e w' => e = .returned (.tuple #[.int .i64 m.size, .int .i64 2, .int .i64 0]) ∧ Below w.heap.size w w')
    (hpa : ∀ w, Calls Try.prog 36 #[.string (m.extract 19 m.size)] w fun e w' => e = .returned (.tuple #[.string G, .string K, .string C, .bool true]) ∧ Below w.heap.size w w')
    (hg : (rdAll G).isSome = false) :
    Calls Try.prog 13 #[.string m] w fun e w' => e = Refused 3 ∧ Below w.heap.size w w' := by
  have hx : (19 : Int) ≤ (m.size : Int) := by omega
  have hz : ((m.size : Int) == 0) = false := by rw [beq_eq_false_iff_ne]; omega
  have hr1 := fun w => rf_any G false w (by omega) hg
  have hr2 := fun w => rf_any C _ w (by omega) rfl
  have hak := fun w => attributes_any K w (by omega)
  generalize (rdAll C).isSome = b2 at *
  clear hg
  unfold Refused
  go_enter Try.func13, Try.ntmps13
  go_wp2_with (first | (go_at_call 11; refine (hfr _).mono ?_; rintro e w1 ⟨rfl, hb1⟩; obtain ⟨hbx, hbel⟩ := box3_first _ _ _ _ _ _ hb1; have hsz := hbx.lt) | (go_at_call 36; refine (hpa _).mono ?_; rintro e w2 ⟨rfl, hb2⟩; have hbx2 := hbx.later hb2; have hbel2 := later_below hbel hb2 hbel.size) | (go_at_call_of 37 (G); refine (hr1 _).mono ?_; rintro e w3 ⟨a1, n1, c1, rfl, hb3⟩; have hbel3 := later_below hbel2 hb3 hbel2.size; have hbx3 := hbx2.later hb3) | (go_at_call_of 37 (C); refine (hr2 _).mono ?_; rintro e w4 ⟨a2, n2, c2, rfl, hb4⟩; have hbel4 := later_below hbel3 hb4 hbel3.size; have hbx4 := hbx3.later hb4) | (go_at_call 38; refine (hak _).mono ?_; rintro e w5 ⟨rfl, hb5, l, sn, sp, en, hK, hend⟩; have hbel5 := later_below hbel4 hb5 hbel4.size; obtain ⟨q0, q1, q2, f0, f1, f2, ql⟩ := hbx4.later hb5; have hcE := hK.ends))
  refine bodyPost_ret (v := .tuple #[.agg #[.slice none 0 0, .slice none 0 0, .string ⟨#[]⟩], .int .i64 3]) (by simp [results, Try.results13, go_sem, q0, q1, q2]) rfl ⟨rfl, ?_⟩
  exact below_three hbel5 (Nat.le_refl _) _ _ _

set_option maxRecDepth 20000 in
set_option maxHeartbeats 4000000 in
theorem ref_rd2 (m G K C : ByteArray) (w : World) (h19 : 19 ≤ m.size) (hm : m.size ≤ 200) (hG : G.size ≤ m.size) (hKs : K.size ≤ m.size) (hC : C.size ≤ m.size) (hfr : ∀ w, Calls Try.prog 11 #[.string m] w fun e w' => e = .returned (.tuple #[.int .i64 m.size, .int .i64 2, .int .i64 0]) ∧ Below w.heap.size w w')
    (hpa : ∀ w, Calls Try.prog 36 #[.string (m.extract 19 m.size)] w fun e w' => e = .returned (.tuple #[.string G, .string K, .string C, .bool true]) ∧ Below w.heap.size w w')
    (hg : (rdAll G).isSome = true) (hc : (rdAll C).isSome = false) :
    Calls Try.prog 13 #[.string m] w fun e w' => e = Refused 3 ∧ Below w.heap.size w w' := by
  have hx : (19 : Int) ≤ (m.size : Int) := by omega
  have hz : ((m.size : Int) == 0) = false := by rw [beq_eq_false_iff_ne]; omega
  have hr1 := fun w => rf_any G true w (by omega) hg
  have hr2 := fun w => rf_any C false w (by omega) hc
  have hak := fun w => attributes_any K w (by omega)
  clear hg hc
  unfold Refused
  go_enter Try.func13, Try.ntmps13
  go_wp2_with (first | (go_at_call 11; refine (hfr _).mono ?_; rintro e w1 ⟨rfl, hb1⟩; obtain ⟨hbx, hbel⟩ := box3_first _ _ _ _ _ _ hb1; have hsz := hbx.lt) | (go_at_call 36; refine (hpa _).mono ?_; rintro e w2 ⟨rfl, hb2⟩; have hbx2 := hbx.later hb2; have hbel2 := later_below hbel hb2 hbel.size) | (go_at_call_of 37 (G); refine (hr1 _).mono ?_; rintro e w3 ⟨a1, n1, c1, rfl, hb3⟩; have hbel3 := later_below hbel2 hb3 hbel2.size; have hbx3 := hbx2.later hb3) | (go_at_call_of 37 (C); refine (hr2 _).mono ?_; rintro e w4 ⟨a2, n2, c2, rfl, hb4⟩; have hbel4 := later_below hbel3 hb4 hbel3.size; have hbx4 := hbx3.later hb4) | (go_at_call 38; refine (hak _).mono ?_; rintro e w5 ⟨rfl, hb5, l, sn, sp, en, hK, hend⟩; have hbel5 := later_below hbel4 hb5 hbel4.size; obtain ⟨q0, q1, q2, f0, f1, f2, ql⟩ := hbx4.later hb5; have hcE := hK.ends))
  refine bodyPost_ret (v := .tuple #[.agg #[.slice none 0 0, .slice none 0 0, .string ⟨#[]⟩], .int .i64 3]) (by simp [results, Try.results13, go_sem, q0, q1, q2]) rfl ⟨rfl, ?_⟩
  exact below_three hbel5 (Nat.le_refl _) _ _ _

theorem refEnd_none {s : ByteArray} {l : List At} {sp en : Bool} (h : RefEnd s l sp en) (hk : akOf s = none) : en = true := by
  rcases h with ⟨_, e2⟩ | ⟨e1, _⟩
  · rw [hk] at e2; exact absurd e2 (by simp)
  · exact e1

theorem refEnd_some {s : ByteArray} {l l2 : List At} {sp sp2 en : Bool} (h : RefEnd s l sp en) (hk : akOf s = some (l2, sp2)) : en = false ∧ l = l2 ∧ sp = sp2 := by
  rcases h with ⟨e1, e2⟩ | ⟨_, e2⟩
  · rw [hk] at e2
    simp only [Option.some.injEq, Prod.mk.injEq] at e2
    exact ⟨e1, e2.1.symm, e2.2.symm⟩
  · rw [hk] at e2; exact absurd e2 (by simp)

set_option maxRecDepth 20000 in
set_option maxHeartbeats 4000000 in
theorem ref_ak (m G K C : ByteArray) (w : World) (h19 : 19 ≤ m.size) (hm : m.size ≤ 200) (hG : G.size ≤ m.size) (hKs : K.size ≤ m.size) (hC : C.size ≤ m.size) (hfr : ∀ w, Calls Try.prog 11 #[.string m] w fun e w' => e = .returned (.tuple #[.int .i64 m.size, .int .i64 2, .int .i64 0]) ∧ Below w.heap.size w w')
    (hpa : ∀ w, Calls Try.prog 36 #[.string (m.extract 19 m.size)] w fun e w' => e = .returned (.tuple #[.string G, .string K, .string C, .bool true]) ∧ Below w.heap.size w w')
    (hg : (rdAll G).isSome = true) (hc : (rdAll C).isSome = true) (hk : akOf K = none) :
    Calls Try.prog 13 #[.string m] w fun e w' => e = Refused 3 ∧ Below w.heap.size w w' := by
  have hx : (19 : Int) ≤ (m.size : Int) := by omega
  have hz : ((m.size : Int) == 0) = false := by rw [beq_eq_false_iff_ne]; omega
  have hr1 := fun w => rf_any G true w (by omega) hg
  have hr2 := fun w => rf_any C true w (by omega) hc
  have hak := fun w => attributes_any K w (by omega)
  clear hg hc
  unfold Refused
  go_enter Try.func13, Try.ntmps13
  go_wp2_with (first | (go_at_call 11; refine (hfr _).mono ?_; rintro e w1 ⟨rfl, hb1⟩; obtain ⟨hbx, hbel⟩ := box3_first _ _ _ _ _ _ hb1; have hsz := hbx.lt) | (go_at_call 36; refine (hpa _).mono ?_; rintro e w2 ⟨rfl, hb2⟩; have hbx2 := hbx.later hb2; have hbel2 := later_below hbel hb2 hbel.size) | (go_at_call_of 37 (G); refine (hr1 _).mono ?_; rintro e w3 ⟨a1, n1, c1, rfl, hb3⟩; have hbel3 := later_below hbel2 hb3 hbel2.size; have hbx3 := hbx2.later hb3) | (go_at_call_of 37 (C); refine (hr2 _).mono ?_; rintro e w4 ⟨a2, n2, c2, rfl, hb4⟩; have hbel4 := later_below hbel3 hb4 hbel3.size; have hbx4 := hbx3.later hb4) | (go_at_call 38; refine (hak _).mono ?_; rintro e w5 ⟨rfl, hb5, l, sn, sp, en, hK, hend⟩; have hbel5 := later_below hbel4 hb5 hbel4.size; obtain ⟨q0, q1, q2, f0, f1, f2, ql⟩ := hbx4.later hb5; have hen : en = true := refEnd_none hend hk; subst hen; have hcE := hK.ends))
  refine bodyPost_ret (v := .tuple #[.agg #[.slice none 0 0, .slice none 0 0, .string ⟨#[]⟩], .int .i64 3]) (by simp [results, Try.results13, go_sem, q0, q1, q2]) rfl ⟨rfl, ?_⟩
  exact below_three hbel5 (Nat.le_refl _) _ _ _


set_option maxRecDepth 20000 in
set_option maxHeartbeats 4000000 in
theorem ref_none (m G K C : ByteArray) (w : World) (h19 : 19 ≤ m.size) (hm : m.size ≤ 200) (hG : G.size ≤ m.size) (hKs : K.size ≤ m.size) (hC : C.size ≤ m.size) (hfr : ∀ w, Calls Try.prog 11 #[.string m] w fun e w' => e = .returned (.tuple #[.int .i64 m.size, .int .i64 2, .int .i64 0]) ∧ Below w.heap.size w w')
    (hpa : ∀ w, Calls Try.prog 36 #[.string (m.extract 19 m.size)] w fun e w' => e = .returned (.tuple #[.string G, .string K, .string C, .bool true]) ∧ Below w.heap.size w w')
    (g : List (Int × Int)) (l : List At) (sp : Bool) (hg : rdAll G = some g) (hc : rdAll C = some []) (hk : akOf K = some (l, sp)) :
    Calls Try.prog 13 #[.string m] w fun e w' => Answers ⟨0, g, [], []⟩ w e w' := by
  have hx : (19 : Int) ≤ (m.size : Int) := by omega
  have hz : ((m.size : Int) == 0) = false := by rw [beq_eq_false_iff_ne]; omega
  have hr1 := fun w => rf_yes G g w (by omega) hg
  have hr2 := fun w => rf_yes C [] w (by omega) hc
  simp only [List.length_nil] at hr2
  have hak := fun w => attributes_any K w (by omega)
  clear hg hc
  go_enter Try.func13, Try.ntmps13
  go_wp2_with (first | (go_at_call 11; refine (hfr _).mono ?_; rintro e w1 ⟨rfl, hb1⟩; obtain ⟨hbx, hbel⟩ := box3_first _ _ _ _ _ _ hb1; have hsz := hbx.lt) | (go_at_call 36; refine (hpa _).mono ?_; rintro e w2 ⟨rfl, hb2⟩; have hbx2 := hbx.later hb2; have hbel2 := later_below hbel hb2 hbel.size) | (go_at_call_of 37 (G); refine (hr1 _).mono ?_; rintro e w3 ⟨a1, c1, rfl, hb3, ho1, hl1⟩; have hbel3 := later_below hbel2 hb3 hbel2.size; have hbx3 := hbx2.later hb3) | (go_at_call_of 37 (C); refine (hr2 _).mono ?_; rintro e w4 ⟨a2, c2, rfl, hb4, ho2, hl2⟩; have hbel4 := later_below hbel3 hb4 hbel3.size; have hbx4 := hbx3.later hb4) | (go_at_call 38; refine (hak _).mono ?_; rintro e w5 ⟨rfl, hb5, l0, sn, sp0, en, hK, hend⟩; obtain ⟨rfl, rfl, rfl⟩ := refEnd_some hend hk; have hbel5 := later_below hbel4 hb5 hbel4.size; have hbx5 := hbx4.later hb5; obtain ⟨q0, q1, q2, f0, f1, f2, ql⟩ := hbx5; have hcE := hK.ends; have hcS := hK.spoilt))
  refine bodyPost_ret (v := .tuple #[.agg #[.slice a1 g.length c1, .slice none 0 0, .string ⟨#[]⟩], .int .i64 0]) (by simp [results, Try.results13, go_sem, q0, q1, q2]) rfl ⟨_, _, rfl, below_three hbel5 (Nat.le_refl _) _ _ _, ?_, ?_, ?_⟩
  · exact owns_box (owns_later (owns_later ho1 hb4) hb5) (Nat.lt_of_lt_of_le hbx.lt hb2.size) _ _ _
  · exact World.ownsRow_nil _ _ _ _
  · exact apart_nil _

set_option maxRecDepth 20000 in
set_option maxHeartbeats 4000000 in
theorem ref_good (m G K C : ByteArray) (w : World) (h19 : 19 ≤ m.size) (hm : m.size ≤ 200) (hG : G.size ≤ m.size) (hKs : K.size ≤ m.size) (hC : C.size ≤ m.size) (hfr : ∀ w, Calls Try.prog 11 #[.string m] w fun e w' => e = .returned (.tuple #[.int .i64 m.size, .int .i64 2, .int .i64 0]) ∧ Below w.heap.size w w')
    (hpa : ∀ w, Calls Try.prog 36 #[.string (m.extract 19 m.size)] w fun e w' => e = .returned (.tuple #[.string G, .string K, .string C, .bool true]) ∧ Below w.heap.size w w')
    (g a : List (Int × Int)) (l : List At) (hg : rdAll G = some g) (hc : rdAll C = some a) (hk : akOf K = some (l, false)) (h0 : a.length ≠ 0)
    (hneeds : ∀ b sn sp en wx, KeptAt wx b (flagAt l) (valAt l) sn sp en → Calls Try.prog 39 #[.pointer (some ⟨b, 0, none⟩)] wx fun e w' => e = .returned (.bool false) ∧ w' = wx)
    (htext : ∀ b sn sp en wx, KeptAt wx b (flagAt l) (valAt l) sn sp en → Calls Try.prog 40 #[.pointer (some ⟨b, 0, none⟩)] wx fun e w' => e = .returned (.string ⟨(canTo l 256).toArray⟩) ∧ Below wx.heap.size wx w') :
    Calls Try.prog 13 #[.string m] w fun e w' => Answers ⟨0, g, a, canTo l 256⟩ w e w' := by
  have hx : (19 : Int) ≤ (m.size : Int) := by omega
  have hz : ((m.size : Int) == 0) = false := by rw [beq_eq_false_iff_ne]; omega
  have hr1 := fun w => rf_yes G g w (by omega) hg
  have hr2 := fun w => rf_yes C a w (by omega) hc
  have hak := fun w => attributes_any K w (by omega)
  have hq : ((a.length : Int) == 0) = false := by rw [beq_eq_false_iff_ne]; omega
  clear hg hc
  obtain ⟨T, eT⟩ : ∃ T : ByteArray, T = ⟨(canTo l 256).toArray⟩ := ⟨_, rfl⟩
  rw [← eT] at htext
  have HTX := hide eT
  clear eT
  go_enter Try.func13, Try.ntmps13
  go_wp2_with (first | (go_at_call 11; refine (hfr _).mono ?_; rintro e w1 ⟨rfl, hb1⟩; obtain ⟨hbx, hbel⟩ := box3_first _ _ _ _ _ _ hb1; have hsz := hbx.lt) | (go_at_call 36; refine (hpa _).mono ?_; rintro e w2 ⟨rfl, hb2⟩; have hbx2 := hbx.later hb2; have hbel2 := later_below hbel hb2 hbel.size) | (go_at_call_of 37 (G); refine (hr1 _).mono ?_; rintro e w3 ⟨a1, c1, rfl, hb3, ho1, hl1⟩; have hbel3 := later_below hbel2 hb3 hbel2.size; have hbx3 := hbx2.later hb3) | (go_at_call_of 37 (C); refine (hr2 _).mono ?_; rintro e w4 ⟨a2, c2, rfl, hb4, ho2, hl2⟩; have hbel4 := later_below hbel3 hb4 hbel3.size; have hbx4 := hbx3.later hb4) | (go_at_call 38; refine (hak _).mono ?_; rintro e w5 ⟨rfl, hb5, l0, sn, sp0, en, hK, hend⟩; obtain ⟨rfl, rfl, rfl⟩ := refEnd_some hend hk; have hbel5 := later_below hbel4 hb5 hbel4.size; have hbx5 := hbx4.later hb5; obtain ⟨q0, q1, q2, f0, f1, f2, ql⟩ := hbx5; have hcE := hK.ends; have hcS := hK.spoilt) | (go_at_call 39; refine (hneeds _ _ _ _ _ hK).mono ?_; rintro e wn ⟨rfl, hw⟩; rw [hw]; clear hw wn) | (go_at_call 40; refine (htext _ _ _ _ _ hK).mono ?_; rintro e w6 ⟨rfl, hb6⟩; have hbel6 := later_below hbel5 hb6 hbel5.size; obtain ⟨q0, q1, q2, f0, f1, f2, ql⟩ := hbx4.later hb5 |>.later hb6))
  refine bodyPost_ret (v := .tuple #[.agg #[.slice a1 g.length c1, .slice a2 a.length c2, .string T], .int .i64 0]) (by simp [results, Try.results13, go_sem, q0, q1, q2]) rfl ⟨_, _, by rw [HTX.out], below_three hbel6 (Nat.le_refl _) _ _ _, ?_, ?_, ?_⟩
  · exact owns_box (owns_later (owns_later (owns_later ho1 hb4) hb5) hb6) (Nat.lt_of_lt_of_le hbx.lt hb2.size) _ _ _
  · exact owns_box (owns_later (owns_later ho2 hb5) hb6) (Nat.lt_of_lt_of_le (Nat.lt_of_lt_of_le hbx.lt hb2.size) hb3.size) _ _ _
  · intro k hk1 hk2
    have h1 := (ho1.lt k hk1).2
    have h2 := (ho2.lt k hk2).1
    omega

end Go.Proofs.Yteoacdkgicfomaa
