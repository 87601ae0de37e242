/-
  The program's Update, walked.
-/
import Derived.Test.YteoacdkgicfomaaUpdMath
namespace Go.Proofs.Yteoacdkgicfomaa
open Go.RowKit
open Rl

/-- what every refusal answers. -/
def Refused (E : Int) : Ending := .returned (.tuple #[.agg #[.slice none 0 0, .slice none 0 0, .string ⟨#[]⟩], .int .i64 E])

theorem box3_first (w w1 : World) (a b c : Value) (T : TypeId) (hb : Below (w.alloc (.cells #[a, b, c] T)).heap.size (w.alloc (.cells #[a, b, c] T)) w1) : Box3 w1 w.heap.size a b c ∧ Below w.heap.size w w1 :=
  ⟨(box3_new w a b c T).later hb, later_below ((Below.refl _ _).alloc (Nat.le_refl _) _) hb (by simp)⟩

set_option maxRecDepth 20000 in
set_option maxHeartbeats 2000000 in
theorem upd_frame (m : ByteArray) (w : World) (hm : m.size ≤ maxLen) (h : frameOk m = false) :
    Calls Try.prog 35 #[.string m] w fun e w' => e = Refused 2 ∧ Below w.heap.size w w' := by
  have hfr := fun w => frame_any m w hm
  unfold frameOk at h
  rw [decide_eq_false_iff_not] at h
  generalize frE m.data.toList = E at *
  generalize frN m.data.toList = N at *
  generalize frK m.data.toList = K at *
  unfold Refused
  by_cases hE : E = 0
  · by_cases hN : N = m.size
    · have hK : (K != 2) = true := by rw [bne_iff_ne]; intro e; exact h ⟨hE, hN, e⟩
      subst hE
      subst hN
      clear h
      go_enter Try.func35, Try.ntmps35
      go_wp2_with (first | (go_at_call 33; refine (hfr _).mono ?_; rintro e w1 ⟨rfl, hb1⟩; obtain ⟨⟨q0, q1, q2, f0, f1, f2, ql⟩, hbel⟩ := box3_first _ _ _ _ _ _ hb1))
      refine bodyPost_ret (v := .tuple #[.agg #[.slice none 0 0, .slice none 0 0, .string ⟨#[]⟩], .int .i64 2]) (by simp [results, Try.results35, go_sem, q0, q1, q2]) rfl ⟨rfl, ?_⟩
      exact below_three hbel (Nat.le_refl _) _ _ _
    · have hN2 : (N != (m.size : Int)) = true := by rw [bne_iff_ne]; exact hN
      subst hE
      clear h hN
      go_enter Try.func35, Try.ntmps35
      go_wp2_with (first | (go_at_call 33; refine (hfr _).mono ?_; rintro e w1 ⟨rfl, hb1⟩; obtain ⟨⟨q0, q1, q2, f0, f1, f2, ql⟩, hbel⟩ := box3_first _ _ _ _ _ _ hb1))
      refine bodyPost_ret (v := .tuple #[.agg #[.slice none 0 0, .slice none 0 0, .string ⟨#[]⟩], .int .i64 2]) (by simp [results, Try.results35, go_sem, q0, q1, q2]) rfl ⟨rfl, ?_⟩
      exact below_three hbel (Nat.le_refl _) _ _ _
  · have hE2 : (E != 0) = true := by rw [bne_iff_ne]; exact hE
    clear h hE
    go_enter Try.func35, Try.ntmps35
    go_wp2_with (first | (go_at_call 33; refine (hfr _).mono ?_; rintro e w1 ⟨rfl, hb1⟩; obtain ⟨⟨q0, q1, q2, f0, f1, f2, ql⟩, hbel⟩ := box3_first _ _ _ _ _ _ hb1))
    refine bodyPost_ret (v := .tuple #[.agg #[.slice none 0 0, .slice none 0 0, .string ⟨#[]⟩], .int .i64 2]) (by simp [results, Try.results35, go_sem, q0, q1, q2]) rfl ⟨rfl, ?_⟩
    exact below_three hbel (Nat.le_refl _) _ _ _

set_option maxRecDepth 20000 in
set_option maxHeartbeats 2000000 in
theorem upd_parts (m : ByteArray) (w : World) (h19 : 19 ≤ m.size) (hm : m.size ≤ 1048576) (hfr : ∀ w, Calls Try.prog 33 #[.string m] w fun e w' => e = .returned (.tuple #[.int .i64 m.size, .int .i64 2, .int .i64 0]) ∧ Below w.heap.size w w')
    (hpa : ∀ w, Calls Try.prog 53 #[.string (m.extract 19 m.size)] w fun e w' => (∃ a b c : Value, e = .returned (.tuple #[a, b, c, .bool false])) ∧ Below w.heap.size w w') :
    Calls Try.prog 35 #[.string m] w fun e w' => e = Refused 3 ∧ Below w.heap.size w w' := by
  have hx : (19 : Int) ≤ (m.size : Int) := by omega
  unfold Refused
  go_enter Try.func35, Try.ntmps35
  go_wp2_with (first | (go_at_call 33; refine (hfr _).mono ?_; rintro e w1 ⟨rfl, hb1⟩; obtain ⟨hbx, hbel⟩ := box3_first _ _ _ _ _ _ hb1) | (go_at_call 53; refine (hpa _).mono ?_; rintro e w2 ⟨⟨pa, pb, pc, rfl⟩, hb2⟩; have hbel2 := later_below hbel hb2 hbel.size; obtain ⟨q0, q1, q2, f0, f1, f2, ql⟩ := hbx.later hb2))
  refine bodyPost_ret (v := .tuple #[.agg #[.slice none 0 0, .slice none 0 0, .string ⟨#[]⟩], .int .i64 3]) (by simp [results, Try.results35, go_sem, q0, q1, q2]) rfl ⟨rfl, ?_⟩
  exact below_three hbel2 (Nat.le_refl _) _ _ _


set_option maxRecDepth 20000 in
set_option maxHeartbeats 2000000 in
theorem upd_rd1 (m G K C : ByteArray) (w : World) (h19 : 19 ≤ m.size) (hm : m.size ≤ 1048576) (hG : G.size ≤ m.size) (_hK : K.size ≤ m.size) (_hC : C.size ≤ m.size) (hfr : ∀ w, Calls Try.prog 33 #[.string m] w fun e w' => e = .returned (.tuple #[.int .i64 m.size, .int .i64 2, .int .i64 0]) ∧ Below w.heap.size w w')
    (hpa : ∀ w, Calls Try.prog 53 #[.string (m.extract 19 m.size)] w fun e w' => e = .returned (.tuple #[.string G, .string K, .string C, .bool true]) ∧ Below w.heap.size w w')
    (hg : rdAll G = none) :
    Calls Try.prog 35 #[.string m] w fun e w' => e = Refused 3 ∧ Below w.heap.size w w' := by
  have hx : (19 : Int) ≤ (m.size : Int) := by omega
  have hr1 := fun w => rd_no G w (by omega) hg
  clear hg
  unfold Refused
  go_enter Try.func35, Try.ntmps35
  go_wp2_with (first | (go_at_call 33; refine (hfr _).mono ?_; rintro e w1 ⟨rfl, hb1⟩; obtain ⟨hbx, hbel⟩ := box3_first _ _ _ _ _ _ hb1) | (go_at_call 53; refine (hpa _).mono ?_; rintro e w2 ⟨rfl, hb2⟩; have hbx2 := hbx.later hb2; have hbel2 := later_below hbel hb2 hbel.size) | (go_at_call_of 54 (G); refine (hr1 _).mono ?_; rintro e w3 ⟨rfl, hb3⟩; have hbel3 := later_below hbel2 hb3 hbel2.size; obtain ⟨q0, q1, q2, f0, f1, f2, ql⟩ := hbx2.later hb3))
  refine bodyPost_ret (v := .tuple #[.agg #[.slice none 0 0, .slice none 0 0, .string ⟨#[]⟩], .int .i64 3]) (by simp [results, Try.results35, go_sem, q0, q1, q2]) rfl ⟨rfl, ?_⟩
  exact below_three hbel3 (Nat.le_refl _) _ _ _

set_option maxRecDepth 20000 in
set_option maxHeartbeats 2000000 in
theorem upd_rd2 (m G K C : ByteArray) (w : World) (h19 : 19 ≤ m.size) (hm : m.size ≤ 1048576) (hG : G.size ≤ m.size) (_hK : K.size ≤ m.size) (hC : C.size ≤ m.size) (hfr : ∀ w, Calls Try.prog 33 #[.string m] w fun e w' => e = .returned (.tuple #[.int .i64 m.size, .int .i64 2, .int .i64 0]) ∧ Below w.heap.size w w')
    (hpa : ∀ w, Calls Try.prog 53 #[.string (m.extract 19 m.size)] w fun e w' => e = .returned (.tuple #[.string G, .string K, .string C, .bool true]) ∧ Below w.heap.size w w')
    (g : List (Int × Int)) (hg : rdAll G = some g) (hc : rdAll C = none) :
    Calls Try.prog 35 #[.string m] w fun e w' => e = Refused 3 ∧ Below w.heap.size w w' := by
  have hx : (19 : Int) ≤ (m.size : Int) := by omega
  have hr1 := fun w => rd_yes G g w (by omega) hg
  have hr2 := fun w => rd_no C w (by omega) hc
  clear hg hc
  unfold Refused
  go_enter Try.func35, Try.ntmps35
  go_wp2_with (first | (go_at_call 33; refine (hfr _).mono ?_; rintro e w1 ⟨rfl, hb1⟩; obtain ⟨hbx, hbel⟩ := box3_first _ _ _ _ _ _ hb1) | (go_at_call 53; refine (hpa _).mono ?_; rintro e w2 ⟨rfl, hb2⟩; have hbx2 := hbx.later hb2; have hbel2 := later_below hbel hb2 hbel.size) | (go_at_call_of 54 (G); refine (hr1 _).mono ?_; rintro e w3 ⟨a1, c1, rfl, hb3, ho1, hl1⟩; have hbel3 := later_below hbel2 hb3 hbel2.size; have hbx3 := hbx2.later hb3) | (go_at_call_of 54 (C); refine (hr2 _).mono ?_; rintro e w4 ⟨rfl, hb4⟩; have hbel4 := later_below hbel3 hb4 hbel3.size; obtain ⟨q0, q1, q2, f0, f1, f2, ql⟩ := hbx3.later hb4))
  refine bodyPost_ret (v := .tuple #[.agg #[.slice none 0 0, .slice none 0 0, .string ⟨#[]⟩], .int .i64 3]) (by simp [results, Try.results35, go_sem, q0, q1, q2]) rfl ⟨rfl, ?_⟩
  exact below_three hbel4 (Nat.le_refl _) _ _ _

set_option maxRecDepth 20000 in
set_option maxHeartbeats 2000000 in
theorem upd_ak (m G K C : ByteArray) (w : World) (h19 : 19 ≤ m.size) (hm : m.size ≤ 1048576) (hG : G.size ≤ m.size) (hK : K.size ≤ m.size) (hC : C.size ≤ m.size) (hfr : ∀ w, Calls Try.prog 33 #[.string m] w fun e w' => e = .returned (.tuple #[.int .i64 m.size, .int .i64 2, .int .i64 0]) ∧ Below w.heap.size w w')
    (hpa : ∀ w, Calls Try.prog 53 #[.string (m.extract 19 m.size)] w fun e w' => e = .returned (.tuple #[.string G, .string K, .string C, .bool true]) ∧ Below w.heap.size w w')
    (g a : List (Int × Int)) (hg : rdAll G = some g) (hc : rdAll C = some a) (hk : akOf K = none) :
    Calls Try.prog 35 #[.string m] w fun e w' => e = Refused 3 ∧ Below w.heap.size w w' := by
  have hx : (19 : Int) ≤ (m.size : Int) := by omega
  have hr1 := fun w => rd_yes G g w (by omega) hg
  have hr2 := fun w => rd_yes C a w (by omega) hc
  have hak := fun w => ak_no K w (by omega) hk
  clear hg hc hk
  unfold Refused
  go_enter Try.func35, Try.ntmps35
  go_wp2_with (first | (go_at_call 33; refine (hfr _).mono ?_; rintro e w1 ⟨rfl, hb1⟩; obtain ⟨hbx, hbel⟩ := box3_first _ _ _ _ _ _ hb1) | (go_at_call 53; refine (hpa _).mono ?_; rintro e w2 ⟨rfl, hb2⟩; have hbx2 := hbx.later hb2; have hbel2 := later_below hbel hb2 hbel.size) | (go_at_call_of 54 (G); refine (hr1 _).mono ?_; rintro e w3 ⟨a1, c1, rfl, hb3, ho1, hl1⟩; have hbel3 := later_below hbel2 hb3 hbel2.size; have hbx3 := hbx2.later hb3) | (go_at_call_of 54 (C); refine (hr2 _).mono ?_; rintro e w4 ⟨a2, c2, rfl, hb4, ho2, hl2⟩; have hbel4 := later_below hbel3 hb4 hbel3.size; have hbx4 := hbx3.later hb4) | (go_at_call 55; refine (hak _).mono ?_; rintro e w5 ⟨rfl, hb5⟩; have hbel5 := later_below hbel4 hb5 hbel4.size; obtain ⟨q0, q1, q2, f0, f1, f2, ql⟩ := hbx4.later hb5))
  refine bodyPost_ret (v := .tuple #[.agg #[.slice none 0 0, .slice none 0 0, .string ⟨#[]⟩], .int .i64 3]) (by simp [results, Try.results35, go_sem, q0, q1, q2]) rfl ⟨rfl, ?_⟩
  exact below_three hbel5 (Nat.le_refl _) _ _ _


theorem Box3.below {w w' : World} {B n : Nat} {a b c : Value} (h : Box3 w n a b c) (hb : Below B w w') (hn : n < B) : Box3 w' n a b c :=
  ⟨(hb.cell (p := ⟨n, 0, none⟩) hn).trans h.c0, (hb.cell (p := ⟨n, 1, none⟩) hn).trans h.c1, (hb.cell (p := ⟨n, 2, none⟩) hn).trans h.c2, (hb.frozen (p := ⟨n, 0, none⟩) hn).trans h.f0, (hb.frozen (p := ⟨n, 1, none⟩) hn).trans h.f1, (hb.frozen (p := ⟨n, 2, none⟩) hn).trans h.f2, Nat.lt_of_lt_of_le h.lt hb.size⟩

/-- a row that lies behind the box stays, when the box is laid. -/
theorem owns_box {w : World} {B b n : Nat} {e : TypeId} {size : Nat} {v : Value} {xs : List Value} (h : w.ownsRow B e size v n xs) (hB : b < B) (x y z : Value) : (((w.setCell ⟨b, 0, none⟩ x).setCell ⟨b, 1, none⟩ y).setCell ⟨b, 2, none⟩ z).ownsRow b e size v n xs := by
  have hne : v.ownBlock ≠ some b := by intro e2; have := (h.lt b e2).1; omega
  exact owns_mono (owns_far (owns_far (owns_far h hne x) hne y) hne z) (Nat.le_of_lt hB)

theorem apart_nil (v : Value) : Apart v (.slice none 0 0) := by intro k _ h; simp [Value.ownBlock] at h

set_option maxRecDepth 20000 in
set_option maxHeartbeats 4000000 in
theorem upd_none (m G K C : ByteArray) (w : World) (h19 : 19 ≤ m.size) (hm : m.size ≤ 200) (hG : G.size ≤ m.size) (hK : K.size ≤ m.size) (hC : C.size ≤ m.size) (hfr : ∀ w, Calls Try.prog 33 #[.string m] w fun e w' => e = .returned (.tuple #[.int .i64 m.size, .int .i64 2, .int .i64 0]) ∧ Below w.heap.size w w')
    (hpa : ∀ w, Calls Try.prog 53 #[.string (m.extract 19 m.size)] w fun e w' => e = .returned (.tuple #[.string G, .string K, .string C, .bool true]) ∧ Below w.heap.size w w')
    (g : List (Int × Int)) (l : List At) (sp : Bool) (hg : rdAll G = some g) (hc : rdAll C = some []) (hk : akOf K = some (l, sp)) :
    Calls Try.prog 35 #[.string m] w fun e w' => ∃ v1 v2, e = .returned (.tuple #[.agg #[v1, v2, .string ⟨([] : List UInt8).toArray⟩], .int .i64 0]) ∧ Below w.heap.size w w' ∧ w'.ownsRow w.heap.size 36 2 v1 (g).length (pfCells (g)) ∧ w'.ownsRow w.heap.size 36 2 v2 ([] : List (Int × Int)).length (pfCells ([] : List (Int × Int))) ∧ Apart v1 v2 := by
  have hx : (19 : Int) ≤ (m.size : Int) := by omega
  have hr1 := fun w => rd_yes G g w (by omega) hg
  have hr2 := fun w => rd_yes C [] w (by omega) hc
  simp only [List.length_nil] at hr2
  have hak := fun w => ak_yes K l sp w (by omega) hk
  clear hg hc hk
  go_enter Try.func35, Try.ntmps35
  go_wp2_with (first | (go_at_call 33; refine (hfr _).mono ?_; rintro e w1 ⟨rfl, hb1⟩; obtain ⟨hbx, hbel⟩ := box3_first _ _ _ _ _ _ hb1) | (go_at_call 53; refine (hpa _).mono ?_; rintro e w2 ⟨rfl, hb2⟩; have hbx2 := hbx.later hb2; have hbel2 := later_below hbel hb2 hbel.size) | (go_at_call_of 54 (G); refine (hr1 _).mono ?_; rintro e w3 ⟨a1, c1, rfl, hb3, ho1, hl1⟩; have hbel3 := later_below hbel2 hb3 hbel2.size; have hbx3 := hbx2.later hb3) | (go_at_call_of 54 (C); refine (hr2 _).mono ?_; rintro e w4 ⟨a2, c2, rfl, hb4, ho2, hl2⟩; have hbel4 := later_below hbel3 hb4 hbel3.size; have hbx4 := hbx3.later hb4) | (go_at_call 55; refine (hak _).mono ?_; rintro e w5 ⟨v3, l', rfl, hb5, hp, hby, hrow, hkep, hll⟩; have hbel5 := later_below hbel4 hb5 hbel4.size; have hbx5 := hbx4.later hb5) | (go_at_call 56; refine (change_none v3 sp a1 a2 g.length c1 c2 _).mono ?_; rintro e w6 ⟨rfl, hb6⟩; have hbel6 := later_below hbel5 hb6 hbel5.size; obtain ⟨q0, q1, q2, f0, f1, f2, ql⟩ := hbx5.later hb6))
  refine bodyPost_ret (v := .tuple #[.agg #[.slice a1 g.length c1, .slice none 0 0, .string ⟨#[]⟩], .int .i64 0]) (by simp [results, Try.results35, go_sem, q0, q1, q2]) rfl ⟨_, _, rfl, below_three hbel6 (Nat.le_refl _) _ _ _, ?_, ?_, ?_⟩
  · exact owns_box (owns_later (owns_later (owns_later ho1 hb4) hb5) hb6) (Nat.lt_of_lt_of_le hbx.lt hb2.size) _ _ _
  · exact World.ownsRow_nil _ _ _ _
  · exact apart_nil _

set_option maxRecDepth 20000 in
set_option maxHeartbeats 4000000 in
theorem upd_bad (m G K C : ByteArray) (w : World) (h19 : 19 ≤ m.size) (hm : m.size ≤ 200) (hG : G.size ≤ m.size) (hK : K.size ≤ m.size) (hC : C.size ≤ m.size) (hfr : ∀ w, Calls Try.prog 33 #[.string m] w fun e w' => e = .returned (.tuple #[.int .i64 m.size, .int .i64 2, .int .i64 0]) ∧ Below w.heap.size w w')
    (hpa : ∀ w, Calls Try.prog 53 #[.string (m.extract 19 m.size)] w fun e w' => e = .returned (.tuple #[.string G, .string K, .string C, .bool true]) ∧ Below w.heap.size w w')
    (g a : List (Int × Int)) (l : List At) (sp : Bool) (hg : rdAll G = some g) (hc : rdAll C = some a) (hk : akOf K = some (l, sp)) (h0 : a.length ≠ 0) (hbad : sp = true ∨ needN l ≠ 3) :
    Calls Try.prog 35 #[.string m] w fun e w' => ∃ v1 v2, e = .returned (.tuple #[.agg #[v1, v2, .string ⟨([] : List UInt8).toArray⟩], .int .i64 0]) ∧ Below w.heap.size w w' ∧ w'.ownsRow w.heap.size 36 2 v1 (g ++ a).length (pfCells (g ++ a)) ∧ w'.ownsRow w.heap.size 36 2 v2 ([] : List (Int × Int)).length (pfCells ([] : List (Int × Int))) ∧ Apart v1 v2 := by
  have hx : (19 : Int) ≤ (m.size : Int) := by omega
  have hr1 := fun w => rd_yes G g w (by omega) hg
  have hr2 := fun w => rd_yes C a w (by omega) hc
  have hak := fun w => ak_yes K l sp w (by omega) hk
  clear hg hc hk
  go_enter Try.func35, Try.ntmps35
  go_wp2_with (first | (go_at_call 33; refine (hfr _).mono ?_; rintro e w1 ⟨rfl, hb1⟩; obtain ⟨hbx, hbel⟩ := box3_first _ _ _ _ _ _ hb1) | (go_at_call 53; refine (hpa _).mono ?_; rintro e w2 ⟨rfl, hb2⟩; have hbx2 := hbx.later hb2; have hbel2 := later_below hbel hb2 hbel.size) | (go_at_call_of 54 (G); refine (hr1 _).mono ?_; rintro e w3 ⟨a1, c1, rfl, hb3, ho1, hl1⟩; have hbel3 := later_below hbel2 hb3 hbel2.size; have hbx3 := hbx2.later hb3) | (go_at_call_of 54 (C); refine (hr2 _).mono ?_; rintro e w4 ⟨a2, c2, rfl, hb4, ho2, hl2⟩; have hbel4 := later_below hbel3 hb4 hbel3.size; have hbx4 := hbx3.later hb4) | (go_at_call 55; refine (hak _).mono ?_; rintro e w5 ⟨v3, l', rfl, hb5, hp, hby, hrow, hkep, hll⟩; have hbel5 := later_below hbel4 hb5 hbel4.size; have hbx5 := hbx4.later hb5) | (go_at_call 56; refine (change_bad w2.heap.size v3 sp a1 a2 g.length c1 a.length c2 g a l' _ h0 (by rw [needN_perm hp]; exact hbad) (Nat.le_trans hb3.size (Nat.le_trans hb4.size hb5.size)) hrow (by rw [hp.length_eq]; omega) (owns_later (owns_later ho1 hb4) hb5) (rowAt_of_owns (owns_later ho2 hb5)) (by omega)).mono ?_; rintro e w6 ⟨v6, rfl, ho6, hb6⟩; obtain ⟨a6, c6, rfl⟩ := slice_of_owns ho6; have hbel6 := hbel5.trans (hb6.mono (Nat.le_of_lt (Nat.lt_of_lt_of_le hbx.lt hb2.size))); obtain ⟨q0, q1, q2, f0, f1, f2, ql⟩ := hbx5.below hb6 (Nat.lt_of_lt_of_le hbx.lt hb2.size)))
  refine bodyPost_ret (v := .tuple #[.agg #[.slice a6 (g.length + a.length) c6, .slice none 0 0, .string ⟨#[]⟩], .int .i64 0]) (by simp [results, Try.results35, go_sem, q0, q1, q2]) rfl ⟨_, _, rfl, below_three hbel6 (Nat.le_refl _) _ _ _, ?_, ?_, ?_⟩
  · rw [List.length_append]
    exact owns_box ho6 (Nat.lt_of_lt_of_le hbx.lt hb2.size) _ _ _
  · exact World.ownsRow_nil _ _ _ _
  · exact apart_nil _

theorem good_sum {l l' : List At} {m : Nat} (hp : l'.Perm l) (hk : Kep m (fun _ => true) l) (hl : l.length ≤ m) (hm : m ≤ 200) : (l'.flatMap atCan).length ≤ 140737488355328 := by
  have h := atCan_le l' m (fun x hx => (hk.fine x (hp.mem_iff.1 hx)).2.2)
  rw [hp.length_eq] at h
  have h2 : l.length * (m + 4) ≤ 200 * 204 := Nat.mul_le_mul (by omega) (by omega)
  omega

set_option maxRecDepth 20000 in
set_option maxHeartbeats 4000000 in
theorem upd_good (m G K C : ByteArray) (w : World) (h19 : 19 ≤ m.size) (hm : m.size ≤ 200) (hG : G.size ≤ m.size) (hK : K.size ≤ m.size) (hC : C.size ≤ m.size) (hfr : ∀ w, Calls Try.prog 33 #[.string m] w fun e w' => e = .returned (.tuple #[.int .i64 m.size, .int .i64 2, .int .i64 0]) ∧ Below w.heap.size w w')
    (hpa : ∀ w, Calls Try.prog 53 #[.string (m.extract 19 m.size)] w fun e w' => e = .returned (.tuple #[.string G, .string K, .string C, .bool true]) ∧ Below w.heap.size w w')
    (g a : List (Int × Int)) (l : List At) (hg : rdAll G = some g) (hc : rdAll C = some a) (hk : akOf K = some (l, false)) (h0 : a.length ≠ 0) (hn : needN l = 3) :
    Calls Try.prog 35 #[.string m] w fun e w' => ∃ v1 v2, e = .returned (.tuple #[.agg #[v1, v2, .string ⟨(canTo l 256).toArray⟩], .int .i64 0]) ∧ Below w.heap.size w w' ∧ w'.ownsRow w.heap.size 36 2 v1 (g).length (pfCells (g)) ∧ w'.ownsRow w.heap.size 36 2 v2 (a).length (pfCells (a)) ∧ Apart v1 v2 := by
  have hx : (19 : Int) ≤ (m.size : Int) := by omega
  have hr1 := fun w => rd_yes G g w (by omega) hg
  have hr2 := fun w => rd_yes C a w (by omega) hc
  have hak := fun w => ak_yes K l false w (by omega) hk
  clear hg hc hk
  go_enter Try.func35, Try.ntmps35
  go_wp2_with (first | (go_at_call 33; refine (hfr _).mono ?_; rintro e w1 ⟨rfl, hb1⟩; obtain ⟨hbx, hbel⟩ := box3_first _ _ _ _ _ _ hb1) | (go_at_call 53; refine (hpa _).mono ?_; rintro e w2 ⟨rfl, hb2⟩; have hbx2 := hbx.later hb2; have hbel2 := later_below hbel hb2 hbel.size) | (go_at_call_of 54 (G); refine (hr1 _).mono ?_; rintro e w3 ⟨a1, c1, rfl, hb3, ho1, hl1⟩; have hbel3 := later_below hbel2 hb3 hbel2.size; have hbx3 := hbx2.later hb3) | (go_at_call_of 54 (C); refine (hr2 _).mono ?_; rintro e w4 ⟨a2, c2, rfl, hb4, ho2, hl2⟩; have hbel4 := later_below hbel3 hb4 hbel3.size; have hbx4 := hbx3.later hb4) | (go_at_call 55; refine (hak _).mono ?_; rintro e w5 ⟨v3, l', rfl, hb5, hp, hby, hrow, hkep, hll⟩; have hbel5 := later_below hbel4 hb5 hbel4.size; have hbx5 := hbx4.later hb5) | (go_at_call 56; refine (change_good v3 a1 a2 g.length c1 a.length c2 l' _ h0 (by rw [needN_perm hp]; exact hn) hrow (by rw [hp.length_eq]; omega) (fun x hx => by obtain ⟨y1, y2, y3⟩ := hkep.fine x (hp.mem_iff.1 hx); exact ⟨y1, y2, by omega⟩) (good_sum hp hkep hll (by omega))).mono ?_; rintro e w6 ⟨rfl, hb6⟩; have hbel6 := later_below hbel5 hb6 hbel5.size; obtain ⟨q0, q1, q2, f0, f1, f2, ql⟩ := hbx5.later hb6; have htx := canTo_perm_sorted hp hkep.once hby (fun x hx => (hkep.fine x hx).2.1); rw [htx]; clear htx))
  refine bodyPost_ret (v := .tuple #[.agg #[.slice a1 g.length c1, .slice a2 a.length c2, .string ⟨(canTo l 256).toArray⟩], .int .i64 0]) (by simp [results, Try.results35, go_sem, q0, q1, q2]) rfl ⟨_, _, rfl, below_three hbel6 (Nat.le_refl _) _ _ _, ?_, ?_, ?_⟩
  · exact owns_box (owns_later (owns_later (owns_later ho1 hb4) hb5) hb6) (Nat.lt_of_lt_of_le hbx.lt hb2.size) _ _ _
  · exact owns_box (owns_later (owns_later ho2 hb5) hb6) (Nat.lt_of_lt_of_le (Nat.lt_of_lt_of_le hbx.lt hb2.size) hb3.size) _ _ _
  · intro k hk1 hk2
    have h1 := (ho1.lt k hk1).2
    have h2 := (ho2.lt k hk2).1
    omega

end Go.Proofs.Yteoacdkgicfomaa
