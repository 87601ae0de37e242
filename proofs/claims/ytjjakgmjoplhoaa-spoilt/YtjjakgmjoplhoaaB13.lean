/-
  The program's Update, walked.
-/
import Derived.Test.YtjjakgmjoplhoaaB12
import Derived.Test.YtjjakgmjoplhoaaB11
import Derived.OwnWalk
import Derived.Laws.CopyRow
import Derived.Laws.CopyOwn
namespace Go.Proofs.Ytjjakgmjoplhoaa
open Go.RowKit
open Rl

/-- what every refusal answers. -/
def Refused (E : Int) : Ending := .returned (.tuple #[.agg #[.slice none 0 0, .slice none 0 0, .string ⟨#[]⟩], .int .i64 E])

theorem box3_first (w w1 : World) (a b c : Value) (T : TypeId) (hb : Below (w.alloc (.cells #[a, b, c] T)).heap.size (w.alloc (.cells #[a, b, c] T)) w1) : Box3 w1 w.heap.size a b c ∧ Below w.heap.size w w1 :=
  ⟨(box3_new w a b c T).later hb, later_below ((Below.refl _ _).alloc (Nat.le_refl _) _) hb (by simp)⟩

set_option maxRecDepth 20000 in
set_option maxHeartbeats 2000000 in
theorem upd_frame (m : ByteArray) (w : World) (hm : m.size ≤ maxLen) (h : frameOk m = false) :
    Calls Try.prog 35 #[.string m] w fun e w' => e = Refused 2 ∧ Below w.heap.size w w' := by
  have hfr := fun w => frame_any m w hm
  unfold frameOk at h
  rw [decide_eq_false_iff_not] at h
  generalize frE m.data.toList = E at *
  generalize frN m.data.toList = N at *
  generalize frK m.data.toList = K at *
  unfold Refused
  by_cases hE : E = 0
  · by_cases hN : N = m.size
    · have hK : (K != 2) = true := by rw [bne_iff_ne]; intro e; exact h ⟨hE, hN, e⟩
      subst hE
      subst hN
      clear h
      go_enter Try.func35, Try.ntmps35
      go_wp2_with (first | (go_at_call 33; refine (hfr _).mono ?_; rintro e w1 ⟨rfl, hb1⟩; obtain ⟨⟨q0, q1, q2, f0, f1, f2, ql⟩, hbel⟩ := box3_first _ _ _ _ _ _ hb1))
      refine bodyPost_ret (v := .tuple #[.agg #[.slice none 0 0, .slice none 0 0, .string ⟨#[]⟩], .int .i64 2]) (by simp [results, Try.results35, go_sem, q0, q1, q2]) rfl ⟨rfl, ?_⟩
      exact below_three hbel (Nat.le_refl _) _ _ _
    · have hN2 : (N != (m.size : Int)) = true := by rw [bne_iff_ne]; exact hN
      subst hE
      clear h hN
      go_enter Try.func35, Try.ntmps35
      go_wp2_with (first | (go_at_call 33; refine (hfr _).mono ?_; rintro e w1 ⟨rfl, hb1⟩; obtain ⟨⟨q0, q1, q2, f0, f1, f2, ql⟩, hbel⟩ := box3_first _ _ _ _ _ _ hb1))
      refine bodyPost_ret (v := .tuple #[.agg #[.slice none 0 0, .slice none 0 0, .string ⟨#[]⟩], .int .i64 2]) (by simp [results, Try.results35, go_sem, q0, q1, q2]) rfl ⟨rfl, ?_⟩
      exact below_three hbel (Nat.le_refl _) _ _ _
  · have hE2 : (E != 0) = true := by rw [bne_iff_ne]; exact hE
    clear h hE
    go_enter Try.func35, Try.ntmps35
    go_wp2_with (first | (go_at_call 33; refine (hfr _).mono ?_; rintro e w1 ⟨rfl, hb1⟩; obtain ⟨⟨q0, q1, q2, f0, f1, f2, ql⟩, hbel⟩ := box3_first _ _ _ _ _ _ hb1))
    refine bodyPost_ret (v := .tuple #[.agg #[.slice none 0 0, .slice none 0 0, .string ⟨#[]⟩], .int .i64 2]) (by simp [results, Try.results35, go_sem, q0, q1, q2]) rfl ⟨rfl, ?_⟩
    exact below_three hbel (Nat.le_refl _) _ _ _

set_option maxRecDepth 20000 in
set_option maxHeartbeats 2000000 in
theorem upd_parts (m : ByteArray) (w : World) (h19 : 19 ≤ m.size) (hm : m.size ≤ 1048576) (hfr : ∀ w, Calls Try.prog 33 #[.string m] w fun e w' => e = .returned (.tuple #[.int .i64 m.size, .int .i64 2, .int .i64 0]) ∧ Below w.heap.size w w')
    (hpa : ∀ w, Calls Try.prog 53 #[.string (m.extract 19 m.size)] w fun e w' => (∃ a b c : Value, e = .returned (.tuple #[a, b, c, .bool false])) ∧ Below w.heap.size w w') :
    Calls Try.prog 35 #[.string m] w fun e w' => e = Refused 3 ∧ Below w.heap.size w w' := by
  have hx : (19 : Int) ≤ (m.size : Int) := by omega
  unfold Refused
  go_enter Try.func35, Try.ntmps35
  go_wp2_with (first | (go_at_call 33; refine (hfr _).mono ?_; rintro e w1 ⟨rfl, hb1⟩; obtain ⟨hbx, hbel⟩ := box3_first _ _ _ _ _ _ hb1) | (go_at_call 53; refine (hpa _).mono ?_; rintro e w2 ⟨⟨pa, pb, pc, rfl⟩, hb2⟩; have hbel2 := later_below hbel hb2 hbel.size; obtain ⟨q0, q1, q2, f0, f1, f2, ql⟩ := hbx.later hb2))
  refine bodyPost_ret (v := .tuple #[.agg #[.slice none 0 0, .slice none 0 0, .string ⟨#[]⟩], .int .i64 3]) (by simp [results, Try.results35, go_sem, q0, q1, q2]) rfl ⟨rfl, ?_⟩
  exact below_three hbel2 (Nat.le_refl _) _ _ _


set_option maxRecDepth 20000 in
set_option maxHeartbeats 2000000 in
theorem upd_rd1 (m G K C : ByteArray) (w : World) (h19 : 19 ≤ m.size) (hm : m.size ≤ 1048576) (hG : G.size ≤ m.size) (_hK : K.size ≤ m.size) (_hC : C.size ≤ m.size) (hfr : ∀ w, Calls Try.prog 33 #[.string m] w fun e w' => e = .returned (.tuple #[.int .i64 m.size, .int .i64 2, .int .i64 0]) ∧ Below w.heap.size w w')
    (hpa : ∀ w, Calls Try.prog 53 #[.string (m.extract 19 m.size)] w fun e w' => e = .returned (.tuple #[.string G, .string K, .string C, .bool true]) ∧ Below w.heap.size w w')
    (hg : rdAll G = none) :
    Calls Try.prog 35 #[.string m] w fun e w' => e = Refused 3 ∧ Below w.heap.size w w' := by
  have hx : (19 : Int) ≤ (m.size : Int) := by omega
  have hr1 := fun w => rd_no G w (by omega) hg
  clear hg
  unfold Refused
  go_enter Try.func35, Try.ntmps35
  go_wp2_with (first | (go_at_call 33; refine (hfr _).mono ?_; rintro e w1 ⟨rfl, hb1⟩; obtain ⟨hbx, hbel⟩ := box3_first _ _ _ _ _ _ hb1) | (go_at_call 53; refine (hpa _).mono ?_; rintro e w2 ⟨rfl, hb2⟩; have hbx2 := hbx.later hb2; have hbel2 := later_below hbel hb2 hbel.size) | (go_at_call_of 54 (G); refine (hr1 _).mono ?_; rintro e w3 ⟨rfl, hb3⟩; have hbel3 := later_below hbel2 hb3 hbel2.size; obtain ⟨q0, q1, q2, f0, f1, f2, ql⟩ := hbx2.later hb3))
  refine bodyPost_ret (v := .tuple #[.agg #[.slice none 0 0, .slice none 0 0, .string ⟨#[]⟩], .int .i64 3]) (by simp [results, Try.results35, go_sem, q0, q1, q2]) rfl ⟨rfl, ?_⟩
  exact below_three hbel3 (Nat.le_refl _) _ _ _

set_option maxRecDepth 20000 in
set_option maxHeartbeats 2000000 in
theorem upd_rd2 (m G K C : ByteArray) (w : World) (h19 : 19 ≤ m.size) (hm : m.size ≤ 1048576) (hG : G.size ≤ m.size) (_hK : K.size ≤ m.size) (hC : C.size ≤ m.size) (hfr : ∀ w, Calls Try.prog 33 #[.string m] w fun e w' => e = .returned (.tuple #[.int .i64 m.size, .int .i64 2, .int .i64 0]) ∧ Below w.heap.size w w')
    (hpa : ∀ w, Calls Try.prog 53 #[.string (m.extract 19 m.size)] w fun e w' => e = .returned (.tuple #[.string G, .string K, .string C, .bool true]) ∧ Below w.heap.size w w')
    (g : List (Int × Int)) (hg : rdAll G = some g) (hc : rdAll C = none) :
    Calls Try.prog 35 #[.string m] w fun e w' => e = Refused 3 ∧ Below w.heap.size w w' := by
  have hx : (19 : Int) ≤ (m.size : Int) := by omega
  have hr1 := fun w => rd_yes G g w (by omega) hg
  have hr2 := fun w => rd_no C w (by omega) hc
  clear hg hc
  unfold Refused
  go_enter Try.func35, Try.ntmps35
  go_wp2_with (first | (go_at_call 33; refine (hfr _).mono ?_; rintro e w1 ⟨rfl, hb1⟩; obtain ⟨hbx, hbel⟩ := box3_first _ _ _ _ _ _ hb1) | (go_at_call 53; refine (hpa _).mono ?_; rintro e w2 ⟨rfl, hb2⟩; have hbx2 := hbx.later hb2; have hbel2 := later_below hbel hb2 hbel.size) | (go_at_call_of 54 (G); refine (hr1 _).mono ?_; rintro e w3 ⟨a1, c1, rfl, hb3, ho1, hl1⟩; have hbel3 := later_below hbel2 hb3 hbel2.size; have hbx3 := hbx2.later hb3) | (go_at_call_of 54 (C); refine (hr2 _).mono ?_; rintro e w4 ⟨rfl, hb4⟩; have hbel4 := later_below hbel3 hb4 hbel3.size; obtain ⟨q0, q1, q2, f0, f1, f2, ql⟩ := hbx3.later hb4))
  refine bodyPost_ret (v := .tuple #[.agg #[.slice none 0 0, .slice none 0 0, .string ⟨#[]⟩], .int .i64 3]) (by simp [results, Try.results35, go_sem, q0, q1, q2]) rfl ⟨rfl, ?_⟩
  exact below_three hbel4 (Nat.le_refl _) _ _ _

set_option maxRecDepth 20000 in
set_option maxHeartbeats 2000000 in
theorem upd_ak (m G K C : ByteArray) (w : World) (h19 : 19 ≤ m.size) (hm : m.size ≤ 1048576) (hG : G.size ≤ m.size) (hK : K.size ≤ m.size) (hC : C.size ≤ m.size) (hfr : ∀ w, Calls Try.prog 33 #[.string m] w fun e w' => e = .returned (.tuple #[.int .i64 m.size, .int .i64 2, .int .i64 0]) ∧ Below w.heap.size w w')
    (hpa : ∀ w, Calls Try.prog 53 #[.string (m.extract 19 m.size)] w fun e w' => e = .returned (.tuple #[.string G, .string K, .string C, .bool true]) ∧ Below w.heap.size w w')
    (g a : List (Int × Int)) (hg : rdAll G = some g) (hc : rdAll C = some a) (hk : akOf K = none) :
    Calls Try.prog 35 #[.string m] w fun e w' => e = Refused 3 ∧ Below w.heap.size w w' := by
  have hx : (19 : Int) ≤ (m.size : Int) := by omega
  have hr1 := fun w => rd_yes G g w (by omega) hg
  have hr2 := fun w => rd_yes C a w (by omega) hc
  have hak := fun w => ak_no K w (by omega) hk
  clear hg hc hk
  unfold Refused
  go_enter Try.func35, Try.ntmps35
  go_wp2_with (first | (go_at_call 33; refine (hfr _).mono ?_; rintro e w1 ⟨rfl, hb1⟩; obtain ⟨hbx, hbel⟩ := box3_first _ _ _ _ _ _ hb1) | (go_at_call 53; refine (hpa _).mono ?_; rintro e w2 ⟨rfl, hb2⟩; have hbx2 := hbx.later hb2; have hbel2 := later_below hbel hb2 hbel.size) | (go_at_call_of 54 (G); refine (hr1 _).mono ?_; rintro e w3 ⟨a1, c1, rfl, hb3, ho1, hl1⟩; have hbel3 := later_below hbel2 hb3 hbel2.size; have hbx3 := hbx2.later hb3) | (go_at_call_of 54 (C); refine (hr2 _).mono ?_; rintro e w4 ⟨a2, c2, rfl, hb4, ho2, hl2⟩; have hbel4 := later_below hbel3 hb4 hbel3.size; have hbx4 := hbx3.later hb4) | (go_at_call 55; refine (hak _).mono ?_; rintro e w5 ⟨rfl, hb5⟩; have hbel5 := later_below hbel4 hb5 hbel4.size; obtain ⟨q0, q1, q2, f0, f1, f2, ql⟩ := hbx4.later hb5))
  refine bodyPost_ret (v := .tuple #[.agg #[.slice none 0 0, .slice none 0 0, .string ⟨#[]⟩], .int .i64 3]) (by simp [results, Try.results35, go_sem, q0, q1, q2]) rfl ⟨rfl, ?_⟩
  exact below_three hbel5 (Nat.le_refl _) _ _ _


theorem Box3.below {w w' : World} {B n : Nat} {a b c : Value} (h : Box3 w n a b c) (hb : Below B w w') (hn : n < B) : Box3 w' n a b c :=
  ⟨(hb.cell (p := ⟨n, 0, none⟩) hn).trans h.c0, (hb.cell (p := ⟨n, 1, none⟩) hn).trans h.c1, (hb.cell (p := ⟨n, 2, none⟩) hn).trans h.c2, (hb.frozen (p := ⟨n, 0, none⟩) hn).trans h.f0, (hb.frozen (p := ⟨n, 1, none⟩) hn).trans h.f1, (hb.frozen (p := ⟨n, 2, none⟩) hn).trans h.f2, Nat.lt_of_lt_of_le h.lt hb.size⟩

/-- a row that lies behind the box stays, when the box is laid. -/
theorem owns_box {w : World} {B b n : Nat} {e : TypeId} {size : Nat} {v : Value} {xs : List Value} (h : w.ownsRow B e size v n xs) (hB : b < B) (x y z : Value) : (((w.setCell ⟨b, 0, none⟩ x).setCell ⟨b, 1, none⟩ y).setCell ⟨b, 2, none⟩ z).ownsRow b e size v n xs := by
  have hne : v.ownBlock ≠ some b := by intro e2; have := (h.lt b e2).1; omega
  exact owns_mono (owns_far (owns_far (owns_far h hne x) hne y) hne z) (Nat.le_of_lt hB)

theorem apart_nil (v : Value) : Apart v (.slice none 0 0) := by intro k _ h; simp [Value.ownBlock] at h

set_option maxRecDepth 20000 in
set_option maxHeartbeats 4000000 in
theorem upd_none (m G K C : ByteArray) (w : World) (h19 : 19 ≤ m.size) (hm : m.size ≤ 200) (hG : G.size ≤ m.size) (hK : K.size ≤ m.size) (hC : C.size ≤ m.size) (hfr : ∀ w, Calls Try.prog 33 #[.string m] w fun e w' => e = .returned (.tuple #[.int .i64 m.size, .int .i64 2, .int .i64 0]) ∧ Below w.heap.size w w')
    (hpa : ∀ w, Calls Try.prog 53 #[.string (m.extract 19 m.size)] w fun e w' => e = .returned (.tuple #[.string G, .string K, .string C, .bool true]) ∧ Below w.heap.size w w')
    (g : List (Int × Int)) (l : List At) (sp : Bool) (hg : rdAll G = some g) (hc : rdAll C = some []) (hk : akOf K = some (l, sp)) :
    Calls Try.prog 35 #[.string m] w fun e w' => ∃ v1 v2, e = .returned (.tuple #[.agg #[v1, v2, .string ⟨([] : List UInt8).toArray⟩], .int .i64 0]) ∧ Below w.heap.size w w' ∧ w'.ownsRow w.heap.size 36 2 v1 (g).length (pfCells (g)) ∧ w'.ownsRow w.heap.size 36 2 v2 ([] : List (Int × Int)).length (pfCells ([] : List (Int × Int))) ∧ Apart v1 v2 := by
  have hx : (19 : Int) ≤ (m.size : Int) := by omega
  have hr1 := fun w => rd_yes G g w (by omega) hg
  have hr2 := fun w => rd_yes C [] w (by omega) hc
  simp only [List.length_nil] at hr2
  have hak := fun w => ak_yes K l sp w (by omega) hk
  clear hg hc hk
  go_enter Try.func35, Try.ntmps35
  go_wp2_with (first | (go_at_call 33; refine (hfr _).mono ?_; rintro e w1 ⟨rfl, hb1⟩; obtain ⟨hbx, hbel⟩ := box3_first _ _ _ _ _ _ hb1) | (go_at_call 53; refine (hpa _).mono ?_; rintro e w2 ⟨rfl, hb2⟩; have hbx2 := hbx.later hb2; have hbel2 := later_below hbel hb2 hbel.size) | (go_at_call_of 54 (G); refine (hr1 _).mono ?_; rintro e w3 ⟨a1, c1, rfl, hb3, ho1, hl1⟩; have hbel3 := later_below hbel2 hb3 hbel2.size; have hbx3 := hbx2.later hb3) | (go_at_call_of 54 (C); refine (hr2 _).mono ?_; rintro e w4 ⟨a2, c2, rfl, hb4, ho2, hl2⟩; have hbel4 := later_below hbel3 hb4 hbel3.size; have hbx4 := hbx3.later hb4) | (go_at_call 55; refine (hak _).mono ?_; rintro e w5 ⟨v3, l', rfl, hb5, hp, hby, hrow, hkep, hll⟩; have hbel5 := later_below hbel4 hb5 hbel4.size; have hbx5 := hbx4.later hb5) | (go_at_call 56; refine (change_none v3 sp a1 a2 g.length c1 c2 _).mono ?_; rintro e w6 ⟨rfl, hb6⟩; have hbel6 := later_below hbel5 hb6 hbel5.size; obtain ⟨q0, q1, q2, f0, f1, f2, ql⟩ := hbx5.later hb6))
  refine bodyPost_ret (v := .tuple #[.agg #[.slice a1 g.length c1, .slice none 0 0, .string ⟨#[]⟩], .int .i64 0]) (by simp [results, Try.results35, go_sem, q0, q1, q2]) rfl ⟨_, _, rfl, below_three hbel6 (Nat.le_refl _) _ _ _, ?_, ?_, ?_⟩
  · exact owns_box (owns_later (owns_later (owns_later ho1 hb4) hb5) hb6) (Nat.lt_of_lt_of_le hbx.lt hb2.size) _ _ _
  · exact World.ownsRow_nil _ _ _ _
  · exact apart_nil _

set_option maxRecDepth 20000 in
set_option maxHeartbeats 4000000 in
theorem upd_bad (m G K C : ByteArray) (w : World) (h19 : 19 ≤ m.size) (hm : m.size ≤ 200) (hG : G.size ≤ m.size) (hK : K.size ≤ m.size) (hC : C.size ≤ m.size) (hfr : ∀ w, Calls Try.prog 33 #[.string m] w fun e w' => e = .returned (.tuple #[.int .i64 m.size, .int .i64 2, .int .i64 0]) ∧ Below w.heap.size w w')
    (hpa : ∀ w, Calls Try.prog 53 #[.string (m.extract 19 m.size)] w fun e w' => e = .returned (.tuple #[.string G, .string K, .string C, .bool true]) ∧ Below w.heap.size w w')
    (g a : List (Int × Int)) (l : List At) (sp : Bool) (hg : rdAll G = some g) (hc : rdAll C = some a) (hk : akOf K = some (l, sp)) (h0 : a.length ≠ 0) (hbad : sp = true ∨ needN l ≠ 3) :
    Calls Try.prog 35 #[.string m] w fun e w' => ∃ v1 v2, e = .returned (.tuple #[.agg #[v1, v2, .string ⟨([] : List UInt8).toArray⟩], .int .i64 0]) ∧ Below w.heap.size w w' ∧ w'.ownsRow w.heap.size 36 2 v1 (g ++ a).length (pfCells (g ++ a)) ∧ w'.ownsRow w.heap.size 36 2 v2 ([] : List (Int × Int)).length (pfCells ([] : List (Int × Int))) ∧ Apart v1 v2 := by
  have hx : (19 : Int) ≤ (m.size : Int) := by omega
  have hr1 := fun w => rd_yes G g w (by omega) hg
  have hr2 := fun w => rd_yes C a w (by omega) hc
  have hak := fun w => ak_yes K l sp w (by omega) hk
  clear hg hc hk
  go_enter Try.func35, Try.ntmps35
  go_wp2_with (first | (go_at_call 33; refine (hfr _).mono ?_; rintro e w1 ⟨rfl, hb1⟩; obtain ⟨hbx, hbel⟩ := box3_first _ _ _ _ _ _ hb1) | (go_at_call 53; refine (hpa _).mono ?_; rintro e w2 ⟨rfl, hb2⟩; have hbx2 := hbx.later hb2; have hbel2 := later_below hbel hb2 hbel.size) | (go_at_call_of 54 (G); refine (hr1 _).mono ?_; rintro e w3 ⟨a1, c1, rfl, hb3, ho1, hl1⟩; have hbel3 := later_below hbel2 hb3 hbel2.size; have hbx3 := hbx2.later hb3) | (go_at_call_of 54 (C); refine (hr2 _).mono ?_; rintro e w4 ⟨a2, c2, rfl, hb4, ho2, hl2⟩; have hbel4 := later_below hbel3 hb4 hbel3.size; have hbx4 := hbx3.later hb4) | (go_at_call 55; refine (hak _).mono ?_; rintro e w5 ⟨v3, l', rfl, hb5, hp, hby, hrow, hkep, hll⟩; have hbel5 := later_below hbel4 hb5 hbel4.size; have hbx5 := hbx4.later hb5) | (go_at_call 56; refine (change_bad w2.heap.size v3 sp a1 a2 g.length c1 a.length c2 g a l' _ h0 (by rw [needN_perm hp]; exact hbad) (Nat.le_trans hb3.size (Nat.le_trans hb4.size hb5.size)) hrow (by rw [hp.length_eq]; omega) (owns_later (owns_later ho1 hb4) hb5) (rowAt_of_owns (owns_later ho2 hb5)) (by omega)).mono ?_; rintro e w6 ⟨v6, rfl, ho6, hb6⟩; obtain ⟨a6, c6, rfl⟩ := slice_of_owns ho6; have hbel6 := hbel5.trans (hb6.mono (Nat.le_of_lt (Nat.lt_of_lt_of_le hbx.lt hb2.size))); obtain ⟨q0, q1, q2, f0, f1, f2, ql⟩ := hbx5.below hb6 (Nat.lt_of_lt_of_le hbx.lt hb2.size)))
  refine bodyPost_ret (v := .tuple #[.agg #[.slice a6 (g.length + a.length) c6, .slice none 0 0, .string ⟨#[]⟩], .int .i64 0]) (by simp [results, Try.results35, go_sem, q0, q1, q2]) rfl ⟨_, _, rfl, below_three hbel6 (Nat.le_refl _) _ _ _, ?_, ?_, ?_⟩
  · rw [List.length_append]
    exact owns_box ho6 (Nat.lt_of_lt_of_le hbx.lt hb2.size) _ _ _
  · exact World.ownsRow_nil _ _ _ _
  · exact apart_nil _

theorem good_sum {l l' : List At} {m : Nat} (hp : l'.Perm l) (hk : Kep m (fun _ => true) l) (hl : l.length ≤ m) (hm : m ≤ 200) : (l'.flatMap atCan).length ≤ 140737488355328 := by
  have h := atCan_le l' m (fun x hx => (hk.fine x (hp.mem_iff.1 hx)).2.2)
  rw [hp.length_eq] at h
  have h2 : l.length * (m + 4) ≤ 200 * 204 := Nat.mul_le_mul (by omega) (by omega)
  omega

set_option maxRecDepth 20000 in
set_option maxHeartbeats 4000000 in
theorem upd_good (m G K C : ByteArray) (w : World) (h19 : 19 ≤ m.size) (hm : m.size ≤ 200) (hG : G.size ≤ m.size) (hK : K.size ≤ m.size) (hC : C.size ≤ m.size) (hfr : ∀ w, Calls Try.prog 33 #[.string m] w fun e w' => e = .returned (.tuple #[.int .i64 m.size, .int .i64 2, .int .i64 0]) ∧ Below w.heap.size w w')
    (hpa : ∀ w, Calls Try.prog 53 #[.string (m.extract 19 m.size)] w fun e w' => e = .returned (.tuple #[.string G, .string K, .string C, .bool true]) ∧ Below w.heap.size w w')
    (g a : List (Int × Int)) (l : List At) (hg : rdAll G = some g) (hc : rdAll C = some a) (hk : akOf K = some (l, false)) (h0 : a.length ≠ 0) (hn : needN l = 3) :
    Calls Try.prog 35 #[.string m] w fun e w' => ∃ v1 v2, e = .returned (.tuple #[.agg #[v1, v2, .string ⟨(canTo l 256).toArray⟩], .int .i64 0]) ∧ Below w.heap.size w w' ∧ w'.ownsRow w.heap.size 36 2 v1 (g).length (pfCells (g)) ∧ w'.ownsRow w.heap.size 36 2 v2 (a).length (pfCells (a)) ∧ Apart v1 v2 := by
  have hx : (19 : Int) ≤ (m.size : Int) := by omega
  have hr1 := fun w => rd_yes G g w (by omega) hg
  have hr2 := fun w => rd_yes C a w (by omega) hc
  have hak := fun w => ak_yes K l false w (by omega) hk
  clear hg hc hk
  go_enter Try.func35, Try.ntmps35
  go_wp2_with (first | (go_at_call 33; refine (hfr _).mono ?_; rintro e w1 ⟨rfl, hb1⟩; obtain ⟨hbx, hbel⟩ := box3_first _ _ _ _ _ _ hb1) | (go_at_call 53; refine (hpa _).mono ?_; rintro e w2 ⟨rfl, hb2⟩; have hbx2 := hbx.later hb2; have hbel2 := later_below hbel hb2 hbel.size) | (go_at_call_of 54 (G); refine (hr1 _).mono ?_; rintro e w3 ⟨a1, c1, rfl, hb3, ho1, hl1⟩; have hbel3 := later_below hbel2 hb3 hbel2.size; have hbx3 := hbx2.later hb3) | (go_at_call_of 54 (C); refine (hr2 _).mono ?_; rintro e w4 ⟨a2, c2, rfl, hb4, ho2, hl2⟩; have hbel4 := later_below hbel3 hb4 hbel3.size; have hbx4 := hbx3.later hb4) | (go_at_call 55; refine (hak _).mono ?_; rintro e w5 ⟨v3, l', rfl, hb5, hp, hby, hrow, hkep, hll⟩; have hbel5 := later_below hbel4 hb5 hbel4.size; have hbx5 := hbx4.later hb5) | (go_at_call 56; refine (change_good v3 a1 a2 g.length c1 a.length c2 l' _ h0 (by rw [needN_perm hp]; exact hn) hrow (by rw [hp.length_eq]; omega) (fun x hx => by obtain ⟨y1, y2, y3⟩ := hkep.fine x (hp.mem_iff.1 hx); exact ⟨y1, y2, by omega⟩) (good_sum hp hkep hll (by omega))).mono ?_; rintro e w6 ⟨rfl, hb6⟩; have hbel6 := later_below hbel5 hb6 hbel5.size; obtain ⟨q0, q1, q2, f0, f1, f2, ql⟩ := hbx5.later hb6; have htx := canTo_perm_sorted hp hkep.once hby (fun x hx => (hkep.fine x hx).2.1); rw [htx]; clear htx))
  refine bodyPost_ret (v := .tuple #[.agg #[.slice a1 g.length c1, .slice a2 a.length c2, .string ⟨(canTo l 256).toArray⟩], .int .i64 0]) (by simp [results, Try.results35, go_sem, q0, q1, q2]) rfl ⟨_, _, rfl, below_three hbel6 (Nat.le_refl _) _ _ _, ?_, ?_, ?_⟩
  · exact owns_box (owns_later (owns_later (owns_later ho1 hb4) hb5) hb6) (Nat.lt_of_lt_of_le hbx.lt hb2.size) _ _ _
  · exact owns_box (owns_later (owns_later ho2 hb5) hb6) (Nat.lt_of_lt_of_le (Nat.lt_of_lt_of_le hbx.lt hb2.size) hb3.size) _ _ _
  · intro k hk1 hk2
    have h1 := (ho1.lt k hk1).2
    have h2 := (ho2.lt k hk2).1
    omega

end Go.Proofs.Ytjjakgmjoplhoaa
/-
  message.Update and routelog.Update: one contract for every message.
-/
namespace Go.Proofs.Ytjjakgmjoplhoaa
open Go.RowKit
open Rl

theorem frame_size (m : ByteArray) (h : frameOk m = true) : 19 ≤ m.size ∧ m.size ≤ 200 ∧ frE m.data.toList = 0 ∧ frN m.data.toList = m.size ∧ frK m.data.toList = 2 := by
  unfold frameOk at h
  rw [decide_eq_true_iff] at h
  obtain ⟨hE, hN, hK⟩ := h
  refine ⟨?_, ?_, hE, hN, hK⟩
  all_goals
    cases hm : marked m.data.toList with
    | false => have := fr_unmarked _ hm; omega
    | true =>
      by_cases h1 : m.data.toList.length < 18
      · have := fr_short _ hm h1; omega
      · by_cases h2 : told2 m.data.toList < 19 ∨ 200 < told2 m.data.toList
        · have := fr_bad _ hm h1 h2; omega
        · by_cases h3 : (m.data.toList.length : Int) < told2 m.data.toList
          · have := fr_part _ hm h1 h2 h3; omega
          · have := fr_whole _ hm h1 h2 h3; omega

/-- what both Updates answer: the change's three fields and the error; the two lists are the caller's, and apart. -/
def Answers (u : Upd) (w : World) (e : Ending) (w' : World) : Prop :=
  ∃ v1 v2, e = .returned (.tuple #[.agg #[v1, v2, .string ⟨u.text.toArray⟩], .int .i64 u.err]) ∧ Below w.heap.size w w' ∧ w'.ownsRow w.heap.size 36 2 v1 u.gone.length (pfCells u.gone) ∧ w'.ownsRow w.heap.size 36 2 v2 u.come.length (pfCells u.come) ∧ Apart v1 v2

theorem answers_refused {E : Int} {w w' : World} {e : Ending} (h : e = Refused E ∧ Below w.heap.size w w') : Answers ⟨E, [], [], []⟩ w e w' :=
  ⟨.slice none 0 0, .slice none 0 0, h.1, h.2, World.ownsRow_nil _ _ _ _, World.ownsRow_nil _ _ _ _, apart_nil _⟩

theorem cut_sizes (c : ByteArray) : (cutHead c).size ≤ c.size ∧ (cutHead (cutTail c)).size ≤ c.size ∧ (cutTail (cutTail c)).size ≤ c.size := by
  have h1 := cutTail_le c
  have h2 := cutTail_le (cutTail c)
  refine ⟨?_, ?_, by omega⟩
  · unfold cutHead; rw [ByteArray.size_extract]; omega
  · unfold cutHead; rw [ByteArray.size_extract]; omega

theorem update_any (m : ByteArray) (w : World) (hm : m.size ≤ maxLen) :
    Calls Try.prog 35 #[.string m] w fun e w' => Answers (upd m) w e w' := by
  cases hf : frameOk m with
  | false =>
    have hu : upd m = ⟨2, [], [], []⟩ := by unfold upd; rw [if_neg (by simp [hf])]
    rw [hu]
    exact (upd_frame m w hm hf).mono fun e w' h => answers_refused h
  | true =>
    have hu : upd m = updParts (m.extract 19 m.size) := by unfold upd; rw [if_pos hf]
    rw [hu]
    obtain ⟨h19, h200, hE, hN, hK⟩ := frame_size m hf
    have hfr := fun w => frame_any m w hm
    rw [hE, hN, hK] at hfr
    have hcs : (m.extract 19 m.size).size ≤ m.size := by rw [ByteArray.size_extract]; omega
    have hcm : (m.extract 19 m.size).size ≤ maxLen := Nat.le_trans hcs hm
    obtain ⟨zG, zK, zC⟩ := cut_sizes (m.extract 19 m.size)
    have hm2 : m.size ≤ 1048576 := by omega
    unfold updParts
    cases hp : partsOk (m.extract 19 m.size) with
    | false =>
      rw [if_neg (by simp)]
      have hpa : ∀ w, Calls Try.prog 53 #[.string (m.extract 19 m.size)] w fun e w' => (∃ a b c : Value, e = .returned (.tuple #[a, b, c, .bool false])) ∧ Below w.heap.size w w' := by
        intro w
        cases h1 : cutOk (m.extract 19 m.size) with
        | false => exact (parts_no1 _ w hcm h1).mono fun e w' h => ⟨⟨_, _, _, h.1⟩, h.2⟩
        | true =>
          have h2 : cutOk (cutTail (m.extract 19 m.size)) = false := by unfold partsOk at hp; rw [h1] at hp; simpa using hp
          exact (parts_no2 _ w hcm h1 h2).mono fun e w' h => ⟨⟨_, _, _, h.1⟩, h.2⟩
      exact (upd_parts m w h19 hm2 hfr hpa).mono fun e w' h => answers_refused h
    | true =>
      rw [if_pos rfl]
      have hp2 := hp
      unfold partsOk at hp2
      rw [Bool.and_eq_true] at hp2
      have hpa := fun w => parts_yes (m.extract 19 m.size) w hcm hp2.1 hp2.2
      have yG := Nat.le_trans zG hcs
      have yK := Nat.le_trans zK hcs
      have yC := Nat.le_trans zC hcs
      cases hg : rdAll (cutHead (m.extract 19 m.size)) with
      | none => exact (upd_rd1 m _ _ _ w h19 hm2 yG yK yC hfr hpa hg).mono fun e w' h => answers_refused h
      | some g =>
        cases hc : rdAll (cutTail (cutTail (m.extract 19 m.size))) with
        | none => exact (upd_rd2 m _ _ _ w h19 hm2 yG yK yC hfr hpa g hg hc).mono fun e w' h => answers_refused h
        | some a =>
          cases hk : akOf (cutHead (cutTail (m.extract 19 m.size))) with
          | none => exact (upd_ak m _ _ _ w h19 hm2 yG yK yC hfr hpa g a hg hc hk).mono fun e w' h => answers_refused h
          | some p =>
            obtain ⟨l, sp⟩ := p
            simp only
            unfold updBody
            by_cases h0 : a.length = 0
            · rw [if_pos h0]
              have ha : a = [] := List.eq_nil_of_length_eq_zero h0
              subst ha
              exact (upd_none m _ _ _ w h19 h200 yG yK yC hfr hpa g l sp hg hc hk).mono fun e w' h => h
            · rw [if_neg h0]
              by_cases hb : sp = true ∨ needN l ≠ 3
              · rw [if_pos hb]
                exact (upd_bad m _ _ _ w h19 h200 yG yK yC hfr hpa g a l sp hg hc hk h0 hb).mono fun e w' h => h
              · rw [if_neg hb]
                have hs : sp = false := by cases sp <;> simp_all
                have hn : needN l = 3 := by by_cases e : needN l = 3; exact e; exact absurd (Or.inr e) hb
                subst hs
                exact (upd_good m _ _ _ w h19 h200 yG yK yC hfr hpa g a l hg hc hk h0 hn).mono fun e w' h => h

/-- the call that a statement names. -/
theorem update_outer (m : ByteArray) (w : World) (hm : m.size ≤ maxLen) :
    Calls Try.prog 12 #[.string m] w fun e w' => Answers (upd m) w e w' := by
  have h := fun wx => update_any m wx hm
  generalize upd m = u at *
  obtain ⟨E, g, a, T⟩ := u
  go_enter Try.func12, Try.ntmps12
  go_wp2_with (first | (go_at_call 35; refine (h _).mono ?_; rintro e w' ⟨v1, v2, rfl, hb, h1, h2, h3⟩; obtain ⟨a1, c1, rfl⟩ := slice_of_owns h1; obtain ⟨a2, c2, rfl⟩ := slice_of_owns h2; obtain ⟨⟨q0, q1, q2, f0, f1, f2, ql⟩, hbel⟩ := box3_first _ _ _ _ _ _ hb))
  refine bodyPost_ret (v := .tuple #[.agg #[.slice a1 g.length c1, .slice a2 a.length c2, .string ⟨T.toArray⟩], .int .i64 E]) (by simp [results, Try.results12, go_sem, q0, q1, q2]) rfl ⟨_, _, rfl, below_three hbel (Nat.le_refl _) _ _ _, ?_, ?_, h3⟩
  · exact owns_box h1 (by simp) _ _ _
  · exact owns_box h2 (by simp) _ _ _

end Go.Proofs.Ytjjakgmjoplhoaa
/-
  routelogkeep's update, walked: a message out of raw numbers; and what Update makes of it.
-/
namespace Go.Proofs.Ytjjakgmjoplhoaa
open Go.RowKit
open Rl

theorem told_keep (v : Value) (l : List (Int × Int)) (w : World) (h : pfAll l = true) (hl : l.length ≤ 1000) (hr : RowAt w v l.length 2 (pfCells l)) :
    Calls Try.prog 21 #[v] w fun e w' => e = .returned (.string (txt (pfWire (pfNats l)))) ∧ Below w.heap.size w w' := by
  have e := pfNats_ints l h
  have hn := pfNats_length l
  have hc := keepTold_any v (pfNats l) w (by omega) (pfNats_bounds l h) (by
    have e2 : (pfNats l).map (fun p => ((p.1 : Int), (p.2 : Int))) = l := e
    rw [e2, hn]; exact hr)
  rw [ktTo_wire] at hc
  exact hc

/-- the content, and the message. -/
def keepW (gone : List Int) (top : Nat) : List UInt8 := pfWire (pfNats (keepL gone top))
def updM (gone come : List Int) (v : Int) : List UInt8 := msgOf 2 (updC (keepW gone 5) (kaW false (kaL v)) (keepW come 6))

theorem keepW_len (gone : List Int) (top : Nat) : (keepW gone top).length ≤ 5 * top := by
  have h := pfWire_nats_le (keepL gone top) (keepL_all gone top)
  have h2 := keepL_length gone top
  unfold keepW
  omega

theorem updC_len (W A C : List UInt8) : (updC W A C).length = 4 + W.length + A.length + C.length := by
  simp [updC, be_length]; omega

theorem ku_text (W A C : List UInt8) : (⟨(be 2 (txt W).size).toArray⟩ : ByteArray) ++ txt W ++ ⟨(be 2 (txt A).size).toArray⟩ ++ txt A ++ txt C = txt (updC W A C) := by
  apply bytes_ext
  rw [append_data, append_data, append_data, append_data, data_arr, data_arr, txt_data, txt_data, txt_data, txt_data, txt_len, txt_len]
  simp [updC]

set_option maxRecDepth 20000 in
set_option maxHeartbeats 4000000 in
theorem keepUpdate_any (vg vc : Value) (gone come : List Int) (v : Int) (w : World) (hg : RowAt w vg gone.length 1 (ints gone)) (hc : RowAt w vc come.length 1 (ints come)) (hgi : ∀ c ∈ gone, inI64 c) (hci : ∀ c ∈ come, inI64 c) (hv : inI64 v) (hgl : gone.length ≤ 9223372036854775807) (hcl : come.length ≤ 9223372036854775807) :
    Calls Try.prog 27 #[vg, vc, .int .i64 v] w fun e w' => e = .returned (.string (txt (updM gone come v))) ∧ Below w.heap.size w w' := by
  have q1 := keepW_len gone 5
  have q2 := kaW_len false v
  have q3 := keepW_len come 6
  have n1 := keepL_length gone 5
  have n3 := keepL_length come 6
  have HT := hide (ku_text (keepW gone 5) (kaW false (kaL v)) (keepW come 6))
  have pG := fun wx h => keepPrefixes_any vg gone 5 wx h hgi (by omega) hgl
  have pC := fun wx h => keepPrefixes_any vc come 6 wx h hci (by omega) hcl
  have tG := fun v wx h => told_keep v (keepL gone 5) wx (keepL_all _ _) (by omega) h
  have tC := fun v wx h => told_keep v (keepL come 6) wx (keepL_all _ _) (by omega) h
  have pA := fun wx => keepAttributes_any v false wx hv
  have HM : Hid (∀ wx, Calls Try.prog 25 #[.int .i64 (2 : Int), .string (txt (updC (keepW gone 5) (kaW false (kaL v)) (keepW come 6)))] wx fun e w' => e = .returned (.string (txt (updM gone come v))) ∧ Below wx.heap.size wx w') := by
    intro wx
    have h := keepMessage_any 2 (txt (updC (keepW gone 5) (kaW false (kaL v)) (keepW come 6))) wx (by omega) (by rw [txt_len, updC_len]; omega)
    rw [txt_data] at h
    exact h
  have s1 := txt_len (keepW gone 5)
  have s2 := txt_len (kaW false (kaL v))
  have s3 := txt_len (keepW come 6)
  rw [show pfWire (pfNats (keepL gone 5)) = keepW gone 5 from rfl] at tG
  rw [show pfWire (pfNats (keepL come 6)) = keepW come 6 from rfl] at tC
  generalize txt (updC (keepW gone 5) (kaW false (kaL v)) (keepW come 6)) = T at *
  generalize txt (updM gone come v) = R at *
  generalize txt (keepW gone 5) = W at *
  generalize txt (kaW false (kaL v)) = A at *
  generalize txt (keepW come 6) = C at *
  have z1 : W.size ≤ 25 := by omega
  have z2 : A.size ≤ 72 := by omega
  have z3 : C.size ≤ 30 := by omega
  clear s1 s2 s3 q1 q2 q3
  have h1 := fun w => keepBytes_any W.size 2 w (by omega) (by omega)
  have h2 := fun w => keepBytes_any A.size 2 w (by omega) (by omega)
  have y1 := size_arr (be 2 W.size)
  have y2 := size_arr (be 2 A.size)
  rw [be_length] at y1 y2
  generalize (⟨(be 2 W.size).toArray⟩ : ByteArray) = U1 at *
  generalize (⟨(be 2 A.size).toArray⟩ : ByteArray) = U2 at *
  have y1' : U1.size ≤ 2 := by omega
  have y2' : U2.size ≤ 2 := by omega
  clear y1 y2
  go_enter Try.func27, Try.ntmps27
  go_wp2_with fail
  refine (pG _ hg).mono ?_
  rintro e w1 ⟨v1, rfl, ho1, hb1⟩
  go_wp2_with fail
  refine (tG _ _ (rowAt_of_owns ho1)).mono ?_
  rintro e w2 ⟨rfl, hb2⟩
  have B2 := below_held hb1 hb2
  go_wp2_with fail
  refine (pA _).mono ?_
  rintro e w3 ⟨rfl, hb3⟩
  have B3 := below_held B2 hb3
  go_wp2_with fail
  refine (h1 _).mono ?_
  rintro e w4 ⟨rfl, hb4⟩
  have B4 := below_held B3 hb4
  go_wp2_with fail
  refine (h2 _).mono ?_
  rintro e w5 ⟨rfl, hb5⟩
  have B5 := below_held B4 hb5
  go_wp2_with fail
  refine (pC _ (hc.later B5)).mono ?_
  rintro e w6 ⟨v6, rfl, ho6, hb6⟩
  have B6 := below_held B5 hb6
  go_wp2_with fail
  refine (tC _ _ (rowAt_of_owns ho6)).mono ?_
  rintro e w7 ⟨rfl, hb7⟩
  have B7 := below_held B6 hb7
  go_wp2_with fail
  rw [HT.out]
  refine (HM.out _).mono ?_
  rintro e w8 ⟨rfl, hb8⟩
  have B8 := below_held B7 hb8
  go_wp2
  go_ret
  exact ⟨rfl, B8⟩

/-- what Update makes of a message that is written so. -/
theorem upd_wire (g a : List (Int × Int)) (A : List UInt8) (l : List At) (sp : Bool) (hg : pfAll g = true) (ha : pfAll a = true) (hA : akOf (txt A) = some (l, sp)) (hlen : 19 + (updC (pfWire (pfNats g)) A (pfWire (pfNats a))).length ≤ 200) :
    upd (txt (msgOf 2 (updC (pfWire (pfNats g)) A (pfWire (pfNats a))))) = updBody g a l sp := by
  have h1 := updC_len (pfWire (pfNats g)) A (pfWire (pfNats a))
  obtain ⟨f1, f2, f3⟩ := msg_frame (updC (pfWire (pfNats g)) A (pfWire (pfNats a))) 2 (by omega) hlen
  obtain ⟨c1, c2, c3, c4⟩ := updC_parts (pfWire (pfNats g)) A (pfWire (pfNats a)) (by omega) (by omega)
  have hf : frameOk (txt (msgOf 2 (updC (pfWire (pfNats g)) A (pfWire (pfNats a))))) = true := by
    unfold frameOk
    rw [decide_eq_true_iff, txt_data, txt_len, msgOf_length]
    exact ⟨f1, f2, f3⟩
  unfold upd
  rw [if_pos hf, msg_content]
  unfold updParts
  rw [if_pos c1, c2, c3, c4, rdAll_nats g hg, rdAll_nats a ha, hA]

end Go.Proofs.Ytjjakgmjoplhoaa
/-
  The built-in copy of elements of more than one cell, onto a row of the call's own. Nothing of the program is named here.
-/
namespace Go.Proofs.Ytjjakgmjoplhoaa

theorem run_copy_rowN {P : Program} (w : World) (dT sT ty elem : TypeId) (size g o dLen dCap : Nat) (a : Addr) (sLen sCap : Nat) (cur : Array Value) (t : TypeId) (cs : List Value)
    (hu : P.underlying dT = some (.slice elem)) (hs : (P.info? elem).map (·.size) = some size)
    (hg : w.heap[g]? = some (.cells cur t (0, 0))) (hn : cs.length = Nat.min sLen dLen * size)
    (hsrc : ∀ j v, cs[j]? = some v → w.cell? (a.add j) = some v) (hfit : o + cs.length ≤ cur.size) (h1 : ∀ v ∈ cs, v.oneCell' = true) :
    (Builtin.copy_ #[dT, sT] ty #[.slice (some ⟨g, o, none⟩) dLen dCap, .slice (some a) sLen sCap]).run P w =
      .ok (goInt (Nat.min sLen dLen)) (w.setRow g (cur.toList.take o ++ cs ++ cur.toList.drop (o + cs.length)).toArray) := by
  have hl := run_loadCells_list (P := P) w a cs hsrc
  have hst := run_storeCells_at P g o t cs 0 cur w hg (by simpa using hfit) h1
  cases hq : P.info? elem with
  | none => simp [hq] at hs
  | some i =>
    have hi : i.size = size := by simpa [hq] using hs
    simp [Builtin.copy_, run_underlying hu, Builtin.lenOf, Builtin.firstCells, sizeOf, typeInfo, hq, hi, ← hn, hl, hst]

theorem run_copy_noneN {P : Program} (w : World) (dT sT ty elem : TypeId) (size : Nat) (d a : Option Addr) (dLen dCap sLen sCap : Nat) (hu : P.underlying dT = some (.slice elem)) (hs : (P.info? elem).map (·.size) = some size) (hn : Nat.min sLen dLen = 0) :
    (Builtin.copy_ #[dT, sT] ty #[.slice d dLen dCap, .slice a sLen sCap]).run P w = .ok (goInt 0) w := by
  cases hq : P.info? elem with
  | none => simp [hq] at hs
  | some i =>
    have hl : ∀ (x : Addr), (loadCells x 0).run P w = .ok #[] w := fun x => by simpa using run_loadCells_list (P := P) w x [] (by simp)
    cases d <;> cases a <;> simp [Builtin.copy_, run_underlying hu, Builtin.lenOf, Builtin.firstCells, sizeOf, typeInfo, hq, hn, storeCells, hl]

theorem wpList_copy_noneN {P : Program} {w : World} {ops : Array Oper} {rest : List Oper} {o : Oper} {a : Act} {Q : Exit → Act → World → Prop} (hgd : o.guard = none) (d s : Operand) (dT sT : TypeId)
    (ho : o.op = .call { callee := .builtin .copy, args := #[d, s], argTypes := #[dT, sT] }) (elem : TypeId) (size : Nat) (hu : P.underlying dT = some (.slice elem)) (hsz : (P.info? elem).map (·.size) = some size)
    (dp sp : Option Addr) (dLen dCap sLen sCap : Nat) (hd : a.eval d = .slice dp dLen dCap) (hs : a.eval s = .slice sp sLen sCap) (hn : Nat.min sLen dLen = 0)
    (h : wpList P ops Q rest (a.put o.dst (goInt 0)) w) : wpList P ops Q (o :: rest) a w := by
  refine wpList_plain hgd fun K hK => ?_
  have hrun := run_copy_noneN (P := P) w dT sT o.type elem size dp sp dLen dCap sLen sCap hu hsz hn
  unfold Oper.wp
  simp [execOp, ho, resolve, invoke, builtin, hd, hs, hrun, Result.andThen]
  exact hK _ _ h

theorem wpList_copy_ownN {P : Program} {w : World} {ops : Array Oper} {rest : List Oper} {o : Oper} {a : Act} {Q : Exit → Act → World → Prop} (hgd : o.guard = none) (d s : Operand) (dT sT : TypeId)
    (ho : o.op = .call { callee := .builtin .copy, args := #[d, s], argTypes := #[dT, sT] }) (elem : TypeId) (size : Nat) (hu : P.underlying dT = some (.slice elem)) (hsz : (P.info? elem).map (·.size) = some size)
    (g off dLen dCap : Nat) (ad : Addr) (sLen sCap : Nat) (hd : a.eval d = .slice (some ⟨g, off, none⟩) dLen dCap) (hs : a.eval s = .slice (some ad) sLen sCap)
    (cur : Array Value) (t : TypeId) (hg : w.heap[g]? = some (.cells cur t (0, 0))) (cs : List Value) (hn : cs.length = Nat.min sLen dLen * size)
    (hsrc : ∀ j v, cs[j]? = some v → w.cell? (ad.add j) = some v) (hfit : off + cs.length ≤ cur.size) (h1 : ∀ v ∈ cs, v.oneCell' = true)
    (h : wpList P ops Q rest (a.put o.dst (goInt (Nat.min sLen dLen))) (w.setRow g (cur.toList.take off ++ cs ++ cur.toList.drop (off + cs.length)).toArray)) : wpList P ops Q (o :: rest) a w := by
  refine wpList_plain hgd fun K hK => ?_
  have hrun := run_copy_rowN (P := P) w dT sT o.type elem size g off dLen dCap ad sLen sCap cur t cs hu hsz hg hn hsrc hfit h1
  unfold Oper.wp
  simp [execOp, ho, resolve, invoke, builtin, hd, hs, hrun, Result.andThen]
  exact hK _ _ (by simpa using h)

end Go.Proofs.Ytjjakgmjoplhoaa
