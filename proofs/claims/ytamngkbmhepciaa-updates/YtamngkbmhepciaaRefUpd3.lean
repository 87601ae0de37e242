/-
  The document's Update, walked: where what was to be announced is withdrawn.
-/
import Derived.Test.YtamngkbmhepciaaRefUpd
namespace Go.Proofs.Ytamngkbmhepciaa
open Go.RowKit
open Rl

theorem pf_two (p q : Int) : ∀ u ∈ [Value.int .i64 p, Value.int .i64 q], u.oneCell' = true := by
  intro u hu; simp at hu; rcases hu with rfl | rfl <;> rfl

theorem pf_take (g a : List (Int × Int)) (k : Nat) (h : k < a.length) : pfCells (g ++ a.take (k + 1)) = pfCells (g ++ a.take k) ++ [.int .i64 a[k].1, .int .i64 a[k].2] := by
  rw [List.take_succ_eq_append_getElem h, ← List.append_assoc, pf_app]
  rfl

set_option maxRecDepth 20000 in
set_option maxHeartbeats 8000000 in
theorem ref_spoilt (m G K C : ByteArray) (w : World) (h19 : 19 ≤ m.size) (hm : m.size ≤ 200) (hG : G.size ≤ m.size) (hKs : K.size ≤ m.size) (hC : C.size ≤ m.size) (hfr : ∀ w, Calls Try.prog 10 #[.string m] w fun e w' => e = .returned (.tuple #[.int .i64 m.size, .int .i64 2, .int .i64 0]) ∧ Below w.heap.size w w')
    (hpa : ∀ w, Calls Try.prog 33 #[.string (m.extract 19 m.size)] w fun e w' => e = .returned (.tuple #[.string G, .string K, .string C, .bool true]) ∧ Below w.heap.size w w')
    (g a : List (Int × Int)) (l : List At) (hg : rdAll G = some g) (hc : rdAll C = some a) (hk : akOf K = some (l, true)) (h0 : a.length ≠ 0) (nb : Bool)
    (hneeds : ∀ b sn sp en wx, KeptAt wx b (flagAt l) (valAt l) sn sp en → Calls Try.prog 36 #[.pointer (some ⟨b, 0, none⟩)] wx fun e w' => e = .returned (.bool nb) ∧ w' = wx) :
    Calls Try.prog 12 #[.string m] w fun e w' => Answers ⟨0, g ++ a, [], []⟩ w e w' := by
  obtain ⟨i0, hi, hz0, hz1, hz2⟩ := info_parts info_pfx
  have hx : (19 : Int) ≤ (m.size : Int) := by omega
  have hz : ((m.size : Int) == 0) = false := by rw [beq_eq_false_iff_ne]; omega
  have hr1 := fun w => rf_yes G g w (by omega) hg
  have hr2 := fun w => rf_yes C a w (by omega) hc
  have hak := fun w => attributes_any K w (by omega)
  have hq : ((a.length : Int) == 0) = false := by rw [beq_eq_false_iff_ne]; omega
  clear hg hc
  go_enter Try.func12, Try.ntmps12
  go_wp2_with (first | (go_at_call 10; refine (hfr _).mono ?_; rintro e w1 ⟨rfl, hb1⟩; obtain ⟨hbx, hbel⟩ := box3_first _ _ _ _ _ _ hb1; have hsz := hbx.lt) | (go_at_call 33; refine (hpa _).mono ?_; rintro e w2 ⟨rfl, hb2⟩; have hbx2 := hbx.later hb2; have hbel2 := later_below hbel hb2 hbel.size) | (go_at_call_of 34 (G); refine (hr1 _).mono ?_; rintro e w3 ⟨a1, c1, rfl, hb3, ho1, hl1⟩; have hbel3 := later_below hbel2 hb3 hbel2.size; have hbx3 := hbx2.later hb3) | (go_at_call_of 34 (C); refine (hr2 _).mono ?_; rintro e w4 ⟨a2, c2, rfl, hb4, ho2, hl2⟩; have hbel4 := later_below hbel3 hb4 hbel3.size; have hbx4 := hbx3.later hb4) | (go_at_call 35; refine (hak _).mono ?_; rintro e w5 ⟨rfl, hb5, l0, sn, sp0, en, hK, hend⟩; obtain ⟨rfl, rfl, rfl⟩ := refEnd_some hend hk; have hbel5 := later_below hbel4 hb5 hbel4.size; have hbx5 := hbx4.later hb5; obtain ⟨q0, q1, q2, f0, f1, f2, ql⟩ := hbx5; have hcE := hK.ends; have hcS := hK.spoilt) | (go_at_call 36; refine (hneeds _ _ _ _ _ hK).mono ?_; rintro e wn ⟨rfl, hw⟩; rw [hw]; clear hw wn))
  rcases ho2.2 with ⟨_, e0⟩ | ⟨gb, cb, cur, e2, hgb, _⟩
  · exact absurd e0 h0
  · cases e2
    have hgb2 := (ho2.lt gb rfl).2
    have ho5 := owns_later (owns_later ho1 hb4) hb5
    have hcell := fun j u (hu : (pfCells a)[j]? = some u) => ((owns_later ho2 hb5).cells (g := gb) rfl) j u hu
    have hb25 : Below w2.heap.size w2 w5 := later_below (later_below hb3 hb4 hb3.size) hb5 (Nat.le_trans hb3.size hb4.size)
    have hlt1 := (ho1.lt)
    have hs45 := hb5.size
    have hgl : g.length ≤ 200 := by omega
    have hal : a.length ≤ 200 := by omega
    have HBX := hide hbx2
    have HLT := hide (Nat.lt_of_lt_of_le hbx.lt hb2.size)
    have HB2 := hide hbel2
    clear hb3 hb4 hb5 hbel3 hbel4 hbel5 hbx3 hbx4 hbx hbel hbx2 hbel2 hb1 hb2 ho1 ho2 hK hcE hcS hneeds hak hr1 hr2 hfr hpa q0 q1 q2 f0 f1 f2 ql hend
    go_loopw [11, 17] (fun x i wr => ∃ (k : Nat) (lv : Value), lv = x ∧ k ≤ a.length ∧ i = .int .i64 k ∧ wr.ownsRow w2.heap.size 36 2 lv (g.length + k) (pfCells (g ++ a.take k)) ∧ (∀ j, lv.ownBlock = some j → j < w3.heap.size ∨ w4.heap.size ≤ j) ∧ (∀ j u, (pfCells a)[j]? = some u → wr.cell? ((⟨gb, 0, none⟩ : Addr).add j) = some u) ∧ w4.heap.size ≤ wr.heap.size ∧ Below w2.heap.size w2 wr) (fun _ i _ => a.length - (intOf i).toNat)
    case atStart => exact ⟨0, _, rfl, Nat.zero_le _, rfl, by simpa using ho5, fun j hj => .inl (hlt1 j hj).2, hcell, hs45, hb25⟩
    case round =>
      obtain ⟨k, lv, rfl, hka, rfl, hown, hpl, hcl, hsz4, hbel⟩ := hrel
      obtain ⟨a6, c6, rfl⟩ := slice_of_owns hown
      by_cases hlt : k < a.length
      · obtain ⟨g1, g2⟩ := pfCells_get a k hlt
        have d1 := hcl _ _ g1
        have d2 := hcl _ _ g2
        rw [add_head] at d1 d2
        have HT := hide (pf_take g a k hlt)
        have hne : some gb ≠ (Value.slice a6 (g.length + k) c6).ownBlock := by
          intro e; rcases hpl gb e.symm with h | h <;> omega
        have HCL := hide hcl
        have HPL := hide hpl
        clear hcl hpl g1 g2 hcell ho5
        generalize a[k] = p at *
        go_wp2_with (first | (at_builtin; refine wpList_append_placed _ rfl _ _ 26 rfl w2.heap.size 36 i0 (.agg #[.int .i64 0, .int .i64 0]) 2 16 Try.underlying26 hi hz0 hz1 hz2 rfl (by decide) _ _ _ rfl (hown.alloc _) ⟨wr.heap.size, 0, none⟩ 1 1 [.int .i64 p.1, .int .i64 p.2] rfl rfl (cells_new _ _ _) (pf_two _ _) (by unfold maxLen; omega) (by omega) (Nat.le_trans hbel.size (by simp)) ?_; intro v' w6 hown6 hgrow6 hpl6))
        refine ⟨⟨k + 1, v', rfl, by omega, by go_num, ?_, fun j hj => ?_, fun j u hu => ?_, Nat.le_trans hsz4 (Nat.le_trans (by simp) hgrow6.size), below_app hbel hbel.size hown hgrow6⟩, by simp [intOf]; omega⟩
        · rw [HT.out]; exact hown6
        · rcases hpl6 with h | ⟨j2, h, h2⟩
          · exact HPL.out j (h.symm.trans hj)
          · rw [h] at hj
            injection hj with hj
            subst hj
            right; simp at h2; omega
        · have h := HCL.out j u hu
          rw [add_head] at h ⊢
          exact grown_cell hgrow6 h hne
      · have hk2 : k = a.length := by omega
        subst hk2
        rw [List.take_length] at hown
        obtain ⟨q0, q1, q2, f0, f1, f2, ql⟩ := HBX.out.below hbel HLT.out
        have hbelw : Below w.heap.size w wr := HB2.out.trans (hbel.mono (Nat.le_of_lt HLT.out))
        clear hcl hpl hcell ho5
        go_wp2
        refine bodyPost_ret (v := .tuple #[.agg #[.slice a6 (g.length + a.length) c6, .slice none 0 0, .string ⟨#[]⟩], .int .i64 0]) (by simp [results, Try.results12, go_sem, q0, q1, q2]) rfl ⟨_, _, rfl, below_three hbelw (Nat.le_refl _) _ _ _, ?_, World.ownsRow_nil _ _ _ _, apart_nil _⟩
        rw [List.length_append]
        exact owns_box hown HLT.out _ _ _

set_option maxRecDepth 20000 in
set_option maxHeartbeats 8000000 in
theorem ref_lacks (m G K C : ByteArray) (w : World) (h19 : 19 ≤ m.size) (hm : m.size ≤ 200) (hG : G.size ≤ m.size) (hKs : K.size ≤ m.size) (hC : C.size ≤ m.size) (hfr : ∀ w, Calls Try.prog 10 #[.string m] w fun e w' => e = .returned (.tuple #[.int .i64 m.size, .int .i64 2, .int .i64 0]) ∧ Below w.heap.size w w')
    (hpa : ∀ w, Calls Try.prog 33 #[.string (m.extract 19 m.size)] w fun e w' => e = .returned (.tuple #[.string G, .string K, .string C, .bool true]) ∧ Below w.heap.size w w')
    (g a : List (Int × Int)) (l : List At) (hg : rdAll G = some g) (hc : rdAll C = some a) (hk : akOf K = some (l, false)) (h0 : a.length ≠ 0) 
    (hneeds : ∀ b sn sp en wx, KeptAt wx b (flagAt l) (valAt l) sn sp en → Calls Try.prog 36 #[.pointer (some ⟨b, 0, none⟩)] wx fun e w' => e = .returned (.bool true) ∧ w' = wx) :
    Calls Try.prog 12 #[.string m] w fun e w' => Answers ⟨0, g ++ a, [], []⟩ w e w' := by
  obtain ⟨i0, hi, hz0, hz1, hz2⟩ := info_parts info_pfx
  have hx : (19 : Int) ≤ (m.size : Int) := by omega
  have hz : ((m.size : Int) == 0) = false := by rw [beq_eq_false_iff_ne]; omega
  have hr1 := fun w => rf_yes G g w (by omega) hg
  have hr2 := fun w => rf_yes C a w (by omega) hc
  have hak := fun w => attributes_any K w (by omega)
  have hq : ((a.length : Int) == 0) = false := by rw [beq_eq_false_iff_ne]; omega
  clear hg hc
  go_enter Try.func12, Try.ntmps12
  go_wp2_with (first | (go_at_call 10; refine (hfr _).mono ?_; rintro e w1 ⟨rfl, hb1⟩; obtain ⟨hbx, hbel⟩ := box3_first _ _ _ _ _ _ hb1; have hsz := hbx.lt) | (go_at_call 33; refine (hpa _).mono ?_; rintro e w2 ⟨rfl, hb2⟩; have hbx2 := hbx.later hb2; have hbel2 := later_below hbel hb2 hbel.size) | (go_at_call_of 34 (G); refine (hr1 _).mono ?_; rintro e w3 ⟨a1, c1, rfl, hb3, ho1, hl1⟩; have hbel3 := later_below hbel2 hb3 hbel2.size; have hbx3 := hbx2.later hb3) | (go_at_call_of 34 (C); refine (hr2 _).mono ?_; rintro e w4 ⟨a2, c2, rfl, hb4, ho2, hl2⟩; have hbel4 := later_below hbel3 hb4 hbel3.size; have hbx4 := hbx3.later hb4) | (go_at_call 35; refine (hak _).mono ?_; rintro e w5 ⟨rfl, hb5, l0, sn, sp0, en, hK, hend⟩; obtain ⟨rfl, rfl, rfl⟩ := refEnd_some hend hk; have hbel5 := later_below hbel4 hb5 hbel4.size; have hbx5 := hbx4.later hb5; obtain ⟨q0, q1, q2, f0, f1, f2, ql⟩ := hbx5; have hcE := hK.ends; have hcS := hK.spoilt) | (go_at_call 36; refine (hneeds _ _ _ _ _ hK).mono ?_; rintro e wn ⟨rfl, hw⟩; rw [hw]; clear hw wn))
  rcases ho2.2 with ⟨_, e0⟩ | ⟨gb, cb, cur, e2, hgb, _⟩
  · exact absurd e0 h0
  · cases e2
    have hgb2 := (ho2.lt gb rfl).2
    have ho5 := owns_later (owns_later ho1 hb4) hb5
    have hcell := fun j u (hu : (pfCells a)[j]? = some u) => ((owns_later ho2 hb5).cells (g := gb) rfl) j u hu
    have hb25 : Below w2.heap.size w2 w5 := later_below (later_below hb3 hb4 hb3.size) hb5 (Nat.le_trans hb3.size hb4.size)
    have hlt1 := (ho1.lt)
    have hs45 := hb5.size
    have hgl : g.length ≤ 200 := by omega
    have hal : a.length ≤ 200 := by omega
    have HBX := hide hbx2
    have HLT := hide (Nat.lt_of_lt_of_le hbx.lt hb2.size)
    have HB2 := hide hbel2
    clear hb3 hb4 hb5 hbel3 hbel4 hbel5 hbx3 hbx4 hbx hbel hbx2 hbel2 hb1 hb2 ho1 ho2 hK hcE hcS hneeds hak hr1 hr2 hfr hpa q0 q1 q2 f0 f1 f2 ql hend
    go_loopw [11, 17] (fun x i wr => ∃ (k : Nat) (lv : Value), lv = x ∧ k ≤ a.length ∧ i = .int .i64 k ∧ wr.ownsRow w2.heap.size 36 2 lv (g.length + k) (pfCells (g ++ a.take k)) ∧ (∀ j, lv.ownBlock = some j → j < w3.heap.size ∨ w4.heap.size ≤ j) ∧ (∀ j u, (pfCells a)[j]? = some u → wr.cell? ((⟨gb, 0, none⟩ : Addr).add j) = some u) ∧ w4.heap.size ≤ wr.heap.size ∧ Below w2.heap.size w2 wr) (fun _ i _ => a.length - (intOf i).toNat)
    case atStart => exact ⟨0, _, rfl, Nat.zero_le _, rfl, by simpa using ho5, fun j hj => .inl (hlt1 j hj).2, hcell, hs45, hb25⟩
    case round =>
      obtain ⟨k, lv, rfl, hka, rfl, hown, hpl, hcl, hsz4, hbel⟩ := hrel
      obtain ⟨a6, c6, rfl⟩ := slice_of_owns hown
      by_cases hlt : k < a.length
      · obtain ⟨g1, g2⟩ := pfCells_get a k hlt
        have d1 := hcl _ _ g1
        have d2 := hcl _ _ g2
        rw [add_head] at d1 d2
        have HT := hide (pf_take g a k hlt)
        have hne : some gb ≠ (Value.slice a6 (g.length + k) c6).ownBlock := by
          intro e; rcases hpl gb e.symm with h | h <;> omega
        have HCL := hide hcl
        have HPL := hide hpl
        clear hcl hpl g1 g2 hcell ho5
        generalize a[k] = p at *
        go_wp2_with (first | (at_builtin; refine wpList_append_placed _ rfl _ _ 26 rfl w2.heap.size 36 i0 (.agg #[.int .i64 0, .int .i64 0]) 2 16 Try.underlying26 hi hz0 hz1 hz2 rfl (by decide) _ _ _ rfl (hown.alloc _) ⟨wr.heap.size, 0, none⟩ 1 1 [.int .i64 p.1, .int .i64 p.2] rfl rfl (cells_new _ _ _) (pf_two _ _) (by unfold maxLen; omega) (by omega) (Nat.le_trans hbel.size (by simp)) ?_; intro v' w6 hown6 hgrow6 hpl6))
        refine ⟨⟨k + 1, v', rfl, by omega, by go_num, ?_, fun j hj => ?_, fun j u hu => ?_, Nat.le_trans hsz4 (Nat.le_trans (by simp) hgrow6.size), below_app hbel hbel.size hown hgrow6⟩, by simp [intOf]; omega⟩
        · rw [HT.out]; exact hown6
        · rcases hpl6 with h | ⟨j2, h, h2⟩
          · exact HPL.out j (h.symm.trans hj)
          · rw [h] at hj
            injection hj with hj
            subst hj
            right; simp at h2; omega
        · have h := HCL.out j u hu
          rw [add_head] at h ⊢
          exact grown_cell hgrow6 h hne
      · have hk2 : k = a.length := by omega
        subst hk2
        rw [List.take_length] at hown
        obtain ⟨q0, q1, q2, f0, f1, f2, ql⟩ := HBX.out.below hbel HLT.out
        have hbelw : Below w.heap.size w wr := HB2.out.trans (hbel.mono (Nat.le_of_lt HLT.out))
        clear hcl hpl hcell ho5
        go_wp2
        refine bodyPost_ret (v := .tuple #[.agg #[.slice a6 (g.length + a.length) c6, .slice none 0 0, .string ⟨#[]⟩], .int .i64 0]) (by simp [results, Try.results12, go_sem, q0, q1, q2]) rfl ⟨_, _, rfl, below_three hbelw (Nat.le_refl _) _ _ _, ?_, World.ownsRow_nil _ _ _ _, apart_nil _⟩
        rw [List.length_append]
        exact owns_box hown HLT.out _ _ _

end Go.Proofs.Ytamngkbmhepciaa
