/-
  routelogref's needs, walked, over the table by type.
-/
import Derived.Test.YteoacdkgicfomaaTakes
import Derived.Test.YteoacdkgicfomaaAkSort
import Derived.Test.YteoacdkgicfomaaRefUpd
import Derived.Test.YteoacdkgicfomaaRefText
import Derived.Test.YteoacdkgicfomaaPartsMath
import Derived.Test.YteoacdkgicfomaaRdMath
import Derived.Test.YteoacdkgicfomaaAkMath
import Derived.Test.YteoacdkgicfomaaAnnMath
import Derived.Test.YteoacdkgicfomaaSumMath
import Derived.Test.YteoacdkgicfomaaUpdMath
import Derived.Test.YteoacdkgicfomaaUpdAll
import Derived.Test.YteoacdkgicfomaaCanonOwn
import Derived.Test.YteoacdkgicfomaaCanonRef
import Derived.Test.YteoacdkgicfomaaPfxWalks
import Derived.Test.YteoacdkgicfomaaNumWalks
import Derived.Deep.RegionWith
import Derived.Deep.Cut
import Derived.Deep.CutRange
import Derived.Deep.DeepCutAuto
import Derived.Laws.BitsAllLaws
import Derived.Test.YteoacdkgicfomaaShelf
import Derived.BigQuiet
import Derived.Deep.QuietTactic
import Derived.Deep.RegionHeld
namespace Go.Proofs.Yteoacdkgicfomaa
open Go.RowKit
open Rl

theorem needs_any (b : Nat) (fl : Nat → Int) (vl : Nat → ByteArray) (sn : Nat → Bool) (sp en : Bool) (w : World) (hK : KeptAt w b fl vl sn sp en) :
    Calls Try.prog 39 #[.pointer (some ⟨b, 0, none⟩)] w fun e w' => e = .returned (.bool (decide (fl 1 < 0) || decide (fl 2 < 0) || decide (fl 3 < 0))) ∧ w' = w := by
  have c1 := hK.flag 1 (by omega)
  have c2 := hK.flag 2 (by omega)
  have c3 := hK.flag 3 (by omega)
  clear hK
  generalize fl 1 = f1 at *
  generalize fl 2 = f2 at *
  generalize fl 3 = f3 at *
  by_cases h1 : f1 < 0
  · have e1 : decide (f1 < 0) = true := decide_eq_true h1
    rw [e1]
    go_enter Try.func39, Try.ntmps39
    go_wp2
    go_ret
    exact ⟨ret_bool (by simp), rfl⟩
  · have e1 : decide (f1 < 0) = false := decide_eq_false h1
    rw [e1]
    by_cases h2 : f2 < 0
    · have e2 : decide (f2 < 0) = true := decide_eq_true h2
      rw [e2]
      go_enter Try.func39, Try.ntmps39
      go_wp2
      go_ret
      exact ⟨ret_bool (by simp), rfl⟩
    · have e2 : decide (f2 < 0) = false := decide_eq_false h2
      rw [e2]
      go_enter Try.func39, Try.ntmps39
      go_wp2
      go_ret
      exact ⟨ret_bool (by simp), rfl⟩

end Go.Proofs.Yteoacdkgicfomaa
/-
  The document's Update, walked: where what was to be announced is withdrawn.
-/
namespace Go.Proofs.Yteoacdkgicfomaa
open Go.RowKit
open Rl

theorem pf_two (p q : Int) : ∀ u ∈ [Value.int .i64 p, Value.int .i64 q], u.oneCell' = true := by
  intro u hu; simp at hu; rcases hu with rfl | rfl <;> rfl

theorem pf_take (g a : List (Int × Int)) (k : Nat) (h : k < a.length) : pfCells (g ++ a.take (k + 1)) = pfCells (g ++ a.take k) ++ [.int .i64 a[k].1, .int .i64 a[k].2] := by
  rw [List.take_succ_eq_append_getElem h, ← List.append_assoc, pf_app]
  rfl

set_option maxRecDepth 20000 in
set_option maxHeartbeats 8000000 in
theorem ref_spoilt (m G K C : ByteArray) (w : World) (h19 : 19 ≤ m.size) (hm : m.size ≤ 200) (hG : G.size ≤ m.size) (hKs : K.size ≤ m.size) (hC : C.size ≤ m.size) (hfr : ∀ w, Calls Try.prog 11 #[.string m] w fun e w' => e = .returned (.tuple #[.int .i64 m.size, .int .i64 2, .int .i64 0]) ∧ Below w.heap.size w w')
    (hpa : ∀ w, Calls Try.prog 36 #[.string (m.extract 19 m.size)] w fun e w' => e = .returned (.tuple #[.string G, .string K, .string C, .bool true]) ∧ Below w.heap.size w w')
    (g a : List (Int × Int)) (l : List At) (hg : rdAll G = some g) (hc : rdAll C = some a) (hk : akOf K = some (l, true)) (h0 : a.length ≠ 0) (nb : Bool)
    (hneeds : ∀ b sn sp en wx, KeptAt wx b (flagAt l) (valAt l) sn sp en → Calls Try.prog 39 #[.pointer (some ⟨b, 0, none⟩)] wx fun e w' => e = .returned (.bool nb) ∧ w' = wx) :
    Calls Try.prog 13 #[.string m] w fun e w' => Answers ⟨0, g ++ a, [], []⟩ w e w' := by
  obtain ⟨i0, hi, hz0, hz1, hz2⟩ := info_parts info_pfx
  have hx : (19 : Int) ≤ (m.size : Int) := by omega
  have hz : ((m.size : Int) == 0) = false := by rw [beq_eq_false_iff_ne]; omega
  have hr1 := fun w => rf_yes G g w (by omega) hg
  have hr2 := fun w => rf_yes C a w (by omega) hc
  have hak := fun w => attributes_any K w (by omega)
  have hq : ((a.length : Int) == 0) = false := by rw [beq_eq_false_iff_ne]; omega
  clear hg hc
  go_enter Try.func13, Try.ntmps13
  go_wp2_with (first | (go_at_call 11; refine (hfr _).mono ?_; rintro e w1 ⟨rfl, hb1⟩; obtain ⟨hbx, hbel⟩ := box3_first _ _ _ _ _ _ hb1; have hsz := hbx.lt) | (go_at_call 36; refine (hpa _).mono ?_; rintro e w2 ⟨rfl, hb2⟩; have hbx2 := hbx.later hb2; have hbel2 := later_below hbel hb2 hbel.size) | (go_at_call_of 37 (G); refine (hr1 _).mono ?_; rintro e w3 ⟨a1, c1, rfl, hb3, ho1, hl1⟩; have hbel3 := later_below hbel2 hb3 hbel2.size; have hbx3 := hbx2.later hb3) | (go_at_call_of 37 (C); refine (hr2 _).mono ?_; rintro e w4 ⟨a2, c2, rfl, hb4, ho2, hl2⟩; have hbel4 := later_below hbel3 hb4 hbel3.size; have hbx4 := hbx3.later hb4) | (go_at_call 38; refine (hak _).mono ?_; rintro e w5 ⟨rfl, hb5, l0, sn, sp0, en, hK, hend⟩; obtain ⟨rfl, rfl, rfl⟩ := refEnd_some hend hk; have hbel5 := later_below hbel4 hb5 hbel4.size; have hbx5 := hbx4.later hb5; obtain ⟨q0, q1, q2, f0, f1, f2, ql⟩ := hbx5; have hcE := hK.ends; have hcS := hK.spoilt) | (go_at_call 39; refine (hneeds _ _ _ _ _ hK).mono ?_; rintro e wn ⟨rfl, hw⟩; rw [hw]; clear hw wn))
  rcases ho2.2 with ⟨_, e0⟩ | ⟨gb, cb, cur, e2, hgb, _⟩
  · exact absurd e0 h0
  · cases e2
    have hgb2 := (ho2.lt gb rfl).2
    have ho5 := owns_later (owns_later ho1 hb4) hb5
    have hcell := fun j u (hu : (pfCells a)[j]? = some u) => ((owns_later ho2 hb5).cells (g := gb) rfl) j u hu
    have hb25 : Below w2.heap.size w2 w5 := later_below (later_below hb3 hb4 hb3.size) hb5 (Nat.le_trans hb3.size hb4.size)
    have hlt1 := (ho1.lt)
    have hs45 := hb5.size
    have hgl : g.length ≤ 200 := by omega
    have hal : a.length ≤ 200 := by omega
    have HBX := hide hbx2
    have HLT := hide (Nat.lt_of_lt_of_le hbx.lt hb2.size)
    have HB2 := hide hbel2
    clear hb3 hb4 hb5 hbel3 hbel4 hbel5 hbx3 hbx4 hbx hbel hbx2 hbel2 hb1 hb2 ho1 ho2 hK hcE hcS hneeds hak hr1 hr2 hfr hpa q0 q1 q2 f0 f1 f2 ql hend
    go_loopw [11, 17] (fun x i wr => ∃ (k : Nat) (lv : Value), lv = x ∧ k ≤ a.length ∧ i = .int .i64 k ∧ wr.ownsRow w2.heap.size 36 2 lv (g.length + k) (pfCells (g ++ a.take k)) ∧ (∀ j, lv.ownBlock = some j → j < w3.heap.size ∨ w4.heap.size ≤ j) ∧ (∀ j u, (pfCells a)[j]? = some u → wr.cell? ((⟨gb, 0, none⟩ : Addr).add j) = some u) ∧ w4.heap.size ≤ wr.heap.size ∧ Below w2.heap.size w2 wr) (fun _ i _ => a.length - (intOf i).toNat)
    case atStart => exact ⟨0, _, rfl, Nat.zero_le _, rfl, by simpa using ho5, fun j hj => .inl (hlt1 j hj).2, hcell, hs45, hb25⟩
    case round =>
      obtain ⟨k, lv, rfl, hka, rfl, hown, hpl, hcl, hsz4, hbel⟩ := hrel
      obtain ⟨a6, c6, rfl⟩ := slice_of_owns hown
      by_cases hlt : k < a.length
      · obtain ⟨g1, g2⟩ := pfCells_get a k hlt
        have d1 := hcl _ _ g1
        have d2 := hcl _ _ g2
        rw [add_head] at d1 d2
        have HT := hide (pf_take g a k hlt)
        have hne : some gb ≠ (Value.slice a6 (g.length + k) c6).ownBlock := by
          intro e; rcases hpl gb e.symm with h | h <;> omega
        have HCL := hide hcl
        have HPL := hide hpl
        clear hcl hpl g1 g2 hcell ho5
        generalize a[k] = p at *
        go_wp2_with (first | (at_builtin; refine wpList_append_placed _ rfl _ _ 26 rfl w2.heap.size 36 i0 (.agg #[.int .i64 0, .int .i64 0]) 2 16 Try.underlying26 hi hz0 hz1 hz2 rfl (by decide) _ _ _ rfl (hown.alloc _) ⟨wr.heap.size, 0, none⟩ 1 1 [.int .i64 p.1, .int .i64 p.2] rfl rfl (cells_new _ _ _) (pf_two _ _) (by unfold maxLen; omega) (by omega) (Nat.le_trans hbel.size (by simp)) ?_; intro v' w6 hown6 hgrow6 hpl6))
        refine ⟨⟨k + 1, v', rfl, by omega, by go_num, ?_, fun j hj => ?_, fun j u hu => ?_, Nat.le_trans hsz4 (Nat.le_trans (by simp) hgrow6.size), below_app hbel hbel.size hown hgrow6⟩, by simp [intOf]; omega⟩
        · rw [HT.out]; exact hown6
        · rcases hpl6 with h | ⟨j2, h, h2⟩
          · exact HPL.out j (h.symm.trans hj)
          · rw [h] at hj
            injection hj with hj
            subst hj
            right; simp at h2; omega
        · have h := HCL.out j u hu
          rw [add_head] at h ⊢
          exact grown_cell hgrow6 h hne
      · have hk2 : k = a.length := by omega
        subst hk2
        rw [List.take_length] at hown
        obtain ⟨q0, q1, q2, f0, f1, f2, ql⟩ := HBX.out.below hbel HLT.out
        have hbelw : Below w.heap.size w wr := HB2.out.trans (hbel.mono (Nat.le_of_lt HLT.out))
        clear hcl hpl hcell ho5
        go_wp2
        refine bodyPost_ret (v := .tuple #[.agg #[.slice a6 (g.length + a.length) c6, .slice none 0 0, .string ⟨#[]⟩], .int .i64 0]) (by simp [results, Try.results13, go_sem, q0, q1, q2]) rfl ⟨_, _, rfl, below_three hbelw (Nat.le_refl _) _ _ _, ?_, World.ownsRow_nil _ _ _ _, apart_nil _⟩
        rw [List.length_append]
        exact owns_box hown HLT.out _ _ _

set_option maxRecDepth 20000 in
set_option maxHeartbeats 8000000 in
theorem ref_lacks (m G K C : ByteArray) (w : World) (h19 : 19 ≤ m.size) (hm : m.size ≤ 200) (hG : G.size ≤ m.size) (hKs : K.size ≤ m.size) (hC : C.size ≤ m.size) (hfr : ∀ w, Calls Try.prog 11 #[.string m] w fun e w' => e = .returned (.tuple #[.int .i64 m.size, .int .i64 2, .int .i64 0]) ∧ Below w.heap.size w w')
    (hpa : ∀ w, Calls Try.prog 36 #[.string (m.extract 19 m.size)] w fun e w' => e = .returned (.tuple #[.string G, .string K, .string C, .bool true]) ∧ Below w.heap.size w w')
    (g a : List (Int × Int)) (l : List At) (hg : rdAll G = some g) (hc : rdAll C = some a) (hk : akOf K = some (l, false)) (h0 : a.length ≠ 0) 
    (hneeds : ∀ b sn sp en wx, KeptAt wx b (flagAt l) (valAt l) sn sp en → Calls Try.prog 39 #[.pointer (some ⟨b, 0, none⟩)] wx fun e w' => e = .returned (.bool true) ∧ w' = wx) :
    Calls Try.prog 13 #[.string m] w fun e w' => Answers ⟨0, g ++ a, [], []⟩ w e w' := by
  obtain ⟨i0, hi, hz0, hz1, hz2⟩ := info_parts info_pfx
  have hx : (19 : Int) ≤ (m.size : Int) := by omega
  have hz : ((m.size : Int) == 0) = false := by rw [beq_eq_false_iff_ne]; omega
  have hr1 := fun w => rf_yes G g w (by omega) hg
  have hr2 := fun w => rf_yes C a w (by omega) hc
  have hak := fun w => attributes_any K w (by omega)
  have hq : ((a.length : Int) == 0) = false := by rw [beq_eq_false_iff_ne]; omega
  clear hg hc
  go_enter Try.func13, Try.ntmps13
  go_wp2_with (first | (go_at_call 11; refine (hfr _).mono ?_; rintro e w1 ⟨rfl, hb1⟩; obtain ⟨hbx, hbel⟩ := box3_first _ _ _ _ _ _ hb1; have hsz := hbx.lt) | (go_at_call 36; refine (hpa _).mono ?_; rintro e w2 ⟨rfl, hb2⟩; have hbx2 := hbx.later hb2; have hbel2 := later_below hbel hb2 hbel.size) | (go_at_call_of 37 (G); refine (hr1 _).mono ?_; rintro e w3 ⟨a1, c1, rfl, hb3, ho1, hl1⟩; have hbel3 := later_below hbel2 hb3 hbel2.size; have hbx3 := hbx2.later hb3) | (go_at_call_of 37 (C); refine (hr2 _).mono ?_; rintro e w4 ⟨a2, c2, rfl, hb4, ho2, hl2⟩; have hbel4 := later_below hbel3 hb4 hbel3.size; have hbx4 := hbx3.later hb4) | (go_at_call 38; refine (hak _).mono ?_; rintro e w5 ⟨rfl, hb5, l0, sn, sp0, en, hK, hend⟩; obtain ⟨rfl, rfl, rfl⟩ := refEnd_some hend hk; have hbel5 := later_below hbel4 hb5 hbel4.size; have hbx5 := hbx4.later hb5; obtain ⟨q0, q1, q2, f0, f1, f2, ql⟩ := hbx5; have hcE := hK.ends; have hcS := hK.spoilt) | (go_at_call 39; refine (hneeds _ _ _ _ _ hK).mono ?_; rintro e wn ⟨rfl, hw⟩; rw [hw]; clear hw wn))
  rcases ho2.2 with ⟨_, e0⟩ | ⟨gb, cb, cur, e2, hgb, _⟩
  · exact absurd e0 h0
  · cases e2
    have hgb2 := (ho2.lt gb rfl).2
    have ho5 := owns_later (owns_later ho1 hb4) hb5
    have hcell := fun j u (hu : (pfCells a)[j]? = some u) => ((owns_later ho2 hb5).cells (g := gb) rfl) j u hu
    have hb25 : Below w2.heap.size w2 w5 := later_below (later_below hb3 hb4 hb3.size) hb5 (Nat.le_trans hb3.size hb4.size)
    have hlt1 := (ho1.lt)
    have hs45 := hb5.size
    have hgl : g.length ≤ 200 := by omega
    have hal : a.length ≤ 200 := by omega
    have HBX := hide hbx2
    have HLT := hide (Nat.lt_of_lt_of_le hbx.lt hb2.size)
    have HB2 := hide hbel2
    clear hb3 hb4 hb5 hbel3 hbel4 hbel5 hbx3 hbx4 hbx hbel hbx2 hbel2 hb1 hb2 ho1 ho2 hK hcE hcS hneeds hak hr1 hr2 hfr hpa q0 q1 q2 f0 f1 f2 ql hend
    go_loopw [11, 17] (fun x i wr => ∃ (k : Nat) (lv : Value), lv = x ∧ k ≤ a.length ∧ i = .int .i64 k ∧ wr.ownsRow w2.heap.size 36 2 lv (g.length + k) (pfCells (g ++ a.take k)) ∧ (∀ j, lv.ownBlock = some j → j < w3.heap.size ∨ w4.heap.size ≤ j) ∧ (∀ j u, (pfCells a)[j]? = some u → wr.cell? ((⟨gb, 0, none⟩ : Addr).add j) = some u) ∧ w4.heap.size ≤ wr.heap.size ∧ Below w2.heap.size w2 wr) (fun _ i _ => a.length - (intOf i).toNat)
    case atStart => exact ⟨0, _, rfl, Nat.zero_le _, rfl, by simpa using ho5, fun j hj => .inl (hlt1 j hj).2, hcell, hs45, hb25⟩
    case round =>
      obtain ⟨k, lv, rfl, hka, rfl, hown, hpl, hcl, hsz4, hbel⟩ := hrel
      obtain ⟨a6, c6, rfl⟩ := slice_of_owns hown
      by_cases hlt : k < a.length
      · obtain ⟨g1, g2⟩ := pfCells_get a k hlt
        have d1 := hcl _ _ g1
        have d2 := hcl _ _ g2
        rw [add_head] at d1 d2
        have HT := hide (pf_take g a k hlt)
        have hne : some gb ≠ (Value.slice a6 (g.length + k) c6).ownBlock := by
          intro e; rcases hpl gb e.symm with h | h <;> omega
        have HCL := hide hcl
        have HPL := hide hpl
        clear hcl hpl g1 g2 hcell ho5
        generalize a[k] = p at *
        go_wp2_with (first | (at_builtin; refine wpList_append_placed _ rfl _ _ 26 rfl w2.heap.size 36 i0 (.agg #[.int .i64 0, .int .i64 0]) 2 16 Try.underlying26 hi hz0 hz1 hz2 rfl (by decide) _ _ _ rfl (hown.alloc _) ⟨wr.heap.size, 0, none⟩ 1 1 [.int .i64 p.1, .int .i64 p.2] rfl rfl (cells_new _ _ _) (pf_two _ _) (by unfold maxLen; omega) (by omega) (Nat.le_trans hbel.size (by simp)) ?_; intro v' w6 hown6 hgrow6 hpl6))
        refine ⟨⟨k + 1, v', rfl, by omega, by go_num, ?_, fun j hj => ?_, fun j u hu => ?_, Nat.le_trans hsz4 (Nat.le_trans (by simp) hgrow6.size), below_app hbel hbel.size hown hgrow6⟩, by simp [intOf]; omega⟩
        · rw [HT.out]; exact hown6
        · rcases hpl6 with h | ⟨j2, h, h2⟩
          · exact HPL.out j (h.symm.trans hj)
          · rw [h] at hj
            injection hj with hj
            subst hj
            right; simp at h2; omega
        · have h := HCL.out j u hu
          rw [add_head] at h ⊢
          exact grown_cell hgrow6 h hne
      · have hk2 : k = a.length := by omega
        subst hk2
        rw [List.take_length] at hown
        obtain ⟨q0, q1, q2, f0, f1, f2, ql⟩ := HBX.out.below hbel HLT.out
        have hbelw : Below w.heap.size w wr := HB2.out.trans (hbel.mono (Nat.le_of_lt HLT.out))
        clear hcl hpl hcell ho5
        go_wp2
        refine bodyPost_ret (v := .tuple #[.agg #[.slice a6 (g.length + a.length) c6, .slice none 0 0, .string ⟨#[]⟩], .int .i64 0]) (by simp [results, Try.results13, go_sem, q0, q1, q2]) rfl ⟨_, _, rfl, below_three hbelw (Nat.le_refl _) _ _ _, ?_, World.ownsRow_nil _ _ _ _, apart_nil _⟩
        rw [List.length_append]
        exact owns_box hown HLT.out _ _ _

end Go.Proofs.Yteoacdkgicfomaa
/-
  The document's Update: one contract for every message: the same answer.
-/
namespace Go.Proofs.Yteoacdkgicfomaa
open Go.RowKit
open Rl

theorem isSome_of {α : Type} {o : Option α} {x : α} (h : o = some x) : o.isSome = true := by rw [h]; rfl

theorem updateRef_any (m : ByteArray) (w : World) (hm : m.size ≤ maxLen) :
    Calls Try.prog 13 #[.string m] w fun e w' => Answers (upd m) w e w' := by
  cases hf : frameOk m with
  | false =>
    have hu : upd m = ⟨2, [], [], []⟩ := by unfold upd; rw [if_neg (by simp [hf])]
    rw [hu]
    exact (ref_frame m w hm hf).mono fun e w' h => answers_refused h
  | true =>
    have hu : upd m = updParts (m.extract 19 m.size) := by unfold upd; rw [if_pos hf]
    rw [hu]
    obtain ⟨h19, h200, hE, hN, hK⟩ := frame_size m hf
    have hfr := fun w => frameref_any m w hm
    rw [hE, hN, hK] at hfr
    have hcs : (m.extract 19 m.size).size ≤ m.size := by rw [ByteArray.size_extract]; omega
    have hcm : (m.extract 19 m.size).size ≤ maxLen := Nat.le_trans hcs hm
    obtain ⟨zG, zK, zC⟩ := cut_sizes (m.extract 19 m.size)
    unfold updParts
    cases hp : partsOk (m.extract 19 m.size) with
    | false =>
      rw [if_neg (by simp)]
      exact (ref_parts m w h19 h200 hfr (fun w => partsref_no _ w hcm hp)).mono fun e w' h => answers_refused h
    | true =>
      rw [if_pos rfl]
      have hpa := fun w => partsref_yes (m.extract 19 m.size) w hcm hp
      have yG := Nat.le_trans zG hcs
      have yK := Nat.le_trans zK hcs
      have yC := Nat.le_trans zC hcs
      cases hg : rdAll (cutHead (m.extract 19 m.size)) with
      | none => exact (ref_rd1 m _ _ _ w h19 h200 yG yK yC hfr hpa (by rw [hg]; rfl)).mono fun e w' h => answers_refused h
      | some g =>
        cases hc : rdAll (cutTail (cutTail (m.extract 19 m.size))) with
        | none => exact (ref_rd2 m _ _ _ w h19 h200 yG yK yC hfr hpa (isSome_of hg) (by rw [hc]; rfl)).mono fun e w' h => answers_refused h
        | some a =>
          cases hk : akOf (cutHead (cutTail (m.extract 19 m.size))) with
          | none => exact (ref_ak m _ _ _ w h19 h200 yG yK yC hfr hpa (isSome_of hg) (isSome_of hc) hk).mono fun e w' h => answers_refused h
          | some p =>
            obtain ⟨l, sp⟩ := p
            simp only
            obtain ⟨sn2, hkep⟩ := akOf_kep _ l sp hk
            have hneed := needN_flags l hkep.once
            unfold updBody
            by_cases h0 : a.length = 0
            · rw [if_pos h0]
              have ha : a = [] := List.eq_nil_of_length_eq_zero h0
              subst ha
              exact (ref_none m _ _ _ w h19 h200 yG yK yC hfr hpa g l sp hg hc hk).mono fun e w' h => h
            · rw [if_neg h0]
              by_cases hb : sp = true ∨ needN l ≠ 3
              · rw [if_pos hb]
                cases sp with
                | true => exact (ref_spoilt m _ _ _ w h19 h200 yG yK yC hfr hpa g a l hg hc hk h0 _ (fun b sn sp en wx hK => needs_any b _ _ sn sp en wx hK)).mono fun e w' h => h
                | false =>
                  have hn : needN l ≠ 3 := by rcases hb with h | h; exact absurd h (by simp); exact h
                  have hx : (decide (flagAt l 1 < 0) || decide (flagAt l 2 < 0) || decide (flagAt l 3 < 0)) = true := by
                    have e : (needN l == 3) = false := by rw [beq_eq_false_iff_ne]; exact hn
                    rw [e] at hneed
                    cases hd : (decide (flagAt l 1 < 0) || decide (flagAt l 2 < 0) || decide (flagAt l 3 < 0)) with
                    | true => rfl
                    | false => rw [hd] at hneed; simp at hneed
                  refine (ref_lacks m _ _ _ w h19 h200 yG yK yC hfr hpa g a l hg hc hk h0 (fun b sn sp en wx hK => ?_)).mono fun e w' h => h
                  have h := needs_any b _ _ sn sp en wx hK
                  rw [hx] at h
                  exact h
              · rw [if_neg hb]
                have hs : sp = false := by cases sp <;> simp_all
                have hn : needN l = 3 := by by_cases e : needN l = 3; exact e; exact absurd (Or.inr e) hb
                subst hs
                have hx : (decide (flagAt l 1 < 0) || decide (flagAt l 2 < 0) || decide (flagAt l 3 < 0)) = false := by
                  have e : (needN l == 3) = true := by rw [hn]; rfl
                  rw [e] at hneed
                  cases hd : (decide (flagAt l 1 < 0) || decide (flagAt l 2 < 0) || decide (flagAt l 3 < 0)) with
                  | false => rfl
                  | true => rw [hd] at hneed; simp at hneed
                refine (ref_good m _ _ _ w h19 h200 yG yK yC hfr hpa g a l hg hc hk h0 (fun b sn sp en wx hK => ?_) (fun b sn sp en wx hK => ?_)).mono fun e w' h => h
                · have h := needs_any b _ _ sn sp en wx hK
                  rw [hx] at h
                  exact h
                · have hb1 := canTo_bound l _ (valAt_le hkep) 256
                  have hb2 : (cutHead (cutTail (m.extract 19 m.size))).size ≤ 200 := by omega
                  generalize (cutHead (cutTail (m.extract 19 m.size))).size = z at *
                  exact text_any b l sn sp en wx hK (flagAt_lt hkep) (fun i => Nat.le_trans (valAt_le hkep i) (by omega)) (by omega)

end Go.Proofs.Yteoacdkgicfomaa
/-
  What the readers make of what the writers write: prefixes, attributes, messages, as plain functions of the bytes.
-/
namespace Go.Proofs.Yteoacdkgicfomaa
open Go.RowKit
open Rl

/-- bytes as a text. -/
def txt (l : List UInt8) : ByteArray := ⟨l.toArray⟩

theorem txt_data (l : List UInt8) : (txt l).data.toList = l := by simp [txt]
theorem txt_len (l : List UInt8) : (txt l).size = l.length := by show l.toArray.size = _; simp
theorem txt_of (s : ByteArray) : txt s.data.toList = s := by unfold txt; cases s; simp
theorem txt_ext {s : ByteArray} {l : List UInt8} (h : s.data.toList = l) : s = txt l := by rw [← h, txt_of]

theorem txt_extract (l : List UInt8) (a b : Nat) : (txt l).extract a b = txt ((l.drop a).take (b - a)) := by
  apply txt_ext; rw [Lib.extract_data, txt_data]

theorem num_app (m : List UInt8) : ∀ l : List UInt8, num (l ++ m) = num l * 256 ^ m.length + num m := by
  induction m with
  | nil => intro l; simp [num]
  | cons c m ih =>
    intro l
    have e1 := ih (l ++ [c])
    have e2 := ih [c]
    have e3 : l ++ c :: m = (l ++ [c]) ++ m := by simp
    have e4 : c :: m = [c] ++ m := rfl
    have e5 : num [c] = (c.toNat : Int) := by simp [num]
    rw [e3, e1, num_snoc]
    conv => rhs; rw [e4, e2, e5]
    rw [Int.add_mul, List.length_append, List.length_singleton, Int.pow_add]
    have e : (256 : Int) * num l * 256 ^ m.length = num l * (256 ^ 1 * 256 ^ m.length) := by rw [Int.mul_comm 256 (num l), Int.mul_assoc]; rfl
    rw [e]
    omega

theorem pow_cast (k : Nat) : ((256 ^ k : Nat) : Int) = (256 : Int) ^ k := Int.natCast_pow 256 k

theorem num_be (k n : Nat) : num (be k n) = ((n % 256 ^ k : Nat) : Int) := by
  induction k with
  | zero => simp [be, num_nil, Nat.mod_one]
  | succ k ih =>
    have e : be (k + 1) n = [UInt8.ofNat (n / 256 ^ k % 256)] ++ be k n := rfl
    rw [e, num_app, be_length, ih]
    have h1 : num [UInt8.ofNat (n / 256 ^ k % 256)] = ((n / 256 ^ k % 256 : Nat) : Int) := by
      have := toNat_mod (n / 256 ^ k)
      simp only [num, List.foldl_cons, List.foldl_nil]
      omega
    rw [h1, Nat.pow_succ, Nat.mod_mul, Int.natCast_add, Int.natCast_mul, pow_cast, Int.mul_comm]
    omega

/-- the first k bytes of a number of m bytes. -/
theorem num_be_take (m k n : Nat) (_h : k ≤ m) : num ((be m n).take k) = ((n % 256 ^ m / 256 ^ (m - k) : Nat) : Int) := by
  have e : num (be m n) = num ((be m n).take k) * 256 ^ (m - k) + num ((be m n).drop k) := by
    have h1 := num_app ((be m n).drop k) ((be m n).take k)
    rw [List.take_append_drop, List.length_drop, be_length] at h1
    exact h1
  have hb := num_be m n
  have h0 := num_nonneg ((be m n).drop k)
  have h1 := num_nonneg ((be m n).take k)
  have h2 := num_lt (m - k) ((be m n).drop k) (by rw [List.length_drop, be_length]; omega)
  have hp : (256 : Int) ^ (m - k) = ((256 ^ (m - k) : Nat) : Int) := (pow_cast _).symm
  have hpp : 0 < 256 ^ (m - k) := Nat.pow_pos (by omega)
  rw [hp] at e h2
  obtain ⟨x, hx⟩ : ∃ x : Nat, num ((be m n).take k) = (x : Int) := ⟨_, (Int.toNat_of_nonneg h1).symm⟩
  obtain ⟨y, hy⟩ : ∃ y : Nat, num ((be m n).drop k) = (y : Int) := ⟨_, (Int.toNat_of_nonneg h0).symm⟩
  rw [hx, hy, hb] at e
  rw [hy] at h2
  rw [hx]
  have e2 : n % 256 ^ m = x * 256 ^ (m - k) + y := by
    apply Int.ofNat.inj
    show ((n % 256 ^ m : Nat) : Int) = ((x * 256 ^ (m - k) + y : Nat) : Int)
    rw [Int.natCast_add, Int.natCast_mul]; exact e
  have h2' : y < 256 ^ (m - k) := Int.ofNat_lt.1 h2
  rw [e2, Nat.add_comm, Nat.add_mul_div_right _ _ hpp, Nat.div_eq_of_lt h2', Nat.zero_add]

/-! what begins a text of three parts. -/

theorem n2_txt (n : Nat) (r : List UInt8) (h : n < 65536) : n2 (txt (be 2 n ++ r)) = n := by
  have hc := n2_cast (txt (be 2 n ++ r))
  rw [txt_extract, txt_data, List.drop_zero, List.take_append_of_le_length (by rw [be_length]; omega), List.take_of_length_le (by rw [be_length]; omega), num_be] at hc
  have e : (256 : Nat) ^ 2 = 65536 := by decide
  rw [e, Nat.mod_eq_of_lt h] at hc
  omega

theorem cutHead_txt (p r : List UInt8) (h : p.length < 65536) : cutHead (txt (be 2 p.length ++ (p ++ r))) = txt p := by
  unfold cutHead
  rw [n2_txt _ _ h, txt_extract]
  congr 1
  rw [List.drop_append_of_le_length (by rw [be_length]; omega), List.drop_of_length_le (by rw [be_length]; omega), List.nil_append, List.take_append_of_le_length (by omega), List.take_of_length_le (by omega)]

theorem cutTail_txt (p r : List UInt8) (h : p.length < 65536) : cutTail (txt (be 2 p.length ++ (p ++ r))) = txt r := by
  unfold cutTail
  rw [n2_txt _ _ h, txt_extract, txt_len]
  congr 1
  rw [← List.append_assoc, List.drop_left' (by rw [List.length_append, be_length])]
  rw [List.take_of_length_le]
  simp [be_length]; omega

theorem cutOk_txt (p r : List UInt8) (h : p.length < 65536) : cutOk (txt (be 2 p.length ++ (p ++ r))) = true := by
  unfold cutOk
  rw [n2_txt _ _ h, txt_len, decide_eq_true_iff]
  simp [be_length]

/-- the content of an update. -/
def updC (W A C : List UInt8) : List UInt8 := be 2 W.length ++ (W ++ (be 2 A.length ++ (A ++ C)))

theorem updC_parts (W A C : List UInt8) (hW : W.length < 65536) (hA : A.length < 65536) : partsOk (txt (updC W A C)) = true ∧ cutHead (txt (updC W A C)) = txt W ∧ cutHead (cutTail (txt (updC W A C))) = txt A ∧ cutTail (cutTail (txt (updC W A C))) = txt C := by
  unfold updC partsOk
  rw [cutOk_txt _ _ hW, cutTail_txt _ _ hW, cutOk_txt _ _ hA, cutHead_txt _ _ hW, cutHead_txt _ _ hA, cutTail_txt _ _ hA]
  exact ⟨rfl, rfl, rfl, rfl⟩

/-! a message. -/

theorem msg_frame (c : List UInt8) (k : Nat) (hk : k < 256) (h : 19 + c.length ≤ 200) : frE (msgOf k c) = 0 ∧ frN (msgOf k c) = ((19 + c.length : Nat) : Int) ∧ frK (msgOf k c) = (k : Int) := by
  have hm : marked (msgOf k c) = true := by
    unfold marked msgOf mark16
    rw [List.take_append_of_le_length (by simp), List.take_of_length_le (by simp), List.all_eq_true]
    intro x hx; rw [List.mem_replicate] at hx; rw [hx.2]; rfl
  have hl := msgOf_length k c
  have ht : told2 (msgOf k c) = ((19 + c.length : Nat) : Int) := by
    unfold told2 msgOf mark16
    rw [List.drop_left' (by simp), List.take_append_of_le_length (by rw [be_length]; omega), List.take_of_length_le (by rw [be_length]; omega), num_be]
    have e : (256 : Nat) ^ 2 = 65536 := by decide
    rw [e, Nat.mod_eq_of_lt (by omega)]
  have hg : ((msgOf k c).getD 18 0).toNat = k := by
    have e : msgOf k c = (mark16 ++ be 2 (19 + c.length)) ++ (UInt8.ofNat (k / 256 ^ 0 % 256) :: ([] ++ c)) := by
      unfold msgOf; rw [List.append_assoc]; rfl
    rw [e, List.getD_eq_getElem?_getD, List.getElem?_append_right (by simp [mark16, be_length])]
    simp [mark16, be_length, UInt8.toNat_ofNat']
    omega
  obtain ⟨h1, h2, h3⟩ := fr_whole (msgOf k c) hm (by omega) (by rw [ht]; omega) (by rw [ht]; omega)
  refine ⟨h3, by rw [h1, ht], by rw [h2, hg]⟩

theorem msg_content (c : List UInt8) (k : Nat) : (txt (msgOf k c)).extract 19 (txt (msgOf k c)).size = txt c := by
  rw [txt_extract, txt_len, msgOf_length]
  congr 1
  have e : msgOf k c = (mark16 ++ (be 2 (19 + c.length) ++ be 1 k)) ++ c := by unfold msgOf; simp only [List.append_assoc]
  rw [e, List.drop_left' (by simp [mark16, be_length]), List.take_of_length_le (by omega)]

/-! prefixes. -/

theorem pfx_rdN (p : Nat × Nat) (r : List UInt8) (h : p.2 < 256) : rdN (txt (pfxBytes p ++ r)) = p.2 := by
  unfold rdN at8 pfxBytes
  rw [txt_data]
  simp [UInt8.toNat_ofNat']
  omega

theorem pfx_body (p : Nat × Nat) (r : List UInt8) : (pfxBytes p ++ r).drop 1 = (be 4 p.1).take (many p.2) ++ r := rfl

theorem pfx_rdNum (p : Nat × Nat) (r : List UInt8) (h : p.2 ≤ 32) (ha : p.1 ≤ 4294967295) : rdNum (txt (pfxBytes p ++ r)) = p.1 / 256 ^ (4 - many p.2) := by
  have hm := many_le p.2 h
  have hc := rdNum_cast (txt (pfxBytes p ++ r))
  rw [pfx_rdN p r (by omega), txt_extract, txt_data, pfx_body p r] at hc
  rw [List.take_append_of_le_length (by rw [List.length_take, be_length]; omega), List.take_of_length_le (by rw [List.length_take, be_length]; omega), num_be_take 4 _ _ hm] at hc
  have e : (256 : Nat) ^ 4 = 4294967296 := by decide
  rw [e, Nat.mod_eq_of_lt (by omega)] at hc
  omega

theorem pfx_bad (p : Nat × Nat) (r : List UInt8) (h : p.2 ≤ 32) : ¬ rdBad (txt (pfxBytes p ++ r)) := by
  unfold rdBad
  rw [pfx_rdN p r (by omega), txt_len, List.length_append, pfxBytes_length p h]
  omega

theorem pfx_tail (p : Nat × Nat) (r : List UInt8) (h : p.2 ≤ 32) : rdTail (txt (pfxBytes p ++ r)) = txt r := by
  unfold rdTail
  rw [pfx_rdN p r (by omega), txt_extract, txt_len, List.length_append, pfxBytes_length p h]
  congr 1
  rw [List.drop_left' (pfxBytes_length p h), List.take_of_length_le (by omega)]

theorem gap_nat (n : Nat) (h : n ≤ 32) : gap (n : Int) = ((2 ^ (32 - n) : Nat) : Int) := by
  unfold gap
  have e : (32 - (n : Int)).toNat = 32 - n := by omega
  rw [e]; push_cast; rfl

theorem many_gap (n : Nat) (h : n ≤ 32) : ∃ j, 2 ^ (32 - n) = 256 ^ (4 - many n) * 2 ^ j := by
  refine ⟨(32 - n) - 8 * (4 - many n), ?_⟩
  have e : (256 : Nat) ^ (4 - many n) = 2 ^ (8 * (4 - many n)) := by rw [Nat.pow_mul]
  rw [e, ← Nat.pow_add]
  congr 1
  unfold many
  omega

theorem pfx_head (p : Nat × Nat) (r : List UInt8) (hp : pfxOk p.1 p.2 = true) : rdHead (txt (pfxBytes p ++ r)) = ((p.1 : Int), (p.2 : Int)) := by
  obtain ⟨a, n⟩ := p
  have hb := pfxOk_bounds _ _ hp
  simp only at hb hp ⊢
  have hn : n ≤ 32 := by omega
  have ha : a ≤ 4294967295 := by omega
  have hg : (a : Int) % gap n = 0 := (of_decide_eq_true hp).2.2.2.2
  unfold rdHead rdA
  rw [pfx_rdN (a, n) r (by simp only; omega), pfx_rdNum (a, n) r hn ha]
  simp only
  obtain ⟨j, hj⟩ := many_gap n hn
  rw [gap_nat n hn] at hg ⊢
  have hdv : 2 ^ (32 - n) ∣ a := by
    have : (((a % 2 ^ (32 - n) : Nat)) : Int) = 0 := by push_cast at hg ⊢; exact hg
    exact Nat.dvd_of_mod_eq_zero (Int.ofNat.inj this)
  have hd2 : 256 ^ (4 - many n) ∣ a := Nat.dvd_trans ⟨2 ^ j, hj⟩ hdv
  rw [Nat.div_mul_cancel hd2, hg]
  simp

theorem rdAll_wire (l : List (Nat × Nat)) (h : ∀ p ∈ l, pfxOk p.1 p.2 = true) : rdAll (txt (pfWire l)) = some (pfInts l) := by
  induction l with
  | nil => exact rdAll_end _ (by rw [txt_len]; rfl)
  | cons p l ih =>
    have hp := h p List.mem_cons_self
    have hb := pfxOk_bounds _ _ hp
    have hn : p.2 ≤ 32 := by omega
    have e : pfWire (p :: l) = pfxBytes p ++ pfWire l := by simp [pfWire]
    rw [e, rdAll_step _ (by rw [txt_len, List.length_append, pfxBytes_length p hn]; omega) (pfx_bad p _ hn), pfx_tail p _ hn, pfx_head p _ hp, ih fun q hq => h q (List.mem_cons_of_mem _ hq)]
    rfl

/-! attributes. -/

theorem lt_two {n : Nat} (h : n < 65536) : n < 256 ^ 2 := by
  have e : (256 : Nat) ^ 2 = 65536 := by decide
  omega


theorem at8_app0 (a : UInt8) (r : List UInt8) : at8 (a :: r) 0 = a.toNat := rfl

theorem ofNat_lt (n : Nat) (h : n < 256) : (UInt8.ofNat (n / 256 ^ 0 % 256)).toNat = n := by
  rw [UInt8.toNat_ofNat']; simp; omega

theorem at_cons (f k z : Nat) (v : ByteArray) (r : List UInt8) : atBytes f k z v ++ r = UInt8.ofNat (f / 256 ^ 0 % 256) :: UInt8.ofNat (k / 256 ^ 0 % 256) :: (be z v.size ++ (v.data.toList ++ r)) := by
  unfold atBytes
  simp only [List.append_assoc]
  rfl

theorem at_flags (f k z : Nat) (v : ByteArray) (r : List UInt8) (hf : f < 256) : at8 (txt (atBytes f k z v ++ r)).data.toList 0 = f := by
  rw [txt_data, at_cons, at8_app0, ofNat_lt f hf]

theorem at_kind (f k z : Nat) (v : ByteArray) (r : List UInt8) (hk : k < 256) : at8 (txt (atBytes f k z v ++ r)).data.toList 1 = k := by
  rw [txt_data, at_cons]
  show (UInt8.ofNat (k / 256 ^ 0 % 256)).toNat = k
  exact ofNat_lt k hk

theorem at_len (f k z : Nat) (v : ByteArray) (r : List UInt8) (hv : v.size < 256 ^ z) : lenZ z (txt (atBytes f k z v ++ r)) = v.size := by
  have hc := lenZ_cast z (txt (atBytes f k z v ++ r))
  generalize lenZ z (txt (atBytes f k z v ++ r)) = y at *
  rw [txt_extract, txt_data, at_cons] at hc
  have e : ∀ (a b : UInt8) (l : List UInt8), (a :: b :: l).drop 2 = l := fun _ _ _ => rfl
  rw [e, show 2 + z - 2 = z from by omega, List.take_append_of_le_length (by rw [be_length]; omega), List.take_of_length_le (by rw [be_length]; omega), num_be, Nat.mod_eq_of_lt hv] at hc
  exact Int.ofNat.inj hc

theorem at_head (f k z : Nat) (v : ByteArray) (r : List UInt8) (hf : f < 256) (hk : k < 256) (hv : v.size < 256 ^ z) : wholeZ z (txt (atBytes f k z v ++ r)) = true ∧ headZ z (txt (atBytes f k z v ++ r)) = ⟨f, k, v⟩ ∧ restZ z (txt (atBytes f k z v ++ r)) = txt r := by
  have hl := at_len f k z v r hv
  refine ⟨?_, ?_, ?_⟩
  · unfold wholeZ
    rw [hl, txt_len, List.length_append, atBytes_length, decide_eq_true_iff]
    omega
  · unfold headZ
    rw [hl, at_flags f k z v r hf, at_kind f k z v r hk, txt_extract]
    congr 1
    symm
    apply txt_ext
    have e : atBytes f k z v ++ r = (be 1 f ++ (be 1 k ++ be z v.size)) ++ (v.data.toList ++ r) := by unfold atBytes; simp only [List.append_assoc]
    rw [e, List.drop_left' (by simp [be_length]; omega), List.take_append_of_le_length (by rw [len_data]; omega), List.take_of_length_le (by rw [len_data]; omega)]
  · unfold restZ
    rw [hl, txt_extract, txt_len, List.length_append, atBytes_length]
    congr 1
    rw [List.drop_left' (by rw [atBytes_length]), List.take_of_length_le (by omega)]

/-- an attribute's bytes in an update. -/
theorem ak_head (f k z : Nat) (v : ByteArray) (r : List UInt8) (hf : f < 256) (hz : z = if f / 16 % 2 = 1 then 2 else 1) (hk : k < 256) (hv : v.size < 256 ^ z) : akW (txt (atBytes f k z v ++ r)) = true ∧ akH (txt (atBytes f k z v ++ r)) = ⟨f, k, v⟩ ∧ akR (txt (atBytes f k z v ++ r)) = txt r := by
  have e : zOf (txt (atBytes f k z v ++ r)) = z := by unfold zOf; rw [at_flags f k z v r hf, hz]
  unfold akW akH akR
  rw [e]
  exact at_head f k z v r hf hk hv

/-- what an attribute of a canonical text does in an update. -/
theorem did_canon (f k : Nat) (v : ByteArray) (h : atOk f k v = true) : didOf f k v = .keep f ∧ didOf (f + 16) k v = .keep f := by
  have hf := atOk_flags f k v h
  unfold atOk at h
  unfold didOf
  cases hk : knownB k with
  | true =>
    rw [if_pos hk, Bool.and_eq_true] at h
    have h1 := of_decide_eq_true h.1
    have e1 : ((f / 64 * 64 : Nat) : Int) = flagsI k := by rcases flagsI_known k hk with e | e | e <;> rw [e] at h1 ⊢ <;> omega
    have e2 : (((f + 16) / 64 * 64 : Nat) : Int) = flagsI k := by rcases flagsI_known k hk with e | e | e <;> rw [e] at h1 ⊢ <;> omega
    have e3 : (flagsI k).toNat = f := by omega
    rw [if_pos rfl, if_pos rfl, if_pos ⟨e1, h.2⟩, if_pos ⟨e2, h.2⟩, e3]
    exact ⟨rfl, rfl⟩
  | false =>
    rw [if_neg (by simp [hk])] at h
    have h1 := of_decide_eq_true h
    rcases h1 with h1 | h1
    · have : f = 192 := by omega
      subst this; exact ⟨rfl, rfl⟩
    · have : f = 224 := by omega
      subst this; exact ⟨rfl, rfl⟩

/-- an attribute's bytes at the beginning of what is read. -/
theorem akAll_one (f k z : Nat) (v : ByteArray) (r : List UInt8) (sn : Nat → Bool) (l : List At) (sp : Bool) (hf : f < 256) (hz : z = if f / 16 % 2 = 1 then 2 else 1) (hk : k < 256) (hv : v.size < 256 ^ z) (hs : sn k = false) :
    akAll (txt (atBytes f k z v ++ r)) sn l sp = match didOf f k v with
      | .keep g => akAll (txt r) (met sn k) (l ++ [⟨g, k, v⟩]) sp
      | .pass => akAll (txt r) (met sn k) l sp
      | .spoil => akAll (txt r) (met sn k) l true
      | .ends => none := by
  obtain ⟨h1, h2, h3⟩ := ak_head f k z v r hf hz hk hv
  have h0 : ¬ (txt (atBytes f k z v ++ r)).size = 0 := by rw [txt_len, List.length_append, atBytes_length]; omega
  have hk2 : (akH (txt (atBytes f k z v ++ r))).kind = k := by rw [h2]
  cases hd : didOf f k v with
  | keep g => rw [akAll_keep h0 h1 (by rw [hk2]; exact hs) g (by rw [h2]; exact hd), h2, h3]
  | pass => rw [akAll_pass h0 h1 (by rw [hk2]; exact hs) (by rw [h2]; exact hd), h2, h3]
  | spoil => rw [akAll_spoil h0 h1 (by rw [hk2]; exact hs) (by rw [h2]; exact hd), h2, h3]
  | ends => rw [akAll_ends h0 h1 (by rw [hk2]; exact hs) (by rw [h2]; exact hd)]

/-- a list of attributes of a canonical text. -/
def CanList (l : List At) : Prop := (∀ a ∈ l, atOk a.flags a.kind a.val = true ∧ a.kind < 256 ∧ a.val.size < 65536) ∧ l.Pairwise fun a b => a.kind < b.kind

theorem CanList.tail {a : At} {l : List At} (h : CanList (a :: l)) : CanList l := ⟨fun b hb => h.1 b (List.mem_cons_of_mem _ hb), (List.pairwise_cons.1 h.2).2⟩

theorem akAll_wire (l : List At) (r : List UInt8) : ∀ (sn : Nat → Bool) (x : List At) (sp : Bool), CanList l → (∀ a ∈ l, sn a.kind = false) → ∃ sn', akAll (txt (l.flatMap atWire ++ r)) sn x sp = akAll (txt r) sn' (x ++ l) sp ∧ ∀ k, (∀ a ∈ l, a.kind < k) → sn' k = sn k := by
  induction l with
  | nil => intro sn x sp _ _; exact ⟨sn, by simp, fun _ _ => rfl⟩
  | cons a l ih =>
    intro sn x sp hc hs
    obtain ⟨ho, hk, hv⟩ := hc.1 a List.mem_cons_self
    have hf := atOk_flags _ _ _ ho
    have hd := did_canon _ _ _ ho
    have hlt := (List.pairwise_cons.1 hc.2).1
    obtain ⟨sn', h1, h2⟩ := ih (met sn a.kind) (x ++ [a]) sp hc.tail (fun b hb => by
      rw [met_other _ _ _ (by have := hlt b hb; omega)]; exact hs b (List.mem_cons_of_mem _ hb))
    refine ⟨sn', ?_, ?_⟩
    · have e : (a :: l).flatMap atWire ++ r = atWire a ++ (l.flatMap atWire ++ r) := by simp
      rw [e]
      by_cases hz : a.val.size ≤ 255
      · rw [show atWire a = atBytes a.flags a.kind 1 a.val from if_pos hz, akAll_one _ _ 1 _ _ _ _ _ (by omega) (by rw [if_neg (by omega)]) hk (by omega) (hs a List.mem_cons_self), hd.1]
        simp only
        rw [show (⟨a.flags, a.kind, a.val⟩ : At) = a from rfl, h1, List.append_assoc]
        rfl
      · rw [show atWire a = atBytes (a.flags + 16) a.kind 2 a.val from if_neg hz, akAll_one _ _ 2 _ _ _ _ _ (by omega) (by rw [if_pos (by omega)]) hk (lt_two hv) (hs a List.mem_cons_self), hd.2]
        simp only
        rw [show (⟨a.flags, a.kind, a.val⟩ : At) = a from rfl, h1, List.append_assoc]
        rfl
    · intro k hk2
      rw [h2 k fun b hb => hk2 b (List.mem_cons_of_mem _ hb)]
      exact met_other _ _ _ (by have := hk2 a List.mem_cons_self; omega)

theorem akOf_wire (l : List At) (h : CanList l) : akOf (txt (l.flatMap atWire)) = some (l, false) := by
  obtain ⟨sn', h1, _⟩ := akAll_wire l [] (fun _ => false) [] false h (fun _ _ => rfl)
  unfold akOf
  rw [List.append_nil] at h1
  rw [h1, akAll_end (by rw [txt_len]; rfl)]
  rfl

/-! canonical texts. -/

/-- an attribute in a canonical text, its value's length in two bytes. -/
def atTwo (a : At) : List UInt8 := atBytes a.flags a.kind 2 a.val

theorem canR_text (l : List At) : ∀ (last : Int), CanList l → (∀ a ∈ l, last < (a.kind : Int)) → canR (txt (l.flatMap atTwo)) last = some l := by
  induction l with
  | nil => intro last _ _; exact canR_nil _ _ (by rw [txt_len]; rfl)
  | cons a l ih =>
    intro last hc hl
    obtain ⟨ho, hk, hv⟩ := hc.1 a List.mem_cons_self
    have hf := atOk_flags _ _ _ ho
    have e : (a :: l).flatMap atTwo = atBytes a.flags a.kind 2 a.val ++ l.flatMap atTwo := by simp [atTwo]
    obtain ⟨h1, h2, h3⟩ := at_head a.flags a.kind 2 a.val (l.flatMap atTwo) (by omega) hk (lt_two hv)
    have h2' : headC (txt (atBytes a.flags a.kind 2 a.val ++ l.flatMap atTwo)) = a := h2
    have h3' : restC (txt (atBytes a.flags a.kind 2 a.val ++ l.flatMap atTwo)) = txt (l.flatMap atTwo) := h3
    have hcan : canOk (txt (atBytes a.flags a.kind 2 a.val ++ l.flatMap atTwo)) last = true := by
      unfold canOk
      rw [h1, h2', ho, Bool.and_eq_true, Bool.and_eq_true]
      exact ⟨⟨rfl, decide_eq_true (hl a List.mem_cons_self)⟩, rfl⟩
    rw [e, canR_step _ _ hcan, h2', h3', ih _ hc.tail fun b hb => by have := (List.pairwise_cons.1 hc.2).1 b hb; omega]
    rfl

theorem can_text (l : List At) (h : CanList l) (hn : needN l = 3) : canB (txt (l.flatMap atTwo)) = true ∧ canL (txt (l.flatMap atTwo)) = l ∧ annA (txt (l.flatMap atTwo)) = l.flatMap atWire := by
  have hr := canR_text l (-1) h (fun a _ => by omega)
  refine ⟨by rw [canB_some hr, hn]; rfl, canL_some hr, ?_⟩
  unfold annA; rw [canL_some hr]

end Go.Proofs.Yteoacdkgicfomaa
/-
  Records: which are right, and what begins a text, as plain functions of the bytes.
-/
namespace Go.Proofs.Yteoacdkgicfomaa
open Go.RowKit
open Rl

/-- the route in a Route's body: its address, its length, its attributes. -/
def rtAddr (b : ByteArray) : Nat := (num ((b.extract 1 5).data.toList)).toNat
def rtLen (b : ByteArray) : Nat := at8 b.data.toList 0
def rtText (b : ByteArray) : ByteArray := b.extract 5 b.size
def rtOk (b : ByteArray) : Bool := decide (5 ≤ b.size) && (canB (rtText b) && pfxOk (rtAddr b) (rtLen b))

theorem rtAddr_cast (b : ByteArray) : (rtAddr b : Int) = num ((b.extract 1 5).data.toList) := by
  unfold rtAddr; have := num_nonneg ((b.extract 1 5).data.toList); omega

theorem num_one (l : List UInt8) (h : 1 ≤ l.length) : num (l.take 1) = (at8 l 0 : Int) := by
  cases l with
  | nil => simp at h
  | cons c l => simp [num, at8]

theorem rtLen_one (b : ByteArray) (h : 1 ≤ b.size) : num ((b.extract 0 1).data.toList) = (rtLen b : Int) := by
  rw [Lib.extract_data, List.drop_zero]
  exact num_one _ (by rw [len_data]; exact h)

/-- may there be a record of this kind, peer and body? -/
def recOk (k p : Nat) (b : ByteArray) : Bool :=
  if 6 ≤ p then false else if k = 1 then decide ((upd b).err = 0) else if k = 2 ∨ k = 3 then decide (b.size = 0) else if k = 4 then rtOk b else if k = 5 ∨ k = 6 then decide (p = 0 ∧ b.size = 0) else false

/-- a record. -/
structure Rec where
  time : Nat
  kind : Nat
  peer : Nat
  body : ByteArray

def bodyN (b : ByteArray) : Nat := (num ((b.extract 6 8).data.toList)).toNat
theorem bodyN_cast (b : ByteArray) : (bodyN b : Int) = num ((b.extract 6 8).data.toList) := by
  unfold bodyN; have := num_nonneg ((b.extract 6 8).data.toList); omega
theorem bodyN_lt (b : ByteArray) : bodyN b < 65536 := by
  have h := num_lt 2 ((b.extract 6 8).data.toList) (by rw [len_data, ByteArray.size_extract]; omega)
  have e : (256 : Int) ^ 2 = 65536 := by decide
  have := bodyN_cast b
  omega

def recTime (b : ByteArray) : Nat := (num ((b.extract 0 4).data.toList)).toNat
theorem recTime_cast (b : ByteArray) : (recTime b : Int) = num ((b.extract 0 4).data.toList) := by
  unfold recTime; have := num_nonneg ((b.extract 0 4).data.toList); omega
theorem recTime_lt (b : ByteArray) : recTime b < 4294967296 := by
  have h := num_lt 4 ((b.extract 0 4).data.toList) (by rw [len_data, ByteArray.size_extract]; omega)
  have e : (256 : Int) ^ 4 = 4294967296 := by decide
  have := recTime_cast b
  omega

/-- the record that begins b, if one does. -/
def headR (b : ByteArray) : Rec := ⟨recTime b, at8 b.data.toList 4, at8 b.data.toList 5, b.extract 8 (8 + bodyN b)⟩
def wholeR (b : ByteArray) : Bool := decide (8 ≤ b.size ∧ 12 + bodyN b ≤ b.size)
def sumR (b : ByteArray) : Bool := decide (num ((b.extract (8 + bodyN b) (12 + bodyN b)).data.toList) = (crc ((b.extract 0 (8 + bodyN b)).data.toList) : Int))
def firstR (b : ByteArray) : Bool := wholeR b && (sumR b && recOk (headR b).kind (headR b).peer (headR b).body)
def restR (b : ByteArray) : ByteArray := b.extract (12 + bodyN b) b.size

theorem restR_size (b : ByteArray) : (restR b).size = b.size - (12 + bodyN b) := by unfold restR; rw [ByteArray.size_extract]; omega
theorem firstR_whole {b : ByteArray} (h : firstR b = true) : 8 ≤ b.size ∧ 12 + bodyN b ≤ b.size := by
  unfold firstR at h; rw [Bool.and_eq_true] at h; exact of_decide_eq_true h.1

/-- the records that stand one behind the other from b's beginning. -/
def scanR (b : ByteArray) : List Rec := if _h : firstR b = true then headR b :: scanR (restR b) else []
termination_by b.size
decreasing_by have := firstR_whole _h; rw [restR_size]; omega

/-- how many bytes they have. -/
def scanN (b : ByteArray) : Nat := if _h : firstR b = true then 12 + bodyN b + scanN (restR b) else 0
termination_by b.size
decreasing_by have := firstR_whole _h; rw [restR_size]; omega

theorem scanR_yes {b : ByteArray} (h : firstR b = true) : scanR b = headR b :: scanR (restR b) := by rw [scanR, dif_pos h]
theorem scanR_no {b : ByteArray} (h : firstR b = false) : scanR b = [] := by rw [scanR, dif_neg (by simp [h])]
theorem scanN_yes {b : ByteArray} (h : firstR b = true) : scanN b = 12 + bodyN b + scanN (restR b) := by rw [scanN, dif_pos h]
theorem scanN_no {b : ByteArray} (h : firstR b = false) : scanN b = 0 := by rw [scanN, dif_neg (by simp [h])]

/-- the cells of a row of records. -/
def recCells (l : List Rec) : List Value := l.flatMap fun r => [.int .i64 (r.time : Int), .int .i64 (r.kind : Int), .int .i64 (r.peer : Int), .string r.body]

theorem recCells_length (l : List Rec) : (recCells l).length = l.length * 4 := by
  induction l with
  | nil => rfl
  | cons a l ih => simp only [recCells, List.flatMap_cons, List.length_append, List.length_cons, List.length_nil] at *; omega
theorem recCells_app (l m : List Rec) : recCells (l ++ m) = recCells l ++ recCells m := by simp [recCells]
theorem recCells_get : ∀ (l : List Rec) (j : Nat) (h : j < l.length), (recCells l)[j * 4]? = some (.int .i64 (l[j].time : Int)) ∧ (recCells l)[j * 4 + 1]? = some (.int .i64 (l[j].kind : Int)) ∧ (recCells l)[j * 4 + 2]? = some (.int .i64 (l[j].peer : Int)) ∧ (recCells l)[j * 4 + 3]? = some (.string l[j].body) := by
  intro l; induction l with
  | nil => intro j h; simp at h
  | cons a l ih =>
    intro j h
    cases j with
    | zero => simp [recCells]
    | succ j =>
      have := ih j (by simpa using h)
      have e : recCells (a :: l) = .int .i64 (a.time : Int) :: .int .i64 (a.kind : Int) :: .int .i64 (a.peer : Int) :: .string a.body :: recCells l := rfl
      rw [e, show (j + 1) * 4 = j * 4 + 1 + 1 + 1 + 1 from by omega, show j * 4 + 1 + 1 + 1 + 1 + 1 = j * 4 + 1 + 1 + 1 + 1 + 1 from rfl, show j * 4 + 1 + 1 + 1 + 1 + 2 = j * 4 + 2 + 1 + 1 + 1 + 1 from by omega, show j * 4 + 1 + 1 + 1 + 1 + 3 = j * 4 + 3 + 1 + 1 + 1 + 1 from by omega]
      simpa using this

/-- what has been scanned of b: xs, n bytes; s is left. -/
def ScanMid (b : ByteArray) (xs : List Rec) (n : Nat) (s : ByteArray) : Prop := scanR b = xs ++ scanR s ∧ scanN b = n + scanN s ∧ s = b.extract n b.size ∧ n ≤ b.size ∧ xs.length * 12 ≤ n

theorem scanMid_start (b : ByteArray) : ScanMid b [] 0 b := ⟨by simp, by simp, by simp, Nat.zero_le _, by simp⟩

theorem scanMid_step {b s : ByteArray} {xs : List Rec} {n : Nat} (h : ScanMid b xs n s) (hf : firstR s = true) : ScanMid b (xs ++ [headR s]) (n + (12 + bodyN s)) (restR s) := by
  obtain ⟨h1, h2, h3, h4, h5⟩ := h
  have hw := firstR_whole hf
  have hs : s.size = b.size - n := by rw [h3, ByteArray.size_extract]; omega
  refine ⟨?_, ?_, ?_, by omega, by simp; omega⟩
  · rw [h1, scanR_yes hf, List.append_assoc]; rfl
  · rw [h2, scanN_yes hf]; omega
  · have e : ∀ m, s.extract m s.size = b.extract (n + m) b.size := by
      intro m
      rw [hs, h3, ByteArray.extract_extract]
      congr 1
      omega
    exact e _

theorem scanMid_end {b s : ByteArray} {xs : List Rec} {n : Nat} (h : ScanMid b xs n s) (hf : firstR s = false) : scanR b = xs ∧ scanN b = n := by
  obtain ⟨h1, h2, _⟩ := h
  rw [h1, h2, scanR_no hf, scanN_no hf]
  exact ⟨by simp, by simp⟩

end Go.Proofs.Yteoacdkgicfomaa
/-
  Records as bytes: what is written is found, and what is found was written so.
-/
namespace Go.Proofs.Yteoacdkgicfomaa
open Go.RowKit
open Rl

/-- a record's bytes ahead of its sum, and whole. -/
def recHd (r : Rec) : List UInt8 := be 4 r.time ++ (be 1 r.kind ++ (be 1 r.peer ++ (be 2 r.body.size ++ r.body.data.toList)))
def recB (r : Rec) : List UInt8 := recHd r ++ be 4 (crc (recHd r))

theorem recHd_length (r : Rec) : (recHd r).length = 8 + r.body.size := by
  unfold recHd; simp [be_length]; omega
theorem recB_length (r : Rec) : (recB r).length = 12 + r.body.size := by
  unfold recB; rw [List.length_append, recHd_length, be_length]; omega

/-- a record that may be. -/
def RecFine (r : Rec) : Prop := r.time < 4294967296 ∧ r.kind < 256 ∧ r.peer < 256 ∧ r.body.size < 65536 ∧ recOk r.kind r.peer r.body = true

theorem num_be4 (n : Nat) (h : n < 4294967296) : num (be 4 n) = (n : Int) := by
  have e : (256 : Nat) ^ 4 = 4294967296 := by decide
  rw [num_be, e, Nat.mod_eq_of_lt h]

theorem num_be2 (n : Nat) (h : n < 65536) : num (be 2 n) = (n : Int) := by
  have e : (256 : Nat) ^ 2 = 65536 := by decide
  rw [num_be, e, Nat.mod_eq_of_lt h]

theorem rec_parts (r : Rec) (q : List UInt8) (hr : r.time < 4294967296 ∧ r.kind < 256 ∧ r.peer < 256 ∧ r.body.size < 65536) :
    bodyN (txt (recHd r ++ q)) = r.body.size ∧ headR (txt (recHd r ++ q)) = r := by
  obtain ⟨h1, h2, h3, h4⟩ := hr
  have hn : bodyN (txt (recHd r ++ q)) = r.body.size := by
    have hc := bodyN_cast (txt (recHd r ++ q))
    generalize bodyN (txt (recHd r ++ q)) = y at *
    have e : recHd r ++ q = (be 4 r.time ++ (be 1 r.kind ++ be 1 r.peer)) ++ (be 2 r.body.size ++ (r.body.data.toList ++ q)) := by unfold recHd; simp only [List.append_assoc]
    rw [txt_extract, txt_data, e, List.drop_left' (by simp [be_length]), List.take_append_of_le_length (by rw [be_length]; omega), List.take_of_length_le (by rw [be_length]; omega), num_be2 _ h4] at hc
    exact Int.ofNat.inj hc
  refine ⟨hn, ?_⟩
  unfold headR
  rw [hn]
  have ht : recTime (txt (recHd r ++ q)) = r.time := by
    have hc := recTime_cast (txt (recHd r ++ q))
    generalize recTime (txt (recHd r ++ q)) = y at *
    have e : recHd r ++ q = be 4 r.time ++ ((be 1 r.kind ++ (be 1 r.peer ++ (be 2 r.body.size ++ r.body.data.toList))) ++ q) := by unfold recHd; simp only [List.append_assoc]
    rw [txt_extract, txt_data, e, List.drop_zero, List.take_append_of_le_length (by rw [be_length]; omega), List.take_of_length_le (by rw [be_length]; omega), num_be4 _ h1] at hc
    exact Int.ofNat.inj hc
  have hk : at8 (txt (recHd r ++ q)).data.toList 4 = r.kind := by
    have e : recHd r ++ q = be 4 r.time ++ (UInt8.ofNat (r.kind / 256 ^ 0 % 256) :: (be 1 r.peer ++ (be 2 r.body.size ++ (r.body.data.toList ++ q)))) := by unfold recHd; simp only [List.append_assoc]; rfl
    unfold at8
    rw [txt_data, e, List.getD_eq_getElem?_getD, List.getElem?_append_right (by rw [be_length]; omega), be_length]
    exact ofNat_lt _ h2
  have hp : at8 (txt (recHd r ++ q)).data.toList 5 = r.peer := by
    have e : recHd r ++ q = (be 4 r.time ++ be 1 r.kind) ++ (UInt8.ofNat (r.peer / 256 ^ 0 % 256) :: (be 2 r.body.size ++ (r.body.data.toList ++ q))) := by unfold recHd; simp only [List.append_assoc]; rfl
    unfold at8
    rw [txt_data, e, List.getD_eq_getElem?_getD, List.getElem?_append_right (by simp [be_length]), List.length_append, be_length, be_length]
    exact ofNat_lt _ h3
  have hb : (txt (recHd r ++ q)).extract 8 (8 + r.body.size) = r.body := by
    have e : recHd r ++ q = (be 4 r.time ++ (be 1 r.kind ++ (be 1 r.peer ++ be 2 r.body.size))) ++ (r.body.data.toList ++ q) := by unfold recHd; simp only [List.append_assoc]
    symm
    rw [txt_extract]
    apply txt_ext
    rw [e, List.drop_left' (by simp [be_length]), List.take_append_of_le_length (by rw [len_data]; omega), List.take_of_length_le (by rw [len_data]; omega)]
  rw [ht, hk, hp, hb]

theorem rec_sum (r : Rec) (c : List UInt8) (q : List UInt8) (hc : c.length = 4) (hr : r.time < 4294967296 ∧ r.kind < 256 ∧ r.peer < 256 ∧ r.body.size < 65536) :
    wholeR (txt (recHd r ++ (c ++ q))) = true ∧ sumR (txt (recHd r ++ (c ++ q))) = decide (num c = (crc (recHd r) : Int)) := by
  obtain ⟨hn, _⟩ := rec_parts r (c ++ q) hr
  have hl := recHd_length r
  constructor
  · unfold wholeR
    rw [hn, txt_len, List.length_append, List.length_append, hl, hc, decide_eq_true_iff]
    omega
  · unfold sumR
    rw [hn, txt_extract, txt_data, txt_extract, txt_data, List.drop_left' (by rw [hl]), List.take_append_of_le_length (by omega), List.take_of_length_le (by omega), List.drop_zero, List.take_append_of_le_length (by omega), List.take_of_length_le (by omega)]

theorem recB_app (r : Rec) (q : List UInt8) : recB r ++ q = recHd r ++ (be 4 (crc (recHd r)) ++ q) := by unfold recB; rw [List.append_assoc]

theorem rec_bodyN (r : Rec) (q : List UInt8) (h : RecFine r) : bodyN (txt (recB r ++ q)) = r.body.size := by
  rw [recB_app]; exact (rec_parts r _ ⟨h.1, h.2.1, h.2.2.1, h.2.2.2.1⟩).1

theorem rec_head (r : Rec) (q : List UInt8) (h : RecFine r) : headR (txt (recB r ++ q)) = r := by
  rw [recB_app]; exact (rec_parts r _ ⟨h.1, h.2.1, h.2.2.1, h.2.2.2.1⟩).2

theorem rec_sumOk (r : Rec) (q : List UInt8) (h : RecFine r) : wholeR (txt (recB r ++ q)) = true ∧ sumR (txt (recB r ++ q)) = true := by
  obtain ⟨h1, h2⟩ := rec_sum r (be 4 (crc (recHd r))) q (be_length _ _) ⟨h.1, h.2.1, h.2.2.1, h.2.2.2.1⟩
  rw [recB_app]
  refine ⟨h1, ?_⟩
  rw [h2, decide_eq_true_iff]
  exact num_be4 _ (crc_lt _)

theorem rec_rest (r : Rec) (q : List UInt8) (h : RecFine r) : restR (txt (recB r ++ q)) = txt q := by
  unfold restR
  rw [rec_bodyN r q h, txt_extract, txt_len]
  congr 1
  rw [List.drop_left' (recB_length r), List.take_of_length_le]
  rw [List.length_append, recB_length]; omega

theorem rec_first (r : Rec) (q : List UInt8) (h : RecFine r) : firstR (txt (recB r ++ q)) = true ∧ headR (txt (recB r ++ q)) = r ∧ bodyN (txt (recB r ++ q)) = r.body.size ∧ restR (txt (recB r ++ q)) = txt q := by
  refine ⟨?_, rec_head r q h, rec_bodyN r q h, rec_rest r q h⟩
  obtain ⟨hw, hs⟩ := rec_sumOk r q h
  unfold firstR
  rw [hw, hs, rec_head r q h, h.2.2.2.2]
  rfl

/-- records that are written one behind the other are found, and what stands behind them. -/
theorem scan_written (l : List Rec) (q : List UInt8) (h : ∀ r ∈ l, RecFine r) : scanR (txt (l.flatMap recB ++ q)) = l ++ scanR (txt q) ∧ scanN (txt (l.flatMap recB ++ q)) = (l.flatMap recB).length + scanN (txt q) := by
  induction l with
  | nil => simp
  | cons r l ih =>
    obtain ⟨i1, i2⟩ := ih fun x hx => h x (List.mem_cons_of_mem _ hx)
    obtain ⟨f1, f2, f3, f4⟩ := rec_first r (l.flatMap recB ++ q) (h r List.mem_cons_self)
    have e : (r :: l).flatMap recB ++ q = recB r ++ (l.flatMap recB ++ q) := by simp
    have e2 : ((r :: l).flatMap recB).length = (12 + r.body.size) + (l.flatMap recB).length := by rw [List.flatMap_cons, List.length_append, recB_length]
    rw [e, scanR_yes f1, scanN_yes f1, f2, f3, f4, i1, i2, e2]
    exact ⟨rfl, by omega⟩

theorem be_of_num (l : List UInt8) : be l.length (num l).toNat = l := by
  induction l with
  | nil => rfl
  | cons c l ih =>
    have h1 := num_app l [c]
    have h0 := num_nonneg l
    have hlt := num_lt l.length l (Nat.le_refl _)
    obtain ⟨m, hm⟩ : ∃ m : Nat, num l = (m : Int) := ⟨_, (Int.toNat_of_nonneg h0).symm⟩
    rw [hm] at hlt h1 ih
    have hlt' : m < 256 ^ l.length := by
      have e : (256 : Int) ^ l.length = ((256 ^ l.length : Nat) : Int) := (pow_cast _).symm
      rw [e] at hlt; exact Int.ofNat_lt.1 hlt
    have hc : num [c] = (c.toNat : Int) := by simp [num]
    have e1 : num (c :: l) = ((c.toNat * 256 ^ l.length + m : Nat) : Int) := by
      have : c :: l = [c] ++ l := rfl
      rw [this, h1, hc, Int.natCast_add, Int.natCast_mul, pow_cast]
    have hp : 0 < 256 ^ l.length := Nat.pow_pos (by omega)
    have hcl := c.toNat_lt
    rw [e1]
    show UInt8.ofNat ((c.toNat * 256 ^ l.length + m) / 256 ^ l.length % 256) :: be l.length (c.toNat * 256 ^ l.length + m) = c :: l
    have q1 : (c.toNat * 256 ^ l.length + m) / 256 ^ l.length = c.toNat := by
      rw [Nat.add_comm, Nat.add_mul_div_right _ _ hp, Nat.div_eq_of_lt hlt', Nat.zero_add]
    have q2 : ∀ k x y, be k (x * 256 ^ k + y) = be k y := by
      intro k; induction k with
      | zero => intro x y; rfl
      | succ k ihk =>
        intro x y
        have e : x * 256 ^ (k + 1) + y = (x * 256) * 256 ^ k + y := by rw [Nat.pow_succ, Nat.mul_comm (256 ^ k), ← Nat.mul_assoc]
        show UInt8.ofNat ((x * 256 ^ (k + 1) + y) / 256 ^ k % 256) :: be k (x * 256 ^ (k + 1) + y) = UInt8.ofNat (y / 256 ^ k % 256) :: be k y
        rw [e, ihk, Nat.add_comm, Nat.add_mul_div_right _ _ (Nat.pow_pos (by omega))]
        congr 2
        omega
    rw [q1, q2]
    have ih' : be l.length m = l := by simpa using ih
    rw [ih', Nat.mod_eq_of_lt (by omega)]
    congr 1
    apply UInt8.toNat.inj
    rw [UInt8.toNat_ofNat']; omega

end Go.Proofs.Yteoacdkgicfomaa
/-
  What is found was written so; and a record with one byte changed, but for its length, is none.
-/
namespace Go.Proofs.Yteoacdkgicfomaa
open Go.RowKit
open Rl

theorem num_same {a b : List UInt8} (hl : a.length = b.length) (h : num a = num b) : a = b := by
  rw [← be_of_num a, ← be_of_num b, hl, h]

theorem take_more (l : List UInt8) (a b : Nat) : l.take (a + b) = l.take a ++ (l.drop a).take b := by rw [List.take_add]

theorem byte_one (l : List UInt8) (i : Nat) (h : i < l.length) : be 1 (at8 l i) = (l.drop i).take 1 := by
  have e : at8 l i = l[i].toNat := by unfold at8; rw [List.getD_eq_getElem?_getD, List.getElem?_eq_getElem h]; rfl
  rw [List.drop_eq_getElem_cons h, e]
  show [UInt8.ofNat (l[i].toNat / 256 ^ 0 % 256)] = _
  simp only [List.take_succ_cons, List.take_zero]
  congr 1
  apply UInt8.toNat.inj
  rw [UInt8.toNat_ofNat']
  have := l[i].toNat_lt
  simp

theorem ext_list (b : ByteArray) (i j : Nat) : (b.extract i j).data.toList = (b.data.toList.drop i).take (j - i) := Lib.extract_data b i j

theorem be_ext (l : List UInt8) (i k : Nat) (h : i + k ≤ l.length) : be k (num ((l.drop i).take k)).toNat = (l.drop i).take k := by
  have hl : ((l.drop i).take k).length = k := by rw [List.length_take, List.length_drop]; omega
  have := be_of_num ((l.drop i).take k)
  rwa [hl] at this

theorem head_bytes (b : ByteArray) (h : 8 ≤ b.size) : be 4 (recTime b) ++ (be 1 (at8 b.data.toList 4) ++ (be 1 (at8 b.data.toList 5) ++ be 2 (bodyN b))) = b.data.toList.take 8 := by
  have hL := len_data b
  have p0 : be 4 (recTime b) = b.data.toList.take 4 := by
    unfold recTime; rw [ext_list, List.drop_zero]
    have := be_ext b.data.toList 0 4 (by omega)
    rwa [List.drop_zero] at this
  have p1 := byte_one b.data.toList 4 (by omega)
  have p2 := byte_one b.data.toList 5 (by omega)
  have p3 : be 2 (bodyN b) = (b.data.toList.drop 6).take 2 := by unfold bodyN; rw [ext_list]; exact be_ext b.data.toList 6 2 (by omega)
  have e8 : b.data.toList.take 8 = b.data.toList.take 6 ++ (b.data.toList.drop 6).take 2 := take_more _ 6 2
  have e6 : b.data.toList.take 6 = b.data.toList.take 5 ++ (b.data.toList.drop 5).take 1 := take_more _ 5 1
  have e5 : b.data.toList.take 5 = b.data.toList.take 4 ++ (b.data.toList.drop 4).take 1 := take_more _ 4 1
  rw [p0, p1, p2, p3, e8, e6, e5, List.append_assoc, List.append_assoc]

theorem firstR_parts {b : ByteArray} (h : firstR b = true) : sumR b = true ∧ recOk (headR b).kind (headR b).peer (headR b).body = true := by
  unfold firstR at h
  rw [Bool.and_eq_true, Bool.and_eq_true] at h
  exact h.2

theorem head_body (b : ByteArray) (h : 12 + bodyN b ≤ b.size) : (headR b).body.size = bodyN b ∧ (headR b).body.data.toList = (b.data.toList.drop 8).take (bodyN b) := by
  have e : (headR b).body = b.extract 8 (8 + bodyN b) := rfl
  rw [e]
  constructor
  · rw [ByteArray.size_extract]; omega
  · rw [ext_list, Nat.add_sub_cancel_left]

theorem head_hd (b : ByteArray) (h8 : 8 ≤ b.size) (h : 12 + bodyN b ≤ b.size) : recHd (headR b) = b.data.toList.take (8 + bodyN b) := by
  obtain ⟨h1, h2⟩ := head_body b h
  have e : recHd (headR b) = (be 4 (recTime b) ++ (be 1 (at8 b.data.toList 4) ++ (be 1 (at8 b.data.toList 5) ++ be 2 (bodyN b)))) ++ (headR b).body.data.toList := by
    unfold recHd; rw [h1]; simp only [List.append_assoc]; rfl
  rw [e, head_bytes b h8, h2, take_more]

theorem first_fine {b : ByteArray} (h : firstR b = true) : RecFine (headR b) := by
  have hw := firstR_whole h
  have hN := bodyN_lt b
  exact ⟨recTime_lt b, at8_lt _ _, at8_lt _ _, by rw [(head_body b hw.2).1]; omega, (firstR_parts h).2⟩

theorem first_found {b : ByteArray} (h : firstR b = true) : RecFine (headR b) ∧ b.data.toList.take (12 + bodyN b) = recB (headR b) := by
  refine ⟨first_fine h, ?_⟩
  obtain ⟨w1, w2⟩ := firstR_whole h
  have hL := len_data b
  have hsum : num ((b.extract (8 + bodyN b) (12 + bodyN b)).data.toList) = (crc ((b.extract 0 (8 + bodyN b)).data.toList) : Int) := of_decide_eq_true (firstR_parts h).1
  have hd := head_hd b w1 w2
  have h4 := be_ext b.data.toList (8 + bodyN b) 4 (by omega)
  have e0 : (b.extract 0 (8 + bodyN b)).data.toList = recHd (headR b) := by rw [ext_list, List.drop_zero, Nat.sub_zero, hd]
  rw [e0] at hsum
  have e1 : recB (headR b) = recHd (headR b) ++ be 4 (crc (recHd (headR b))) := rfl
  rw [e1]
  generalize crc (recHd (headR b)) = y at *
  rw [ext_list, show 12 + bodyN b - (8 + bodyN b) = 4 by omega] at hsum
  rw [hsum, Int.toNat_natCast] at h4
  rw [hd, h4, show 12 + bodyN b = (8 + bodyN b) + 4 by omega, take_more]

theorem mem_fine {a : Rec} {l : List Rec} (ha : RecFine a) (hl : ∀ r ∈ l, RecFine r) : ∀ r ∈ a :: l, RecFine r := by
  intro r hr
  rw [List.mem_cons] at hr
  rcases hr with e | hr
  · rw [e]; exact ha
  · exact hl r hr

theorem scan_found : ∀ (n : Nat) (b : ByteArray), b.size ≤ n → (scanR b).flatMap recB = b.data.toList.take (scanN b) ∧ (∀ r ∈ scanR b, RecFine r) ∧ scanN b ≤ b.size := by
  intro n; induction n with
  | zero =>
    intro b hb
    have hf : firstR b = false := by
      cases h : firstR b with
      | false => rfl
      | true => have := firstR_whole h; omega
    rw [scanR_no hf, scanN_no hf]; simp
  | succ n ih =>
    intro b hb
    cases h : firstR b with
    | false => rw [scanR_no h, scanN_no h]; simp
    | true =>
      obtain ⟨hfine, hbytes⟩ := first_found h
      have hw := firstR_whole h
      have hrs := restR_size b
      obtain ⟨i1, i2, i3⟩ := ih (restR b) (by omega)
      rw [scanR_yes h, scanN_yes h]
      refine ⟨?_, mem_fine hfine i2, by omega⟩
      · have e : (restR b).data.toList.take (scanN (restR b)) = (b.data.toList.drop (12 + bodyN b)).take (scanN (restR b)) := by
          generalize scanN (restR b) = m at *
          unfold restR
          rw [ext_list, List.take_take, Nat.min_eq_left (by omega)]
        rw [List.flatMap_cons, i1, ← hbytes, take_more _ (12 + bodyN b) (scanN (restR b)), e]

/-- one byte changed, but for the length's. -/
theorem rec_changed (r : Rec) (hf : RecFine r) (p q : List UInt8) (c d : UInt8) (hr : recB r = p ++ d :: q) (hc : c ≠ d) (hi : p.length ≠ 6 ∧ p.length ≠ 7) : firstR (txt (p ++ c :: q)) = false := by
  have hL := recB_length r
  have hlen : (p ++ c :: q).length = 12 + r.body.size := by rw [← hL, hr]; simp
  have hlen2 : p.length + 1 + q.length = 12 + r.body.size := by simp at hlen; omega
  have h68 : ((p ++ c :: q).drop 6).take 2 = ((p ++ d :: q).drop 6).take 2 := by
    by_cases h : p.length < 6
    · have e : ∀ x : UInt8, (p ++ x :: q).drop 6 = q.drop (6 - p.length - 1) := by
        intro x
        rw [List.drop_append, List.drop_of_length_le (by omega), List.nil_append, show 6 - p.length = (6 - p.length - 1) + 1 by omega, List.drop_succ_cons]
        rfl
      rw [e, e]
    · have e : ∀ x : UInt8, ((p ++ x :: q).drop 6).take 2 = (p.drop 6).take 2 := by
        intro x
        rw [List.drop_append_of_le_length (by omega), List.take_append_of_le_length (by rw [List.length_drop]; omega)]
      rw [e, e]
  have hn : bodyN (txt (p ++ c :: q)) = r.body.size := by
    have h1 := rec_bodyN r [] hf
    rw [List.append_nil, hr] at h1
    rw [← h1]
    unfold bodyN
    rw [txt_extract, txt_data, txt_extract, txt_data, h68]
  have hs : sumR (txt (p ++ c :: q)) = false := by
    unfold sumR
    rw [hn, txt_extract, txt_data, txt_extract, txt_data, List.drop_zero, Nat.sub_zero, show 12 + r.body.size - (8 + r.body.size) = 4 by omega, decide_eq_false_iff_not]
    have hhd := recHd_length r
    have t1 : (p ++ d :: q).take (8 + r.body.size) = recHd r := by rw [← hr]; unfold recB; rw [List.take_append_of_le_length (by omega), List.take_of_length_le (by omega)]
    have t2 : ((p ++ d :: q).drop (8 + r.body.size)) = be 4 (crc (recHd r)) := by rw [← hr]; unfold recB; rw [List.drop_left' hhd]
    by_cases h : p.length < 8 + r.body.size
    · have e1 : ∀ x : UInt8, (p ++ x :: q).take (8 + r.body.size) = p ++ x :: q.take (8 + r.body.size - p.length - 1) := by
        intro x
        rw [List.take_append, List.take_of_length_le (by omega), show 8 + r.body.size - p.length = (8 + r.body.size - p.length - 1) + 1 by omega, List.take_succ_cons]
        rfl
      have e2 : ∀ x : UInt8, (p ++ x :: q).drop (8 + r.body.size) = q.drop (8 + r.body.size - p.length - 1) := by
        intro x
        rw [List.drop_append, List.drop_of_length_le (by omega), List.nil_append, show 8 + r.body.size - p.length = (8 + r.body.size - p.length - 1) + 1 by omega, List.drop_succ_cons]
        rfl
      have e3 : (p ++ c :: q).drop (8 + r.body.size) = be 4 (crc (recHd r)) := by rw [e2, ← e2 d, t2]
      rw [e3, List.take_of_length_le (by rw [be_length]; omega), num_be4 _ (crc_lt _), e1]
      have e4 : recHd r = p ++ d :: q.take (8 + r.body.size - p.length - 1) := by rw [← t1, e1]
      rw [e4]
      intro he
      exact crc_changed _ _ _ _ hc (Int.ofNat.inj he).symm
    · have e1 : ∀ x : UInt8, (p ++ x :: q).take (8 + r.body.size) = p.take (8 + r.body.size) := fun x => by rw [List.take_append_of_le_length (by omega)]
      rw [e1, ← e1 d, t1, ← num_be4 _ (crc_lt (recHd r)), ← t2]
      intro he
      have hsz : ∀ x : UInt8, ((p ++ x :: q).drop (8 + r.body.size)).length = 4 := by intro x; rw [List.length_drop]; simp; omega
      rw [List.take_of_length_le (by rw [hsz]; omega)] at he
      have h2 := num_same (by rw [hsz, hsz]) he
      have e3 : ∀ x : UInt8, (p ++ x :: q).drop (8 + r.body.size) = p.drop (8 + r.body.size) ++ x :: q := fun x => by rw [List.drop_append_of_le_length (by omega)]
      rw [e3, e3] at h2
      have h3 := List.append_cancel_left h2
      injection h3 with h4
      exact hc h4
  unfold firstR
  rw [hs]
  simp

end Go.Proofs.Yteoacdkgicfomaa
/-
  What Scan finds of what it found, and a record behind that; or none.
-/
namespace Go.Proofs.Yteoacdkgicfomaa
open Go.RowKit
open Rl

theorem firstR_small {b : ByteArray} (h : b.size < 8) : firstR b = false := by
  cases hf : firstR b with
  | false => rfl
  | true => have := firstR_whole hf; omega

theorem scan_len (b : ByteArray) : ((scanR b).flatMap recB).length = scanN b := by
  obtain ⟨h1, _, h3⟩ := scan_found b.size b (Nat.le_refl _)
  rw [h1, List.length_take, len_data]; omega

/-- a right record behind what was found is found too. -/
theorem scan_behind (b : ByteArray) (x : Rec) (hx : RecFine x) : scanR (txt (b.data.toList.take (scanN b) ++ (recB x ++ [0]))) = scanR b ++ [x] ∧ scanN (txt (b.data.toList.take (scanN b) ++ (recB x ++ [0]))) = scanN b + (12 + x.body.size) := by
  obtain ⟨h1, h2, _⟩ := scan_found b.size b (Nat.le_refl _)
  have hl := scan_len b
  obtain ⟨i1, i2⟩ := scan_written (scanR b) (recB x ++ [0]) h2
  obtain ⟨f1, f2, f3, f4⟩ := rec_first x [0] hx
  have hz : firstR (txt [0]) = false := firstR_small (by rw [txt_len]; simp)
  rw [h1] at i1 i2 hl
  rw [i1, i2, hl, scanR_yes f1, scanN_yes f1, f2, f3, f4, scanR_no hz, scanN_no hz]
  exact ⟨rfl, rfl⟩

/-- what is no record behind it ends it. -/
theorem scan_stops (b : ByteArray) (y : List UInt8) (hy : firstR (txt y) = false) : scanR (txt (b.data.toList.take (scanN b) ++ y)) = scanR b ∧ scanN (txt (b.data.toList.take (scanN b) ++ y)) = scanN b := by
  obtain ⟨h1, h2, _⟩ := scan_found b.size b (Nat.le_refl _)
  have hl := scan_len b
  obtain ⟨i1, i2⟩ := scan_written (scanR b) y h2
  rw [h1] at i1 i2 hl
  rw [i1, i2, hl, scanR_no hy, scanN_no hy]
  exact ⟨by simp, by simp⟩

end Go.Proofs.Yteoacdkgicfomaa
/-
  Records: which are right, walked: ReadRoute, IsRoute, isRecord; the document's entry and isRecord.
-/
namespace Go.Proofs.Yteoacdkgicfomaa
open Go.RowKit
open Rl


theorem below_on {w wx w2 : World} (h : Below w.heap.size w wx) (hb : Below wx.heap.size wx w2) : Below w.heap.size w w2 := later_below h hb h.size
theorem below_new (w : World) (o : Obj) : Below w.heap.size w (w.alloc o) := (Below.refl _ _).alloc (Nat.le_refl _) _

theorem rowAt_pfx (w : World) (a n : Int) (T : TypeId) : RowAt (w.alloc (.cells #[.int .i64 a, .int .i64 n] T)) (.slice (some ⟨w.heap.size, 0, none⟩) 1 1) [(a, n)].length 2 (pfCells [(a, n)]) := by
  refine ⟨rfl, .inr ⟨w.heap.size, 0, 1, rfl, by simp, by simp, ?_⟩⟩
  intro j u hu
  have h := cells_new w #[.int .i64 a, .int .i64 n] T j u (by simpa [pfCells] using hu)
  rw [add_head] at h
  rw [Nat.zero_add]; exact h

set_option maxRecDepth 20000 in
set_option maxHeartbeats 4000000 in
theorem isRoute_any (a n : Int) (s : ByteArray) (w : World) (hs : s.size ≤ 1048576) :
    Calls Try.prog 111 #[.agg #[.int .i64 a, .int .i64 n, .string s]] w fun e w' => e = .returned (.bool (canB s && pfxOk a n)) ∧ Below w.heap.size w w' := by
  have hc := fun w => readCanonical_any s w hs
  have hp := fun v w h => arePrefixes_any v [(a, n)] w (by simp) h
  have hpf : pfAll [(a, n)] = pfxOk a n := by simp [pfAll]
  rw [hpf] at hp
  clear hpf
  cases hb : canB s with
  | false =>
    rw [hb] at hc
    go_enter Try.func111, Try.ntmps111
    go_wp2_with fail
    refine (hc _).mono ?_
    rintro e w1 ⟨v, rfl, hb1, _⟩
    go_wp2
    go_ret
    exact ⟨rfl, below_on (below_new _ _) hb1⟩
  | true =>
    rw [hb] at hc
    go_enter Try.func111, Try.ntmps111
    go_wp2_with fail
    refine (hc _).mono ?_
    rintro e w1 ⟨v, rfl, hb1, _⟩
    obtain ⟨q0, q1, q2, _, _, _, ql⟩ := (box3_new w (.int .i64 a) (.int .i64 n) (.string s) 117).later hb1
    go_wp2_with fail
    refine (hp _ _ (rowAt_pfx _ _ _ _)).mono ?_
    rintro e w2 ⟨rfl, hb2⟩
    go_wp2
    go_ret
    exact ⟨by simp, below_on (below_on (below_on (below_new _ _) hb1) (below_new _ _)) hb2⟩

theorem two_boxes (w : World) (a b c a' b' c' : Value) (T T' : TypeId) : Box3 ((w.alloc (.cells #[a, b, c] T)).alloc (.cells #[a', b', c'] T')).drew w.heap.size a b c ∧ Box3 ((w.alloc (.cells #[a, b, c] T)).alloc (.cells #[a', b', c'] T')).drew (w.heap.size + 1) a' b' c' ∧ Below w.heap.size w ((w.alloc (.cells #[a, b, c] T)).alloc (.cells #[a', b', c'] T')).drew := by
  have h1 := box3_new w a b c T
  have h2 := box3_new (w.alloc (.cells #[a, b, c] T)) a' b' c' T'
  have hs : (w.alloc (.cells #[a, b, c] T)).heap.size = w.heap.size + 1 := by simp
  rw [hs] at h2
  exact ⟨(h1.later (below_new _ _)).later (Below.refl _ _).drew, h2.later (Below.refl _ _).drew, (below_on (below_new _ _) (below_new _ _)).drew⟩

/-- what ReadRoute hands back. -/
def rtOf (b : ByteArray) : Value := if rtOk b = true then .agg #[.int .i64 (rtAddr b : Int), .int .i64 (rtLen b : Int), .string (rtText b)] else .agg #[.int .i64 0, .int .i64 0, .string ⟨#[]⟩]

set_option maxRecDepth 20000 in
set_option maxHeartbeats 4000000 in
theorem readRoute_any (b : ByteArray) (w : World) (hs : b.size ≤ 1048576) :
    Calls Try.prog 97 #[.string b] w fun e w' => e = .returned (.tuple #[rtOf b, .bool (rtOk b)]) ∧ Below w.heap.size w w' := by
  by_cases h5 : b.size < 5
  · have h0 : rtOk b = false := by unfold rtOk; rw [decide_eq_false (by omega)]; rfl
    have h1 : rtOf b = .agg #[.int .i64 0, .int .i64 0, .string ⟨#[]⟩] := by unfold rtOf; rw [if_neg (by simp [h0])]
    rw [h0, h1]
    have hlt : (b.size : Int) < 5 := by omega
    go_enter Try.func97, Try.ntmps97
    go_wp2
    exact bodyPost_ret (v := .tuple #[.agg #[.int .i64 0, .int .i64 0, .string ⟨#[]⟩], .bool false]) (by simp [results, Try.results97, go_sem]) rfl ⟨rfl, below_new _ _⟩
  · have hlt : ¬ (b.size : Int) < 5 := by omega
    have k5 : (5 : Int) ≤ (b.size : Int) := by omega
    have k1 : (1 : Int) ≤ (b.size : Int) := by omega
    have r1 := fun w => read_any (b.extract 1 5) w (by rw [ByteArray.size_extract]; omega)
    have r2 := fun w => read_any (b.extract 0 1) w (by rw [ByteArray.size_extract]; omega)
    rw [rtLen_one b (by omega)] at r2
    rw [← rtAddr_cast b] at r1
    have hr := fun w => isRoute_any (rtAddr b) (rtLen b) (rtText b) w (by unfold rtText; rw [ByteArray.size_extract]; omega)
    go_enter Try.func97, Try.ntmps97
    go_upto_region 3 with fail
    go_cut [4] (fun s4 wx => s4 = .pointer (some ⟨w.heap.size + 1, 0, none⟩) ∧ Box3 wx w.heap.size (.int .i64 0) (.int .i64 0) (.string ⟨#[]⟩) ∧ Box3 wx (w.heap.size + 1) (.int .i64 (rtAddr b)) (.int .i64 (rtLen b)) (.string (b.extract 5 b.size)) ∧ Below w.heap.size w wx)
    case first =>
      clear hr
      go_region_with (first | (go_at_call_of 52 (b.extract 1 5); refine (r1 _).mono ?_; rintro e w' ⟨rfl, hw⟩; rw [hw]; clear hw w') | (go_at_call_of 52 (b.extract 0 1); refine (r2 _).mono ?_; rintro e w' ⟨rfl, hw⟩; rw [hw]; clear hw w'))
      all_goals
        go_wp2_with fail
        go_meet
        case rel => exact ⟨rfl, two_boxes _ _ _ _ _ _ _ _ _⟩
    case rest =>
      obtain ⟨rfl, b1, b2, B⟩ := hcut
      clear r1 r2
      have hrt : b.extract 5 b.size = rtText b := rfl
      rw [hrt] at b2
      have hok : rtOk b = (canB (rtText b) && pfxOk (rtAddr b) (rtLen b)) := by unfold rtOk; rw [decide_eq_true (by omega), Bool.true_and]
      rw [← hok] at hr
      clear hrt hok
      have hf : rtOf b = if rtOk b = true then .agg #[.int .i64 (rtAddr b : Int), .int .i64 (rtLen b : Int), .string (rtText b)] else .agg #[.int .i64 0, .int .i64 0, .string ⟨#[]⟩] := rfl
      have HF := hide hf
      have b2' := b2
      obtain ⟨p0, p1, p2, _, _, _, pl⟩ := b2'
      clear hf
      cases ho : rtOk b with
      | false =>
        rw [ho] at hr
        have HF2 : Hid (Ending.returned (.tuple #[.agg #[.int .i64 0, .int .i64 0, .string ⟨#[]⟩], .bool false]) = Ending.returned (.tuple #[rtOf b, .bool (rtOk b)])) := by rw [HF.out, if_neg (by simp [ho]), ho]; rfl
        clear HF ho
        go_wp2_with fail
        refine (hr _).mono ?_
        rintro e w1 ⟨rfl, hb1⟩
        obtain ⟨q0, q1, q2, f0, f1, f2, ql⟩ := b1.later hb1
        have B1 := below_on B hb1
        clear p0 p1 p2
        go_wp2
        exact bodyPost_ret (v := .tuple #[.agg #[.int .i64 0, .int .i64 0, .string ⟨#[]⟩], .bool false]) (by simp [results, Try.results97, go_sem, q0, q1, q2]) rfl ⟨HF2.out, below_three B1 (Nat.le_refl _) _ _ _⟩
      | true =>
        rw [ho] at hr
        have HF2 : Hid (Ending.returned (.tuple #[.agg #[.int .i64 (rtAddr b : Int), .int .i64 (rtLen b : Int), .string (rtText b)], .bool true]) = Ending.returned (.tuple #[rtOf b, .bool (rtOk b)])) := by rw [HF.out, if_pos ho, ho]; rfl
        clear HF ho
        go_wp2_with fail
        refine (hr _).mono ?_
        rintro e w1 ⟨rfl, hb1⟩
        obtain ⟨q0, q1, q2, f0, f1, f2, ql⟩ := b1.later hb1
        obtain ⟨d0, d1, d2, _, _, _, dl⟩ := b2.later hb1
        have B1 := below_on B hb1
        clear p0 p1 p2
        go_wp2
        exact bodyPost_ret (v := .tuple #[.agg #[.int .i64 (rtAddr b : Int), .int .i64 (rtLen b : Int), .string (rtText b)], .bool true]) (by simp [results, Try.results97, go_sem, q0, q1, q2]) rfl ⟨HF2.out, below_three B1 (Nat.le_refl _) _ _ _⟩

end Go.Proofs.Yteoacdkgicfomaa
/-
  Which records may be, walked: record.isRecord and the document's.
-/
namespace Go.Proofs.Yteoacdkgicfomaa
open Go.RowKit
open Rl

/-- the two cells of a struct. -/
structure Box2 (w : World) (n : Nat) (a b : Value) : Prop where
  c0 : w.cell? ⟨n, 0, none⟩ = some a
  c1 : w.cell? ⟨n, 1, none⟩ = some b
  lt : n < w.heap.size

theorem Box2.later {w w' : World} {n : Nat} {a b : Value} (h : Box2 w n a b) (hb : Below w.heap.size w w') : Box2 w' n a b :=
  ⟨(hb.cell (p := ⟨n, 0, none⟩) h.lt).trans h.c0, (hb.cell (p := ⟨n, 1, none⟩) h.lt).trans h.c1, Nat.lt_of_lt_of_le h.lt hb.size⟩

/-- the four cells of a struct. -/
structure Box4 (w : World) (n : Nat) (a b c d : Value) : Prop where
  c0 : w.cell? ⟨n, 0, none⟩ = some a
  c1 : w.cell? ⟨n, 1, none⟩ = some b
  c2 : w.cell? ⟨n, 2, none⟩ = some c
  c3 : w.cell? ⟨n, 3, none⟩ = some d
  f0 : w.frozen? ⟨n, 0, none⟩ = false
  f1 : w.frozen? ⟨n, 1, none⟩ = false
  f2 : w.frozen? ⟨n, 2, none⟩ = false
  f3 : w.frozen? ⟨n, 3, none⟩ = false
  lt : n < w.heap.size

theorem box4_new (w : World) (a b c d : Value) (T : TypeId) : Box4 (w.alloc (.cells #[a, b, c, d] T)) w.heap.size a b c d :=
  ⟨by simp, by simp, by simp, by simp, by simp, by simp, by simp, by simp, by simp⟩

theorem Box4.later {w w' : World} {n : Nat} {a b c d : Value} (h : Box4 w n a b c d) (hb : Below w.heap.size w w') : Box4 w' n a b c d :=
  ⟨(hb.cell (p := ⟨n, 0, none⟩) h.lt).trans h.c0, (hb.cell (p := ⟨n, 1, none⟩) h.lt).trans h.c1, (hb.cell (p := ⟨n, 2, none⟩) h.lt).trans h.c2, (hb.cell (p := ⟨n, 3, none⟩) h.lt).trans h.c3, (hb.frozen (p := ⟨n, 0, none⟩) h.lt).trans h.f0, (hb.frozen (p := ⟨n, 1, none⟩) h.lt).trans h.f1, (hb.frozen (p := ⟨n, 2, none⟩) h.lt).trans h.f2, (hb.frozen (p := ⟨n, 3, none⟩) h.lt).trans h.f3, Nat.lt_of_lt_of_le h.lt hb.size⟩

theorem ret_bool' {a b : Bool} (h : a = b) : Ending.returned (.bool a) = .returned (.bool b) := by rw [h]

theorem recOk_peer (k p : Nat) (b : ByteArray) (h : 6 ≤ p) : recOk k p b = false := by unfold recOk; rw [if_pos h]
theorem recOk_msg (p : Nat) (b : ByteArray) (h : ¬ 6 ≤ p) : recOk 1 p b = decide ((upd b).err = 0) := by unfold recOk; rw [if_neg h, if_pos rfl]
theorem recOk_up (p : Nat) (b : ByteArray) (h : ¬ 6 ≤ p) : recOk 2 p b = decide (b.size = 0) := by unfold recOk; rw [if_neg h, if_neg (by omega), if_pos (by omega)]
theorem recOk_down (p : Nat) (b : ByteArray) (h : ¬ 6 ≤ p) : recOk 3 p b = decide (b.size = 0) := by unfold recOk; rw [if_neg h, if_neg (by omega), if_pos (by omega)]
theorem recOk_route (p : Nat) (b : ByteArray) (h : ¬ 6 ≤ p) : recOk 4 p b = rtOk b := by unfold recOk; rw [if_neg h, if_neg (by omega), if_neg (by omega), if_pos rfl]
theorem recOk_head (k p : Nat) (b : ByteArray) (h : ¬ 6 ≤ p) (hk : k = 5 ∨ k = 6) : recOk k p b = decide (p = 0 ∧ b.size = 0) := by unfold recOk; rw [if_neg h, if_neg (by omega), if_neg (by omega), if_neg (by omega), if_pos hk]
theorem recOk_none (k p : Nat) (b : ByteArray) (h : ¬ 6 ≤ p) (hk : k < 1 ∨ 6 < k) : recOk k p b = false := by unfold recOk; rw [if_neg h, if_neg (by omega), if_neg (by omega), if_neg (by omega), if_neg (by omega)]

/-- what the document's entry hands back. -/
def enOf (b : ByteArray) : Value := if b.size < 5 then .agg #[.int .i64 0, .int .i64 0, .string ⟨#[]⟩] else .agg #[.int .i64 (rtAddr b : Int), .int .i64 (rtLen b : Int), .string (rtText b)]

theorem boxes32 (w : World) (a b c a' b' : Value) (T T' : TypeId) : Box3 ((w.alloc (.cells #[a, b, c] T)).alloc (.cells #[a', b'] T')).drew w.heap.size a b c ∧ Box2 ((w.alloc (.cells #[a, b, c] T)).alloc (.cells #[a', b'] T')).drew (w.heap.size + 1) a' b' ∧ Below w.heap.size w ((w.alloc (.cells #[a, b, c] T)).alloc (.cells #[a', b'] T')).drew := by
  have h1 := box3_new w a b c T
  have h2 : Box2 ((w.alloc (.cells #[a, b, c] T)).alloc (.cells #[a', b'] T')) (w.heap.size + 1) a' b' := ⟨by simp, by simp, by simp⟩
  exact ⟨(h1.later (below_new _ _)).later (Below.refl _ _).drew, h2.later (Below.refl _ _).drew, (below_on (below_new _ _) (below_new _ _)).drew⟩

set_option maxRecDepth 20000 in
set_option maxHeartbeats 4000000 in
theorem entry_any (b : ByteArray) (w : World) (hs : b.size ≤ 1048576) :
    Calls Try.prog 90 #[.string b] w fun e w' => e = .returned (.tuple #[enOf b, .bool (rtOk b)]) ∧ Below w.heap.size w w' := by
  by_cases h5 : b.size < 5
  · have h0 : rtOk b = false := by unfold rtOk; rw [decide_eq_false (by omega)]; rfl
    have h1 : enOf b = .agg #[.int .i64 0, .int .i64 0, .string ⟨#[]⟩] := by unfold enOf; rw [if_pos h5]
    rw [h0, h1]
    have hlt : (b.size : Int) < 5 := by omega
    go_enter Try.func90, Try.ntmps90
    go_wp2
    exact bodyPost_ret (v := .tuple #[.agg #[.int .i64 0, .int .i64 0, .string ⟨#[]⟩], .bool false]) (by simp [results, Try.results90, go_sem]) rfl ⟨rfl, below_new _ _⟩
  · have hlt : ¬ (b.size : Int) < 5 := by omega
    have k5 : (5 : Int) ≤ (b.size : Int) := by omega
    have k0 : 0 < b.size := by omega
    have r1 := fun w => number_any (b.extract 1 5) w (by rw [ByteArray.size_extract]; omega)
    rw [← rtAddr_cast b] at r1
    have hl : (b[0].toNat : Int) = (rtLen b : Int) := at8_bytes b 0 k0
    have hc := fun w => canonical_any (rtText b) w (by unfold rtText; rw [ByteArray.size_extract]; omega)
    have hp := fun w => isPrefix_any (rtAddr b) (rtLen b) w
    have hok : rtOk b = (canB (rtText b) && pfxOk (rtAddr b) (rtLen b)) := by unfold rtOk; rw [decide_eq_true (by omega), Bool.true_and]
    have h1 : enOf b = .agg #[.int .i64 (rtAddr b : Int), .int .i64 (rtLen b : Int), .string (rtText b)] := by unfold enOf; rw [if_neg h5]
    rw [hok, h1]
    clear hok h1
    have HT : Hid (b.extract 5 b.size = rtText b) := rfl
    have HB : Hid ((rtLen b : Int) < 256) := by have := at8_lt b.data.toList 0; unfold rtLen Hid; omega
    generalize rtText b = T at *
    generalize rtAddr b = A at *
    generalize rtLen b = L at *
    generalize canB T = c at *
    generalize pfxOk A L = p at *
    cases c with
    | false =>
      go_enter Try.func90, Try.ntmps90
      go_upto_region 3 with fail
      go_cut [4] (fun s4 wx => s4 = .pointer (some ⟨w.heap.size + 1, 0, none⟩) ∧ Box3 wx w.heap.size (.int .i64 0) (.int .i64 0) (.string ⟨#[]⟩) ∧ Box2 wx (w.heap.size + 1) (.int .i64 A) (.int .i64 L) ∧ Below w.heap.size w wx)
      case first =>
        have hlb := HB.out
        have hwl : IntKind.i64.wrap (L : Int) = (L : Int) := by rw [IntKind.wrap_i64]; omega
        clear hc hp
        go_region_with (first | (go_at_call 34; refine (r1 _).mono ?_; rintro e w' ⟨rfl, hw⟩; rw [hw]; clear hw w'))
        all_goals
          go_wp2_with fail
          go_meet
          case rel => exact ⟨rfl, boxes32 _ _ _ _ _ _ _ _⟩
      case rest =>
        obtain ⟨rfl, b1, b2, B⟩ := hcut
        clear r1 hl
        go_wp2_with fail
        rw [HT.out]
        refine (hc _).mono ?_
        rintro e w1 ⟨v1, rfl, hb1, _⟩
        have B1 := below_on B hb1
        have c1 := b1.later hb1
        obtain ⟨p0, p1, pl⟩ := b2.later hb1
        clear hb1 b1 b2 B
        go_wp2_with fail
        refine (hp _).mono ?_
        rintro e w2 ⟨rfl, hb2⟩
        have B2 := below_on B1 hb2
        obtain ⟨q0, q1, q2, f0, f1, f2, ql⟩ := c1.later hb2
        obtain ⟨d0, d1, dl⟩ := (Box2.later ⟨p0, p1, pl⟩ hb2 : Box2 w2 _ _ _)
        clear p0 p1 pl hb2 B1
        go_wp2
        go_region
        all_goals
          go_wp2
          rw [HT.out]
          exact bodyPost_ret (v := .tuple #[.agg #[.int .i64 (A : Int), .int .i64 (L : Int), .string T], .bool false]) (by simp [results, Try.results90, go_sem, q0, q1, q2]) rfl ⟨rfl, below_three B2.drew (Nat.le_refl _) _ _ _⟩
    | true =>
      go_enter Try.func90, Try.ntmps90
      go_upto_region 3 with fail
      go_cut [4] (fun s4 wx => s4 = .pointer (some ⟨w.heap.size + 1, 0, none⟩) ∧ Box3 wx w.heap.size (.int .i64 0) (.int .i64 0) (.string ⟨#[]⟩) ∧ Box2 wx (w.heap.size + 1) (.int .i64 A) (.int .i64 L) ∧ Below w.heap.size w wx)
      case first =>
        have hlb := HB.out
        have hwl : IntKind.i64.wrap (L : Int) = (L : Int) := by rw [IntKind.wrap_i64]; omega
        clear hc hp
        go_region_with (first | (go_at_call 34; refine (r1 _).mono ?_; rintro e w' ⟨rfl, hw⟩; rw [hw]; clear hw w'))
        all_goals
          go_wp2_with fail
          go_meet
          case rel => exact ⟨rfl, boxes32 _ _ _ _ _ _ _ _⟩
      case rest =>
        obtain ⟨rfl, b1, b2, B⟩ := hcut
        clear r1 hl
        go_wp2_with fail
        rw [HT.out]
        refine (hc _).mono ?_
        rintro e w1 ⟨v1, rfl, hb1, _⟩
        have B1 := below_on B hb1
        have c1 := b1.later hb1
        obtain ⟨p0, p1, pl⟩ := b2.later hb1
        clear hb1 b1 b2 B
        go_wp2_with fail
        refine (hp _).mono ?_
        rintro e w2 ⟨rfl, hb2⟩
        have B2 := below_on B1 hb2
        obtain ⟨q0, q1, q2, f0, f1, f2, ql⟩ := c1.later hb2
        obtain ⟨d0, d1, dl⟩ := (Box2.later ⟨p0, p1, pl⟩ hb2 : Box2 w2 _ _ _)
        clear p0 p1 pl hb2 B1
        go_wp2
        go_region
        all_goals
          go_wp2
          rw [HT.out]
          exact bodyPost_ret (v := .tuple #[.agg #[.int .i64 (A : Int), .int .i64 (L : Int), .string T], .bool p]) (by simp [results, Try.results90, go_sem, q0, q1, q2]) rfl ⟨by simp, below_three B2.drew (Nat.le_refl _) _ _ _⟩

theorem rtOf_form (b : ByteArray) : ∃ (A L : Int) (S : ByteArray), rtOf b = .agg #[.int .i64 A, .int .i64 L, .string S] := by
  unfold rtOf; split <;> exact ⟨_, _, _, rfl⟩
theorem enOf_form (b : ByteArray) : ∃ (A L : Int) (S : ByteArray), enOf b = .agg #[.int .i64 A, .int .i64 L, .string S] := by
  unfold enOf; split <;> exact ⟨_, _, _, rfl⟩

end Go.Proofs.Yteoacdkgicfomaa
/-
  The three sums, walked.
-/
namespace Go.Proofs.Yteoacdkgicfomaa
open Go.RowKit
open Rl

theorem i64_xor_nat (a b : Nat) (ha : a < 4294967296) (hb : b < 4294967296) : bits .xor .i64 (a : Int) (b : Int) = ((a ^^^ b : Nat) : Int) := by
  have h := xor_lt ha hb
  have ha' : a % 2 ^ IntKind.i64.bits = a := Nat.mod_eq_of_lt (by simp [IntKind.bits]; omega)
  have hb' : b % 2 ^ IntKind.i64.bits = b := Nat.mod_eq_of_lt (by simp [IntKind.bits]; omega)
  simp only [bits, BitVec.ofInt_natCast, BitVec.toNat_xor, BitVec.toNat_ofNat, ha', hb']
  rw [IntKind.wrap_i64]
  omega

theorem u32_neg (c : Nat) : IntKind.u32.wrap (-((c % 2 : Nat) : Int)) = if c % 2 = 1 then 4294967295 else 0 := by
  rw [IntKind.wrap_u32]
  split <;> omega

theorem u32_step (x : Nat) (h : x < 4294967296) : bits .xor .u32 ((x : Int) / 2) (bits .and .u32 3988292384 (-bits .and .u32 (x : Int) 1 % 4294967296)) = (stepC x : Int) := by
  have e1 : bits .and .u32 (x : Int) 1 = ((x % 2 : Nat) : Int) := by
    have := u32_and_nat x 1 h (by omega)
    rw [Nat.and_one_is_mod] at this
    exact this
  have e0 : ((x : Int) / 2) = ((x / 2 : Nat) : Int) := by omega
  rw [e1, e0]
  unfold stepC
  by_cases hx : x % 2 = 1
  · have e2 : -((x % 2 : Nat) : Int) % 4294967296 = ((4294967295 : Nat) : Int) := by omega
    have e3 : bits .and .u32 3988292384 ((4294967295 : Nat) : Int) = ((3988292384 : Nat) : Int) := by
      have := u32_and_nat 3988292384 4294967295 (by omega) (by omega)
      rw [show (3988292384 &&& 4294967295 : Nat) = 3988292384 by decide] at this
      exact this
    rw [e2, e3, if_pos hx]
    exact u32_xor_nat _ _ (by omega) (by omega)
  · have e2 : -((x % 2 : Nat) : Int) % 4294967296 = ((0 : Nat) : Int) := by omega
    have e3 : bits .and .u32 3988292384 ((0 : Nat) : Int) = ((0 : Nat) : Int) := by
      have := u32_and_nat 3988292384 0 (by omega) (by omega)
      rw [Nat.and_zero] at this
      exact this
    rw [e2, e3, if_neg hx]
    have := u32_xor_nat (x / 2) 0 (by omega) (by omega)
    rw [Nat.xor_zero] at this
    exact this

theorem ones_xor (b : Nat) (hb : b < 4294967296) : 4294967295 ^^^ b = 4294967295 - b := by
  have h := BitVec.toNat_not (x := BitVec.ofNat 32 b)
  have e : (~~~ (BitVec.ofNat 32 b)) = BitVec.ofNat 32 4294967295 ^^^ BitVec.ofNat 32 b := by
    rw [← BitVec.allOnes_xor]; rfl
  rw [e, BitVec.toNat_xor, BitVec.toNat_ofNat, BitVec.toNat_ofNat, Nat.mod_eq_of_lt (by omega : b < 2 ^ 32)] at h
  exact h

theorem u32_not (b : Nat) (hb : b < 4294967296) : bits .xor .u32 4294967295 (b : Int) = ((4294967295 - b : Nat) : Int) := by
  have h := u32_xor_nat 4294967295 b (by omega) hb
  rw [ones_xor b hb] at h
  exact h

set_option maxRecDepth 20000 in
set_option maxHeartbeats 4000000 in
theorem sum_any (s : ByteArray) (w : World) (hs : s.size ≤ maxLen) :
    Calls Try.prog 87 #[.string s] w fun e w' => e = .returned (.int .i64 (crc s.data.toList : Int)) ∧ w' = w := by
  unfold maxLen at hs
  go_enter Try.func87, Try.ntmps87
  go_wp2
  go_loop [3, 7] (fun c i => ∃ k : Nat, k ≤ s.size ∧ i = .int .i64 k ∧ c = .int .u32 (crcAll (s.data.toList.take k) : Int)) (fun _ i => s.size - (intOf i).toNat)
  case atStart => exact ⟨0, Nat.zero_le _, rfl, rfl⟩
  case round =>
    obtain ⟨k, hk, rfl, rfl⟩ := hrel
    have hlt := crcAll_lt (s.data.toList.take k)
    by_cases hks : k < s.size
    · have HT := hide (crcAll_take s k hks)
      have hb := s[k].toNat_lt
      have hx : bits .xor .u32 ((crcAll (s.data.toList.take k) : Nat) : Int) ((s[k].toNat : Nat) : Int) = ((crcAll (s.data.toList.take k) ^^^ s[k].toNat : Nat) : Int) := u32_xor_nat _ _ hlt (by omega)
      generalize crcAll (s.data.toList.take k) = c at *
      go_wp2
      have hlx := xor_lt hlt (show s[k].toNat < 4294967296 by omega)
      have HB : Hid (∀ j, itC j (c ^^^ s[k].toNat) < 4294967296) := fun j => itC_lt hlx j
      have HE : Hid (byteC c s[k].toNat = itC 8 (c ^^^ s[k].toNat)) := rfl
      have HS : Hid (∀ j, itC (j + 1) (c ^^^ s[k].toNat) = stepC (itC j (c ^^^ s[k].toNat))) := fun j => rfl
      have H0 : Hid (itC 0 (c ^^^ s[k].toNat) = c ^^^ s[k].toNat) := rfl
      obtain ⟨f, hf⟩ : ∃ f : Nat → Nat, f = fun j => itC j (c ^^^ s[k].toNat) := ⟨_, rfl⟩
      have HB2 : Hid (∀ j, f j < 4294967296) := by rw [hf]; exact HB
      have HE2 : Hid (byteC c s[k].toNat = f 8) := by rw [hf]; exact HE
      have HS2 : Hid (∀ j, f (j + 1) = stepC (f j)) := by rw [hf]; exact HS
      have H02 : Hid (f 0 = c ^^^ s[k].toNat) := by rw [hf]; exact H0
      clear hf HB HE HS H0 hx hlx hb
      go_loop [3, 16] (fun x i => ∃ j : Nat, j ≤ 8 ∧ i = .int .i64 j ∧ x = .int .u32 (f j : Int)) (fun _ i => 8 - (intOf i).toNat)
      case atStart => exact ⟨0, Nat.zero_le _, rfl, by rw [H02.out]⟩
      case round =>
        obtain ⟨j, hj, rfl, rfl⟩ := hrel
        have hl := HB2.out j
        by_cases hj8 : j < 8
        · have HN := hide (HS2.out j)
          generalize f j = x at *
          go_wp2
          exact ⟨⟨j + 1, by omega, by go_num, by rw [u32_step x hl, ← HN.out]⟩, by simp [intOf]; omega⟩
        · have e : j = 8 := by omega
          subst e
          have HW : Hid (f 8 = crcAll (s.data.toList.take (k + 1))) := by rw [HT.out, HE2.out]; rfl
          clear HT HE2 HS2 HB2 H02
          go_wp2
          exact ⟨⟨k + 1, by omega, by go_num, by rw [HW.out]⟩, by simp [intOf]; omega⟩
    · have e : s.data.toList.take k = s.data.toList := List.take_of_length_le (by simp; omega)
      have HN : Hid (((4294967295 - crcAll (s.data.toList.take k) : Nat) : Int) = (crc s.data.toList : Int)) := by rw [e]; rfl
      have hn := u32_not _ hlt
      clear e
      have hz : 4294967295 - crcAll (s.data.toList.take k) < 4294967296 := by omega
      generalize 4294967295 - crcAll (s.data.toList.take k) = z at *
      generalize crcAll (s.data.toList.take k) = c at *
      have hmax : IntKind.u32.max = 4294967295 := by decide
      have hw : wrap64 (z : Int) = (z : Int) := wrap64_in' _ (by omega) (by omega)
      go_wp2
      go_ret
      exact ⟨ret_int HN.out, rfl⟩

set_option maxRecDepth 20000 in
set_option maxHeartbeats 4000000 in
theorem refSum_any (s : ByteArray) (w : World) (hs : s.size ≤ maxLen) :
    Calls Try.prog 68 #[.string s] w fun e w' => e = .returned (.int .i64 (crc s.data.toList : Int)) ∧ w' = w := by
  unfold maxLen at hs
  go_enter Try.func68, Try.ntmps68
  go_wp2
  go_loop [3, 4] (fun c i => ∃ k : Nat, k ≤ s.size ∧ i = .int .i64 k ∧ c = .int .i64 (crcAll (s.data.toList.take k) : Int)) (fun _ i => s.size - (intOf i).toNat)
  case atStart => exact ⟨0, Nat.zero_le _, rfl, rfl⟩
  case round =>
    obtain ⟨k, hk, rfl, rfl⟩ := hrel
    have hlt := crcAll_lt (s.data.toList.take k)
    by_cases hks : k < s.size
    · have HT := hide (crcAll_take s k hks)
      have hb := s[k].toNat_lt
      generalize crcAll (s.data.toList.take k) = c at *
      generalize hB : s[k].toNat = B at *
      obtain ⟨f, hf⟩ : ∃ f : Nat → Nat, f = bitC c B := ⟨_, rfl⟩
      have HB2 : Hid (∀ j, f j < 4294967296) := by rw [hf]; exact fun j => bitC_lt hlt hb j
      have HE2 : Hid (byteC c B = f 8) := by rw [hf]; exact (bitC_last c B hb).symm
      have HS2 : Hid (∀ j, f (j + 1) = if B / 2 ^ j % 2 ≠ f j % 2 then f j / 2 ^^^ 3988292384 else f j / 2) := by rw [hf]; exact fun j => bitC_step c B j
      have H02 : Hid (f 0 = c) := by rw [hf]; exact bitC_zero c B
      clear hf
      go_wp2
      go_loop [3, 5] (fun x i => ∃ j : Nat, j ≤ 8 ∧ i = .int .i64 j ∧ x = .int .i64 (f j : Int)) (fun _ i => 8 - (intOf i).toNat)
      case atStart => exact ⟨0, Nat.zero_le _, rfl, by rw [H02.out]⟩
      case round =>
        obtain ⟨j, hj, rfl, rfl⟩ := hrel
        have hl := HB2.out j
        by_cases hj8 : j < 8
        · have HN := hide (HS2.out j)
          have hq : (((B : Int) / 2 ^ j).tmod 2) = ((B / 2 ^ j % 2 : Nat) : Int) := by
            have e : ((B : Int) / 2 ^ j) = ((B / 2 ^ j : Nat) : Int) := by rw [Int.natCast_ediv, Int.natCast_pow]; rfl
            rw [e]
            generalize B / 2 ^ j = z
            rw [Int.tmod_eq_emod_of_nonneg (Int.natCast_nonneg z)]; omega
          have hx := i64_xor_nat (f j / 2) 3988292384 (by omega) (by omega)
          rw [show ((f j / 2 : Nat) : Int) = (f j : Int) / 2 by omega] at hx
          have hx2 : bits .xor .i64 ((f j : Int) / 2) 3988292384 = ((f j / 2 ^^^ 3988292384 : Nat) : Int) := hx
          clear hx
          generalize B / 2 ^ j % 2 = q at *
          by_cases hne : q ≠ f j % 2
          · rw [if_pos hne] at HN
            have hbn : ((q : Int) != (f j : Int) % 2) = true := by rw [bne_iff_ne]; omega
            generalize f j / 2 ^^^ 3988292384 = y at *
            generalize f j = x at *
            go_wp2
            exact ⟨⟨j + 1, by omega, by go_num, by rw [HN.out]⟩, by simp [intOf]; omega⟩
          · rw [if_neg hne] at HN
            have hbn : ((q : Int) != (f j : Int) % 2) = false := by rw [bne_eq_false_iff_eq]; omega
            generalize f j / 2 ^^^ 3988292384 = y at *
            have HN2 : Hid (((f j : Int) / 2) = (f (j + 1) : Int)) := by rw [HN.out]; unfold Hid; omega
            clear HN
            generalize f j = x at *
            go_wp2
            exact ⟨⟨j + 1, by omega, by go_num, by rw [HN2.out]⟩, by simp [intOf]; omega⟩
        · have e : j = 8 := by omega
          subst e
          have HW : Hid (f 8 = crcAll (s.data.toList.take (k + 1))) := (HT.out.trans HE2.out).symm
          clear HT HE2 HS2 HB2 H02
          go_wp2
          exact ⟨⟨k + 1, by omega, by go_num, by rw [HW.out]⟩, by simp [intOf]; omega⟩
    · have e : s.data.toList.take k = s.data.toList := List.take_of_length_le (by simp; omega)
      have HN : Hid ((4294967295 - (crcAll (s.data.toList.take k) : Int)) = (crc s.data.toList : Int)) := by rw [e]; unfold crc Hid; rw [e] at hlt; omega
      clear e
      generalize crcAll (s.data.toList.take k) = c at *
      go_wp2
      go_ret
      exact ⟨ret_int HN.out, rfl⟩

set_option maxRecDepth 20000 in
set_option maxHeartbeats 4000000 in
theorem keepSum_any (s : ByteArray) (w : World) (hs : s.size ≤ maxLen) :
    Calls Try.prog 50 #[.string s] w fun e w' => e = .returned (.int .i64 (crc s.data.toList : Int)) ∧ w' = w := by
  unfold maxLen at hs
  go_enter Try.func50, Try.ntmps50
  go_wp2
  go_loop [3, 4] (fun c i => ∃ k : Nat, k ≤ s.size ∧ i = .int .i64 k ∧ c = .int .i64 (crcAll (s.data.toList.take k) : Int)) (fun _ i => s.size - (intOf i).toNat)
  case atStart => exact ⟨0, Nat.zero_le _, rfl, rfl⟩
  case round =>
    obtain ⟨k, hk, rfl, rfl⟩ := hrel
    have hlt := crcAll_lt (s.data.toList.take k)
    by_cases hks : k < s.size
    · have HT := hide (crcAll_take s k hks)
      have hb := s[k].toNat_lt
      generalize crcAll (s.data.toList.take k) = c at *
      generalize hB : s[k].toNat = B at *
      have hx := i64_xor_nat c B hlt (by omega)
      have hlx := xor_lt hlt (show B < 4294967296 by omega)
      obtain ⟨f, hf⟩ : ∃ f : Nat → Nat, f = fun j => itC j (c ^^^ B) := ⟨_, rfl⟩
      have HB2 : Hid (∀ j, f j < 4294967296) := by rw [hf]; exact fun j => itC_lt hlx j
      have HE2 : Hid (byteC c B = f 8) := by rw [hf]; rfl
      have HS2 : Hid (∀ j, f (j + 1) = if f j % 2 = 1 then f j / 2 ^^^ 3988292384 else f j / 2) := by rw [hf]; exact fun j => rfl
      have H02 : Hid (f 0 = c ^^^ B) := by rw [hf]; rfl
      clear hf
      go_wp2
      go_loop [3, 5] (fun x i => ∃ j : Nat, j ≤ 8 ∧ i = .int .i64 j ∧ x = .int .i64 (f j : Int)) (fun _ i => 8 - (intOf i).toNat)
      case atStart => exact ⟨0, Nat.zero_le _, rfl, by rw [H02.out]⟩
      case round =>
        obtain ⟨j, hj, rfl, rfl⟩ := hrel
        have hl := HB2.out j
        by_cases hj8 : j < 8
        · have HN := hide (HS2.out j)
          have hx3 := i64_xor_nat (f j / 2) 3988292384 (by omega) (by omega)
          rw [show ((f j / 2 : Nat) : Int) = (f j : Int) / 2 by omega] at hx3
          have hx2 : bits .xor .i64 ((f j : Int) / 2) 3988292384 = ((f j / 2 ^^^ 3988292384 : Nat) : Int) := hx3
          clear hx3 hx
          by_cases hne : f j % 2 = 1
          · rw [if_pos hne] at HN
            have hbn : ((f j : Int) % 2 == 1) = true := by rw [beq_iff_eq]; omega
            generalize f j / 2 ^^^ 3988292384 = y at *
            clear hne
            generalize f j = x at *
            go_wp2
            exact ⟨⟨j + 1, by omega, by go_num, by rw [HN.out]⟩, by simp [intOf]; omega⟩
          · rw [if_neg hne] at HN
            have hbn : ((f j : Int) % 2 == 1) = false := by rw [beq_eq_false_iff_ne]; omega
            generalize f j / 2 ^^^ 3988292384 = y at *
            have HN2 : Hid (((f j : Int) / 2) = (f (j + 1) : Int)) := by rw [HN.out]; unfold Hid; omega
            clear HN hne
            generalize f j = x at *
            go_wp2
            exact ⟨⟨j + 1, by omega, by go_num, by rw [HN2.out]⟩, by simp [intOf]; omega⟩
        · have e : j = 8 := by omega
          subst e
          have HW : Hid (f 8 = crcAll (s.data.toList.take (k + 1))) := (HT.out.trans HE2.out).symm
          clear HT HE2 HS2 HB2 H02
          go_wp2
          exact ⟨⟨k + 1, by omega, by go_num, by rw [HW.out]⟩, by simp [intOf]; omega⟩
    · have e : s.data.toList.take k = s.data.toList := List.take_of_length_le (by simp; omega)
      have HN : Hid ((4294967295 - (crcAll (s.data.toList.take k) : Int)) = (crc s.data.toList : Int)) := by rw [e]; unfold crc Hid; rw [e] at hlt; omega
      clear e
      generalize crcAll (s.data.toList.take k) = c at *
      go_wp2
      go_ret
      exact ⟨ret_int HN.out, rfl⟩

end Go.Proofs.Yteoacdkgicfomaa
/-
  What first hands back; struct boxes of four cells.
-/
namespace Go.Proofs.Yteoacdkgicfomaa
open Go.RowKit
open Rl

/-- what first hands back: the record's cells, and how many bytes it has. -/
def frRec (b : ByteArray) : Rec := if firstR b = true then headR b else ⟨0, 0, 0, ⟨#[]⟩⟩
def frLen (b : ByteArray) : Nat := if firstR b = true then 12 + bodyN b else 0
def recAgg (r : Rec) : Value := .agg #[.int .i64 (r.time : Int), .int .i64 (r.kind : Int), .int .i64 (r.peer : Int), .string r.body]

theorem frRec_no {b : ByteArray} (h : firstR b = false) : frRec b = ⟨0, 0, 0, ⟨#[]⟩⟩ ∧ frLen b = 0 := by
  unfold frRec frLen; rw [if_neg (by simp [h]), if_neg (by simp [h])]; exact ⟨rfl, rfl⟩
theorem frRec_yes {b : ByteArray} (h : firstR b = true) : frRec b = headR b ∧ frLen b = 12 + bodyN b := by
  unfold frRec frLen; rw [if_pos h, if_pos h]; exact ⟨rfl, rfl⟩

theorem firstR_short {b : ByteArray} (h : b.size < 8 ∨ b.size < 12 + bodyN b) : firstR b = false := by
  unfold firstR wholeR; rw [decide_eq_false (by omega)]; rfl

theorem clone_any (s : ByteArray) (w : World) (hs : s.size ≤ 1048576) :
    Calls Try.prog 88 #[.string s] w fun e w' => e = .returned (.string s) ∧ Below w.heap.size w w' := by
  go_enter Try.func88, Try.ntmps88
  go_wp2_with (go_at_call 96; refine (Try.stringslite_Clone s _ (by omega)).mono ?_; rintro e w' ⟨rfl, hb⟩)
  go_ret
  exact ⟨rfl, hb⟩

theorem below_four {B : Nat} {a w : World} (h : Below B a w) {n : Nat} (hn : B ≤ n) (x y z u : Value) : Below B a ((((w.setCell ⟨n, 0, none⟩ x).setCell ⟨n, 1, none⟩ y).setCell ⟨n, 2, none⟩ z).setCell ⟨n, 3, none⟩ u) :=
  (((h.setCell (p := ⟨n, 0, none⟩) hn x).setCell (p := ⟨n, 1, none⟩) hn y).setCell (p := ⟨n, 2, none⟩) hn z).setCell (p := ⟨n, 3, none⟩) hn u

theorem mid_box (w : World) (q : Nat) (T T' : TypeId) : Box4 (((w.alloc (.cells #[.int .i64 0, .int .i64 0, .int .i64 0, .string ⟨#[]⟩] T)).drewN q).alloc (.cells #[.int .i64 0, .int .i64 0, .int .i64 0, .string ⟨#[]⟩] T')) (w.heap.size + 1) (.int .i64 0) (.int .i64 0) (.int .i64 0) (.string ⟨#[]⟩) := by
  have hs : ((w.alloc (.cells #[.int .i64 0, .int .i64 0, .int .i64 0, .string ⟨#[]⟩] T)).drewN q).heap.size = w.heap.size + 1 := by simp
  have h1 := box4_new ((w.alloc (.cells #[.int .i64 0, .int .i64 0, .int .i64 0, .string ⟨#[]⟩] T)).drewN q) (.int .i64 0) (.int .i64 0) (.int .i64 0) (.string ⟨#[]⟩) T'
  rw [hs] at h1
  exact h1

theorem keepK {K : Prop} {X w2 : World} {n : Nat} (hb : Below X.heap.size X w2) (_hl : n < X.heap.size) (h : Box4 X n (.int .i64 0) (.int .i64 0) (.int .i64 0) (.string ⟨#[]⟩)) (k : Box4 w2 n (.int .i64 0) (.int .i64 0) (.int .i64 0) (.string ⟨#[]⟩) → K) : K := k (h.later hb)

theorem box4_stored {w : World} {n : Nat} {x y z u a b c d : Value} (h : Box4 w n x y z u) : Box4 ((((w.setCell ⟨n, 0, none⟩ a).setCell ⟨n, 1, none⟩ b).setCell ⟨n, 2, none⟩ c).setCell ⟨n, 3, none⟩ d) n a b c d := by
  have o : ∀ (w : World) i j v, i ≠ j → (w.setCell ⟨n, i, none⟩ v).cell? ⟨n, j, none⟩ = w.cell? ⟨n, j, none⟩ := fun w i j v h => World.cell?_setCell_other _ _ _ _ (fun e => by injection e with _ e; exact h e)
  obtain ⟨c0, c1, c2, c3, f0, f1, f2, f3, hl⟩ := h
  refine ⟨?_, ?_, ?_, ?_, by simp [f0], by simp [f1], by simp [f2], by simp [f3], by simpa using hl⟩
  · rw [o _ 3 0 _ (by omega), o _ 2 0 _ (by omega), o _ 1 0 _ (by omega)]
    exact World.cell?_setCell_same _ _ _ c0
  · rw [o _ 3 1 _ (by omega), o _ 2 1 _ (by omega)]
    exact World.cell?_setCell_same _ _ _ (by rw [o _ 0 1 _ (by omega)]; exact c1)
  · rw [o _ 3 2 _ (by omega)]
    exact World.cell?_setCell_same _ _ _ (by rw [o _ 1 2 _ (by omega), o _ 0 2 _ (by omega)]; exact c2)
  · exact World.cell?_setCell_same _ _ _ (by rw [o _ 2 3 _ (by omega), o _ 1 3 _ (by omega), o _ 0 3 _ (by omega)]; exact c3)

theorem box4_kept {w : World} {n m : Nat} {x y z u a b c d : Value} (h : Box4 w m x y z u) (hn : m ≠ n) : Box4 ((((w.setCell ⟨n, 0, none⟩ a).setCell ⟨n, 1, none⟩ b).setCell ⟨n, 2, none⟩ c).setCell ⟨n, 3, none⟩ d) m x y z u := by
  have ne : ∀ i j, (⟨n, i, none⟩ : Addr) ≠ ⟨m, j, none⟩ := fun i j e => by injection e with e; exact hn e.symm
  have k : ∀ (w : World) i j v, (w.setCell ⟨n, i, none⟩ v).cell? ⟨m, j, none⟩ = w.cell? ⟨m, j, none⟩ := fun w i j v => World.cell?_setCell_other _ _ _ _ (ne i j)
  obtain ⟨c0, c1, c2, c3, f0, f1, f2, f3, hl⟩ := h
  exact ⟨by rw [k, k, k, k, c0], by rw [k, k, k, k, c1], by rw [k, k, k, k, c2], by rw [k, k, k, k, c3], by simp [f0], by simp [f1], by simp [f2], by simp [f3], by simpa using hl⟩

/-- what the region of the parts holds on to. -/
def HoldF (w wx : World) : Prop := Box4 wx w.heap.size (.int .i64 0) (.int .i64 0) (.int .i64 0) (.string ⟨#[]⟩) ∧ Below w.heap.size w wx

theorem HoldF.later {w wx w2 : World} (h : HoldF w wx) (hb : Below wx.heap.size wx w2) : HoldF w w2 := ⟨h.1.later hb, below_on h.2 hb⟩
theorem HoldF.new {w wx : World} (h : HoldF w wx) (o : Obj) : HoldF w (wx.alloc o) := h.later (below_new _ _)
theorem HoldF.drew {w wx : World} (h : HoldF w wx) : HoldF w wx.drew := h.later (Below.refl _ _).drew
theorem HoldF.stored {w wx : World} (h : HoldF w wx) {n : Nat} (hn : w.heap.size < n) (a b c d : Value) : HoldF w ((((wx.setCell ⟨n, 0, none⟩ a).setCell ⟨n, 1, none⟩ b).setCell ⟨n, 2, none⟩ c).setCell ⟨n, 3, none⟩ d) :=
  ⟨box4_kept h.1 (by omega), below_four h.2 (by omega) _ _ _ _⟩
theorem HoldF.start (w : World) (q : Nat) (T : TypeId) : HoldF w ((w.alloc (.cells #[.int .i64 0, .int .i64 0, .int .i64 0, .string ⟨#[]⟩] T)).drewN q) :=
  ⟨(box4_new w _ _ _ _ T).later (below_drewN (Below.refl _ _) q), below_drewN (below_new _ _) q⟩

theorem parts_end {w wx : World} {n : Nat} {a b c d : Value} (h : HoldF w wx) (hb : Box4 wx n a b c d) : Box4 wx w.heap.size (.int .i64 0) (.int .i64 0) (.int .i64 0) (.string ⟨#[]⟩) ∧ Box4 wx n a b c d ∧ Below w.heap.size w wx := ⟨h.1, hb, h.2⟩

abbrev zero4 : Array Value := #[.int .i64 0, .int .i64 0, .int .i64 0, .string ⟨#[]⟩]

end Go.Proofs.Yteoacdkgicfomaa
