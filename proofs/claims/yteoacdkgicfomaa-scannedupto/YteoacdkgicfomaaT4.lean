/-
  record.isRecord, walked: which records may be.
-/
import Derived.Test.YteoacdkgicfomaaT1
import Derived.Test.YteoacdkgicfomaaT2
import Derived.ProofKit
import Derived.OpenShut
import Derived.ChangeOld
import Derived.Test.YteoacdkgicfomaaRows
namespace Go.Proofs.Yteoacdkgicfomaa
open Go.RowKit
open Rl

set_option maxRecDepth 20000 in
set_option maxHeartbeats 8000000 in
theorem isRecord_any (t k p : Nat) (b : ByteArray) (w : World) (hs : b.size ≤ 1048576) (hk : k < 256) (hp : p < 256) :
    Calls Try.prog 89 #[.agg #[.int .i64 (t : Int), .int .i64 (k : Int), .int .i64 (p : Int), .string b]] w fun e w' => e = .returned (.bool (recOk k p b)) ∧ Below w.heap.size w w' := by
  by_cases h6 : 6 ≤ p
  · rw [recOk_peer k p b h6]
    have hg : (6 : Int) ≤ (p : Int) := by omega
    go_enter Try.func89, Try.ntmps89
    go_wp2
    go_ret
    exact ⟨rfl, below_new _ _⟩
  · have hg : ¬ (6 : Int) ≤ (p : Int) := by omega
    have hbx := box4_new w (.int .i64 (t : Int)) (.int .i64 (k : Int)) (.int .i64 (p : Int)) (.string b) 57
    have bn := below_new w (.cells #[.int .i64 (t : Int), .int .i64 (k : Int), .int .i64 (p : Int), .string b] 57)
    by_cases k1 : k = 1
    · subst k1
      rw [recOk_msg p b h6]
      have hu := fun w => update_any b w (by unfold maxLen; omega)
      generalize upd b = u at *
      obtain ⟨E, g, a, T⟩ := u
      go_enter Try.func89, Try.ntmps89
      go_wp2_with fail
      refine (hu _).mono ?_
      rintro e w1 ⟨v1, v2, rfl, hb1, o1, o2, _⟩
      obtain ⟨a1, c1, rfl⟩ := slice_of_owns o1
      obtain ⟨a2, c2, rfl⟩ := slice_of_owns o2
      have B1 := below_on bn hb1
      go_wp2
      go_ret
      exact ⟨ret_bool' (by rw [Bool.eq_iff_iff]; simp), below_on B1 (below_new _ _)⟩
    · by_cases k4 : k = 4
      · subst k4
        rw [recOk_route p b h6]
        have hr := fun w => readRoute_any b w hs
        obtain ⟨A, L, S, hF⟩ := rtOf_form b
        rw [hF] at hr
        clear hF
        generalize rtOk b = c at *
        go_enter Try.func89, Try.ntmps89
        go_wp2_with fail
        refine (hr _).mono ?_
        rintro e w1 ⟨rfl, hb1⟩
        have B1 := below_on bn hb1
        go_wp2
        go_ret
        exact ⟨rfl, below_on B1 (below_new _ _)⟩
      · have em := isEmpty_size b
        by_cases k2 : k = 2
        · subst k2
          rw [recOk_up p b h6]
          obtain ⟨z, hz⟩ : ∃ z, z = decide (b.size = 0) := ⟨_, rfl⟩
          rw [← hz] at em ⊢
          clear hz
          go_enter Try.func89, Try.ntmps89
          go_wp2
          go_ret
          exact ⟨rfl, below_new _ _⟩
        · by_cases k3 : k = 3
          · subst k3
            rw [recOk_down p b h6]
            obtain ⟨z, hz⟩ : ∃ z, z = decide (b.size = 0) := ⟨_, rfl⟩
            rw [← hz] at em ⊢
            clear hz
            go_enter Try.func89, Try.ntmps89
            go_wp2
            go_ret
            exact ⟨rfl, below_new _ _⟩
          · by_cases k56 : k = 5 ∨ k = 6
            · rw [recOk_head k p b h6 k56]
              obtain ⟨z, hz⟩ : ∃ z, z = decide (p = 0 ∧ b.size = 0) := ⟨_, rfl⟩
              rw [← hz]
              by_cases p0 : p = 0
              · by_cases b0 : b.size = 0
                · have ez : z = true := by rw [hz, decide_eq_true ⟨p0, b0⟩]
                  rw [decide_eq_true b0] at em
                  have hp0 : ((p : Int) == 0) = true := by rw [p0]; rfl
                  subst ez
                  clear hz
                  rcases k56 with k5 | k5
                  · subst k5
                    go_enter Try.func89, Try.ntmps89
                    go_wp2
                    go_ret
                    exact ⟨rfl, below_new _ _⟩
                  · subst k5
                    go_enter Try.func89, Try.ntmps89
                    go_wp2
                    go_ret
                    exact ⟨rfl, below_new _ _⟩
                · have ez : z = false := by rw [hz, decide_eq_false fun h => b0 h.2]
                  rw [decide_eq_false b0] at em
                  have hp0 : ((p : Int) == 0) = true := by rw [p0]; rfl
                  subst ez
                  clear hz
                  rcases k56 with k5 | k5
                  · subst k5
                    go_enter Try.func89, Try.ntmps89
                    go_wp2
                    go_ret
                    exact ⟨rfl, below_new _ _⟩
                  · subst k5
                    go_enter Try.func89, Try.ntmps89
                    go_wp2
                    go_ret
                    exact ⟨rfl, below_new _ _⟩
              · have ez : z = false := by rw [hz, decide_eq_false fun h => p0 h.1]
                have hp0 : ((p : Int) == 0) = false := by rw [beq_eq_false_iff_ne]; omega
                subst ez
                clear hz
                generalize decide (b.size = 0) = y at *
                cases y with
                | true =>
                  rcases k56 with k5 | k5
                  · subst k5
                    go_enter Try.func89, Try.ntmps89
                    go_wp2
                    go_ret
                    exact ⟨rfl, below_new _ _⟩
                  · subst k5
                    go_enter Try.func89, Try.ntmps89
                    go_wp2
                    go_ret
                    exact ⟨rfl, below_new _ _⟩
                | false =>
                  rcases k56 with k5 | k5
                  · subst k5
                    go_enter Try.func89, Try.ntmps89
                    go_wp2
                    go_ret
                    exact ⟨rfl, below_new _ _⟩
                  · subst k5
                    go_enter Try.func89, Try.ntmps89
                    go_wp2
                    go_ret
                    exact ⟨rfl, below_new _ _⟩
            · rw [recOk_none k p b h6 (by omega)]
              have n1 : ((k : Int) == 1) = false := by rw [beq_eq_false_iff_ne]; omega
              have n2 : ((k : Int) == 2) = false := by rw [beq_eq_false_iff_ne]; omega
              have n3 : ((k : Int) == 3) = false := by rw [beq_eq_false_iff_ne]; omega
              have n4 : ((k : Int) == 4) = false := by rw [beq_eq_false_iff_ne]; omega
              have n5 : ((k : Int) == 5) = false := by rw [beq_eq_false_iff_ne]; omega
              have n6 : ((k : Int) == 6) = false := by rw [beq_eq_false_iff_ne]; omega
              clear k1 k4 k2 k3 k56
              go_enter Try.func89, Try.ntmps89
              go_wp2
              go_ret
              exact ⟨rfl, below_new _ _⟩

end Go.Proofs.Yteoacdkgicfomaa
/-
  record.first, walked: the record that begins a text.
-/
namespace Go.Proofs.Yteoacdkgicfomaa
open Go.RowKit
open Rl

set_option maxRecDepth 20000 in
set_option maxHeartbeats 40000000 in
theorem first_any (b : ByteArray) (w : World) (hs : b.size ≤ 2097152) :
    Calls Try.prog 67 #[.string b] w fun e w' => e = .returned (.tuple #[recAgg (frRec b), .int .i64 (frLen b : Int)]) ∧ Below w.heap.size w w' := by
  by_cases h8 : b.size < 8
  · obtain ⟨e1, e2⟩ := frRec_no (firstR_short (.inl h8))
    rw [e1, e2]
    have hlt : (b.size : Int) < 8 := by omega
    go_enter Try.func67, Try.ntmps67
    go_wp2
    exact bodyPost_ret (v := .tuple #[.agg #[.int .i64 0, .int .i64 0, .int .i64 0, .string ⟨#[]⟩], .int .i64 0]) (by simp [results, Try.results67, go_sem]) rfl ⟨rfl, below_new _ _⟩
  · have hlt : ¬ (b.size : Int) < 8 := by omega
    have k8 : (8 : Int) ≤ (b.size : Int) := by omega
    have rN := fun w => read_any (b.extract 6 8) w (by rw [ByteArray.size_extract]; omega)
    rw [← bodyN_cast b] at rN
    have hn := bodyN_lt b
    by_cases hw : b.size < 12 + bodyN b
    · obtain ⟨e1, e2⟩ := frRec_no (firstR_short (.inr hw))
      rw [e1, e2]
      generalize bodyN b = n at *
      have hd : decide ((b.size : Int) < 8 + (n : Int) + 4) = true := decide_eq_true (by omega)
      go_enter Try.func67, Try.ntmps67
      go_wp2_with (go_at_call 52; refine (rN _).mono ?_; rintro e w' ⟨rfl, hw⟩; rw [hw]; clear hw w')
      go_quiet (fail)
      go_wp2
      exact bodyPost_ret (v := .tuple #[.agg #[.int .i64 0, .int .i64 0, .int .i64 0, .string ⟨#[]⟩], .int .i64 0]) (by simp [results, Try.results67, go_sem]) rfl ⟨rfl, below_four (below_drewN (below_new _ _) _) (Nat.le_refl _) _ _ _ _⟩
    · obtain ⟨E4, h4⟩ : ∃ E4, E4 = 8 + bodyN b := ⟨_, rfl⟩
      obtain ⟨E5, h5⟩ : ∃ E5, E5 = 12 + bodyN b := ⟨_, rfl⟩
      have i4 : 8 + (bodyN b : Int) = (E4 : Int) := by omega
      have i5 : (E4 : Int) + 4 = (E5 : Int) := by omega
      have b4 : E4 ≤ b.size := by omega
      have b5 : E5 ≤ b.size := by omega
      have l45 : E4 ≤ E5 := by omega
      have l84 : 8 ≤ E4 := by omega
      have hd : decide ((b.size : Int) < (E5 : Int)) = false := decide_eq_false (by omega)
      have rS := fun w => sum_any (b.extract 0 E4) w (by rw [ByteArray.size_extract]; unfold maxLen; omega)
      have rR := fun w => read_any (b.extract E4 E5) w (by rw [ByteArray.size_extract]; omega)
      have hsum : sumR b = decide (num ((b.extract E4 E5).data.toList) = (crc ((b.extract 0 E4).data.toList) : Int)) := by rw [h4, h5]; rfl
      have hwh : wholeR b = true := by unfold wholeR; rw [decide_eq_true_iff]; omega
      have hfs : firstR b = (sumR b && recOk (headR b).kind (headR b).peer (headR b).body) := by unfold firstR; rw [hwh, Bool.true_and]
      have hX := num_nonneg ((b.extract E4 E5).data.toList)
      generalize num ((b.extract E4 E5).data.toList) = X at *
      generalize (crc ((b.extract 0 E4).data.toList) : Int) = Y at *
      by_cases hxy : X = Y
      · have hbn : (X != Y) = false := by rw [bne_eq_false_iff_eq]; exact hxy
        rw [hsum, decide_eq_true hxy, Bool.true_and] at hfs
        clear hsum hwh hX
        have rT := fun w => read_any (b.extract 0 4) w (by rw [ByteArray.size_extract]; omega)
        rw [← recTime_cast b] at rT
        have a4 : (b[4].toNat : Int) = (at8 b.data.toList 4 : Int) := at8_bytes b 4 (by omega)
        have a5 : (b[5].toNat : Int) = (at8 b.data.toList 5 : Int) := at8_bytes b 5 (by omega)
        have l4 := at8_lt b.data.toList 4
        have l5 := at8_lt b.data.toList 5
        have rC := fun w => clone_any (b.extract 8 E4) w (by rw [ByteArray.size_extract]; omega)
        have rI := fun w => isRecord_any (recTime b) (at8 b.data.toList 4) (at8 b.data.toList 5) (b.extract 8 E4) w (by rw [ByteArray.size_extract]; omega) l4 l5
        have hR : headR b = ⟨recTime b, at8 b.data.toList 4, at8 b.data.toList 5, b.extract 8 E4⟩ := by rw [h4]; rfl
        have hL : 12 + bodyN b = E5 := h5.symm
        rw [hR] at hfs
        simp only at hfs
        rw [← hfs] at rI
        have HY : Hid (firstR b = true → Ending.returned (.tuple #[recAgg (frRec b), .int .i64 (frLen b : Int)]) = .returned (.tuple #[.agg #[.int .i64 (recTime b : Int), .int .i64 (at8 b.data.toList 4 : Int), .int .i64 (at8 b.data.toList 5 : Int), .string (b.extract 8 E4)], .int .i64 (E5 : Int)])) := fun h => by rw [(frRec_yes h).1, (frRec_yes h).2, hR, hL]; rfl
        have HN : Hid (firstR b = false → Ending.returned (.tuple #[recAgg (frRec b), .int .i64 (frLen b : Int)]) = .returned (.tuple #[.agg zero4, .int .i64 0])) := fun h => by rw [(frRec_no h).1, (frRec_no h).2]; rfl
        obtain ⟨R, hRR⟩ : ∃ R, R = Ending.returned (.tuple #[recAgg (frRec b), .int .i64 (frLen b : Int)]) := ⟨_, rfl⟩
        rw [← hRR] at HY HN ⊢
        clear hRR hR hL hfs h4 h5 hxy
        generalize bodyN b = n at *
        generalize firstR b = ok at *
        generalize recTime b = T at *
        generalize at8 b.data.toList 4 = K at *
        generalize at8 b.data.toList 5 = P at *
        have w4 : IntKind.i64.wrap (K : Int) = (K : Int) := by rw [IntKind.wrap_i64]; omega
        have w5 : IntKind.i64.wrap (P : Int) = (P : Int) := by rw [IntKind.wrap_i64]; omega
        go_enter Try.func67, Try.ntmps67
        go_wp2_with (go_at_call 52; refine (rN _).mono ?_; rintro e w' ⟨rfl, hw⟩; rw [hw]; clear hw w')
        go_quiet ((first | (go_at_call 52; exact Calls.quiet_of_same (rR _)) | (go_at_call 87; exact Calls.quiet_of_same (rS _))))
        go_upto_region 7 with fail
        go_cut [6] (fun s6 wx => ∃ n6, s6 = .pointer (some ⟨n6, 0, none⟩) ∧ Box4 wx w.heap.size (.int .i64 0) (.int .i64 0) (.int .i64 0) (.string ⟨#[]⟩) ∧ Box4 wx n6 (.int .i64 T) (.int .i64 K) (.int .i64 P) (.string (b.extract 8 E4)) ∧ Below w.heap.size w wx)
        case first =>
          have n4 : 4 < b.size := by omega
          have n5 : 5 < b.size := by omega
          have n6 : 4 ≤ b.size := by omega
          have j4 : (4 : Int) < (b.size : Int) := by omega
          have j5 : (5 : Int) < (b.size : Int) := by omega
          have j6 : (4 : Int) ≤ (b.size : Int) := by omega
          have j7 : (8 : Int) ≤ (E4 : Int) := by omega
          have j8 : (E4 : Int) ≤ (b.size : Int) := by omega
          clear rI rR rS rN HY HN hd
          refine wp_region_held_drew (S := fun w' => HoldF w w') (by kernel_rfl) (HoldF.start _ _ _).drew (fun hHeld => ?_)
          refine wpAnyH_take (i := 0) (v := ?v0_1) rfl (by kernel_rfl) (by kernel_rfl) (by kernel_rfl) (fun _ _ _ h => h) (Or.inl ⟨by rfl, ?hy0_1⟩) (by assumption) ?rest0_1
          case hy0_1 =>
            intro w' hSw
            first | (go_simp; with_reducible rfl) | go_simp
          refine wpAnyH_take (i := 1) (v := ?v1_2) rfl (by kernel_rfl) (by kernel_rfl) (by kernel_rfl) (fun _ _ _ h => h) (Or.inl ⟨by rfl, ?hy1_2⟩) (by assumption) ?rest1_2
          case hy1_2 =>
            intro w' hSw
            first | (go_simp; with_reducible rfl) | go_simp
          refine wpAnyH_take (i := 3) (v := ?v3_3) rfl (by kernel_rfl) (by kernel_rfl) (by kernel_rfl) (fun _ _ _ h => h) (Or.inl ⟨by rfl, ?hy3_3⟩) (by assumption) ?rest3_3
          case hy3_3 =>
            intro w' hSw
            first | (go_simp; with_reducible rfl) | go_simp
          refine wpAnyH_take (i := 4) (v := ?v4_4) rfl (by kernel_rfl) (by kernel_rfl) (by kernel_rfl) (fun _ _ _ h => h) (Or.inl ⟨by rfl, ?hy4_4⟩) (by assumption) ?rest4_4
          case hy4_4 =>
            intro w' hSw
            first | (go_simp; with_reducible rfl) | go_simp
          refine wpAnyH_take (i := 5) (v := ?v5_5) rfl (by kernel_rfl) (by kernel_rfl) (by kernel_rfl) (fun _ _ _ h => h) (Or.inl ⟨by rfl, ?hy5_5⟩) (by assumption) ?rest5_5
          case hy5_5 =>
            intro w' hSw
            first | (go_simp; with_reducible rfl) | go_simp
          refine wpAnyH_take (i := 6) (v := ?v6_6) rfl (by kernel_rfl) (by kernel_rfl) (by kernel_rfl) (fun _ _ _ h => h) (Or.inl ⟨by rfl, ?hy6_6⟩) (by assumption) ?rest6_6
          case hy6_6 =>
            intro w' hSw
            first | (go_simp; with_reducible rfl) | go_simp
          refine wpAnyH_take (i := 7) (v := ?v7_7) rfl (by kernel_rfl) (by kernel_rfl) (by kernel_rfl) (fun _ _ _ h => h) (Or.inl ⟨by rfl, ?hy7_7⟩) (by assumption) ?rest7_7
          case hy7_7 =>
            intro w' hSw
            first | (go_simp; with_reducible rfl) | go_simp
          refine wpAnyH_take (i := 8) (v := ?v8_8) rfl (by kernel_rfl) (by kernel_rfl) (by kernel_rfl) (fun _ _ _ h => h) (Or.inl ⟨by rfl, ?hy8_8⟩) (by assumption) ?rest8_8
          case hy8_8 =>
            intro w' hSw
            first | (go_simp; with_reducible rfl) | go_simp
          refine wpAnyH_take (i := 9) (v := ?v9_9) rfl (by kernel_rfl) (by kernel_rfl) (by kernel_rfl) (fun _ _ _ h => h) (Or.inl ⟨by rfl, ?hy9_9⟩) (by assumption) ?rest9_9
          case hy9_9 =>
            intro w' hSw
            first | (go_simp; with_reducible rfl) | go_simp
          refine wpAnyH_take (i := 10) (v := ?v10_10) rfl (by kernel_rfl) (by kernel_rfl) (by kernel_rfl) (fun _ _ _ h => h) (Or.inl ⟨by rfl, ?hy10_10⟩) (by assumption) ?rest10_10
          case hy10_10 =>
            intro w' hSw
            first | (go_simp; with_reducible rfl) | go_simp
          refine wpAnyH_take (i := 11) (v := ?v11_11) rfl (by kernel_rfl) (by kernel_rfl) (by kernel_rfl) (fun _ _ _ h => h) (Or.inl ⟨by rfl, ?hy11_11⟩) (by assumption) ?rest11_11
          case hy11_11 =>
            intro w' hSw
            first | (go_simp; with_reducible rfl) | go_simp
          simp only [Act.put, List.setIfInBounds_toArray]
          refine wpAnyH_ready (rs := [2, 14]) (by kernel_rfl) (by simp) ?_
          refine AllReadyH.cons rfl (fun K hK => ?_) ?_
          · go_simp
            go_wp2_with (go_at_call 52; refine (rT _).mono ?_; rintro e w' ⟨rfl, hw⟩; rw [hw]; clear hw w')
            refine hK.out _ _ (by assumption) (fun hHeld2 => ?_)
            clear hK K
            refine wpAnyH_ready (rs := [12, 14]) (by kernel_rfl) (by simp) ?_
            refine AllReadyH.cons rfl (fun K hK => ?_) ?_
            · go_simp
              go_wp2_with (go_at_call 88; refine (rC _).mono ?_; rintro e w2 ⟨rfl, hb2⟩)
              refine hK.out _ _ (HoldF.later (by assumption) hb2) (fun hHeld2 => ?_)
              clear hK K
              refine wpAnyH_take (i := 13) (v := ?v13_12) rfl (by kernel_rfl) (by kernel_rfl) (by kernel_rfl) (fun _ _ _ h => h) (Or.inl ⟨by rfl, ?hy13_12⟩) (by assumption) ?rest13_12
              case hy13_12 =>
                intro w' hSw
                first | (go_simp; with_reducible rfl) | go_simp
              simp only [Act.put, List.setIfInBounds_toArray]
              refine wpAnyH_ready (rs := [14]) (by kernel_rfl) (by simp) ?_
              refine AllReadyH.cons rfl (fun K hK => ?_) ?_
              · go_simp
                refine hK.out _ _ (HoldF.new (by assumption) _) (fun hHeld2 => ?_)
                clear hK K
                refine wpAnyH_ready (rs := [15]) (by kernel_rfl) (by simp) ?_
                refine AllReadyH.cons rfl (fun K hK => ?_) ?_
                · go_simp
                  refine hK.out _ _ (by first | (exact ((HoldF.start _ _ _).later hb2).new _) | (exact HoldF.stored (by assumption) (by omega) _ _ _ _)) (fun hHeld2 => ?_)
                  clear hK K
                  refine wpAnyH_done (by kernel_rfl) ?_ _
                  go_wp2_with fail
                  go_meet
                  case rel => exact ⟨_, rfl, parts_end (by assumption) (by first | exact box4_new _ _ _ _ _ _ | exact box4_stored ⟨g0, g1, g2, g3, g4, g5, g6, g7, gl⟩)⟩
                exact AllReadyH.nil
              exact AllReadyH.nil
            refine AllReadyH.cons rfl (fun K hK => ?_) ?_
            · go_simp
              refine hK.out _ _ (HoldF.new (by assumption) _) (fun hHeld2 => ?_)
              clear hK K
              refine wpAnyH_ready (rs := [12]) (by kernel_rfl) (by simp) ?_
              refine AllReadyH.cons rfl (fun K hK => ?_) ?_
              · go_simp
                go_wp2_with (go_at_call 88; refine (rC _).mono ?_; rintro e w2 ⟨rfl, hb2⟩; refine keepK (n := w.heap.size + 1) hb2 ?_ ?_ (fun g => ?_); (· simp); (· exact mid_box _ _ _ _); obtain ⟨g0, g1, g2, g3, g4, g5, g6, g7, gl⟩ := g)
                refine hK.out _ _ (HoldF.later (by assumption) hb2) (fun hHeld2 => ?_)
                clear hK K
                refine wpAnyH_take (i := 13) (v := ?v13_13) rfl (by kernel_rfl) (by kernel_rfl) (by kernel_rfl) (fun _ _ _ h => h) (Or.inl ⟨by rfl, ?hy13_13⟩) (by assumption) ?rest13_13
                case hy13_13 =>
                  intro w' hSw
                  first | (go_simp; with_reducible rfl) | go_simp
                simp only [Act.put, List.setIfInBounds_toArray]
                refine wpAnyH_ready (rs := [15]) (by kernel_rfl) (by simp) ?_
                refine AllReadyH.cons rfl (fun K hK => ?_) ?_
                · go_simp
                  refine hK.out _ _ (by first | (exact ((HoldF.start _ _ _).later hb2).new _) | (exact HoldF.stored (by assumption) (by omega) _ _ _ _)) (fun hHeld2 => ?_)
                  clear hK K
                  refine wpAnyH_done (by kernel_rfl) ?_ _
                  go_wp2_with fail
                  go_meet
                  case rel => exact ⟨_, rfl, parts_end (by assumption) (by first | exact box4_new _ _ _ _ _ _ | exact box4_stored ⟨g0, g1, g2, g3, g4, g5, g6, g7, gl⟩)⟩
                exact AllReadyH.nil
              exact AllReadyH.nil
            exact AllReadyH.nil
          refine AllReadyH.cons rfl (fun K hK => ?_) ?_
          · go_simp
            refine hK.out _ _ (HoldF.new (by assumption) _) (fun hHeld2 => ?_)
            clear hK K
            refine wpAnyH_ready (rs := [2]) (by kernel_rfl) (by simp) ?_
            refine AllReadyH.cons rfl (fun K hK => ?_) ?_
            · go_simp
              go_wp2_with (go_at_call 52; refine (rT _).mono ?_; rintro e w' ⟨rfl, hw⟩; rw [hw]; clear hw w')
              refine hK.out _ _ (by assumption) (fun hHeld2 => ?_)
              clear hK K
              refine wpAnyH_ready (rs := [12]) (by kernel_rfl) (by simp) ?_
              refine AllReadyH.cons rfl (fun K hK => ?_) ?_
              · go_simp
                go_wp2_with (go_at_call 88; refine (rC _).mono ?_; rintro e w2 ⟨rfl, hb2⟩; refine keepK (n := w.heap.size + 1) hb2 ?_ ?_ (fun g => ?_); (· simp); (· exact mid_box _ _ _ _); obtain ⟨g0, g1, g2, g3, g4, g5, g6, g7, gl⟩ := g)
                refine hK.out _ _ (HoldF.later (by assumption) hb2) (fun hHeld2 => ?_)
                clear hK K
                refine wpAnyH_take (i := 13) (v := ?v13_14) rfl (by kernel_rfl) (by kernel_rfl) (by kernel_rfl) (fun _ _ _ h => h) (Or.inl ⟨by rfl, ?hy13_14⟩) (by assumption) ?rest13_14
                case hy13_14 =>
                  intro w' hSw
                  first | (go_simp; with_reducible rfl) | go_simp
                simp only [Act.put, List.setIfInBounds_toArray]
                refine wpAnyH_ready (rs := [15]) (by kernel_rfl) (by simp) ?_
                refine AllReadyH.cons rfl (fun K hK => ?_) ?_
                · go_simp
                  refine hK.out _ _ (by first | (exact ((HoldF.start _ _ _).later hb2).new _) | (exact HoldF.stored (by assumption) (by omega) _ _ _ _)) (fun hHeld2 => ?_)
                  clear hK K
                  refine wpAnyH_done (by kernel_rfl) ?_ _
                  go_wp2_with fail
                  go_meet
                  case rel => exact ⟨_, rfl, parts_end (by assumption) (by first | exact box4_new _ _ _ _ _ _ | exact box4_stored ⟨g0, g1, g2, g3, g4, g5, g6, g7, gl⟩)⟩
                exact AllReadyH.nil
              exact AllReadyH.nil
            exact AllReadyH.nil
          exact AllReadyH.nil
        case rest =>
          obtain ⟨n6, rfl, b1, b2, B⟩ := hcut
          clear rT rC rN rS rR a4 a5
          have b2' := b2
          obtain ⟨p0, p1, p2, p3, _, _, _, _, pl⟩ := b2'
          go_wp2_with fail
          refine (rI _).mono ?_
          rintro e w1 ⟨rfl, hb1⟩
          have B1 := below_on B hb1
          obtain ⟨q0, q1, q2, q3, f0, f1, f2, f3, ql⟩ := b1.later hb1
          obtain ⟨d0, d1, d2, d3, _, _, _, _, dl⟩ := b2.later hb1
          clear p0 p1 p2 p3 pl hb1 b1 b2 B
          cases ok with
          | false =>
            go_wp2
            exact bodyPost_ret (v := .tuple #[.agg zero4, .int .i64 0]) (by simp [results, Try.results67, go_sem, q0, q1, q2, q3]) rfl ⟨(HN.out (by trivial)).symm, below_four B1 (Nat.le_refl _) _ _ _ _⟩
          | true =>
            go_wp2
            exact bodyPost_ret (v := .tuple #[.agg #[.int .i64 (T : Int), .int .i64 (K : Int), .int .i64 (P : Int), .string (b.extract 8 E4)], .int .i64 (E5 : Int)]) (by simp [results, Try.results67, go_sem, q0, q1, q2, q3]) rfl ⟨(HY.out (by trivial)).symm, below_four B1 (Nat.le_refl _) _ _ _ _⟩
      · have hbn : (X != Y) = true := by rw [bne_iff_ne]; exact hxy
        obtain ⟨e1, e2⟩ := frRec_no (b := b) (by rw [hfs, hsum, decide_eq_false hxy]; rfl)
        rw [e1, e2]
        clear hfs hsum hwh hxy e1 e2 h4 h5
        generalize bodyN b = n at *
        go_enter Try.func67, Try.ntmps67
        go_wp2_with (go_at_call 52; refine (rN _).mono ?_; rintro e w' ⟨rfl, hw⟩; rw [hw]; clear hw w')
        go_quiet ((first | (go_at_call 52; exact Calls.quiet_of_same (rR _)) | (go_at_call 87; exact Calls.quiet_of_same (rS _))))
        go_wp2
        exact bodyPost_ret (v := .tuple #[.agg #[.int .i64 0, .int .i64 0, .int .i64 0, .string ⟨#[]⟩], .int .i64 0]) (by simp [results, Try.results67, go_sem]) rfl ⟨rfl, below_four (below_drewN (below_new _ _) _) (Nat.le_refl _) _ _ _ _⟩

end Go.Proofs.Yteoacdkgicfomaa
/-
  A slice of numbers that came in, as a row.
-/
namespace Go.Proofs.Yteoacdkgicfomaa
open Go.ChangeShapes Go.WideShapes Go.ChangeAt Go.RowKit
open Rl

theorem laidOut : laidOutB Try.prog = true := by kernel_rfl

theorem inI64_wf {n : Int} (h : (Lit.int .i64 n).wf = true) : inI64 n := by
  have e1 : IntKind.i64.min = -9223372036854775808 := by decide
  have e2 : IntKind.i64.max = 9223372036854775807 := by decide
  simp [Lit.wf] at h
  unfold inI64
  omega

theorem opened_ints {H : Type} {enc : TypeId × Value → H} {W : World} {a : Option Addr} {len cap fuel : Nat} {x : DataW H × List MemPlace}
    (h : DataW.trod enc Try.prog W 0 (fun _ => true) true fuel 40 [.slice a len cap] = some x) :
    ∃ l : List Int, l.length = len ∧ RowAt W (.slice a l.length cap) l.length 1 (ints l) ∧ (∀ c ∈ l, inI64 c) ∧ l.length ≤ 9223372036854775807 := by
  have cellsI : Try.prog.cellsOf 3 = 1 := by kernel_rfl
  rcases ChangeShapes.open_ints Try.underlying40 Try.underlying3 cellsI h with ⟨hcs, rfl⟩ | ⟨a', len', cap', zs, hcs, _, hl, hm, hz, rfl, hx, hwf⟩
  · simp only [List.cons.injEq, Value.slice.injEq, and_true] at hcs
    obtain ⟨rfl, rfl, rfl⟩ := hcs
    exact ⟨[], rfl, RowAt.nil _ _ _ _, by simp, by simp⟩
  · simp only [List.cons.injEq, Value.slice.injEq, and_true] at hcs
    obtain ⟨rfl, rfl, rfl⟩ := hcs
    simp only [if_true] at hz
    have hlen : (zs.take len).length = len := by simp; omega
    refine ⟨zs.take len, hlen, ?_, ?_, ?_⟩
    · rw [hlen]
      refine ⟨by simp [ints]; omega, ?_⟩
      by_cases h0 : len = 0
      · subst h0; exact .inl ⟨_, _, rfl, rfl⟩
      · have hc0 := hx 0 (by omega)
        have hsp := World.cell?_spot hc0
        obtain ⟨b, o, spot⟩ := a'
        have hspot : spot = none := by simpa [Addr.add] using hsp
        subst hspot
        have hadd : ∀ j, (⟨b, o, none⟩ : Addr).add j = ⟨b, o + j, none⟩ := by intro j; unfold Addr.add; split <;> simp_all
        refine .inr ⟨b, o, cap, rfl, by omega, ?_, ?_⟩
        · have := World.block_lt_of_cell? _ _ hc0
          rw [hadd] at this
          exact this
        · intro j u hu
          unfold ints at hu
          rw [List.getElem?_map] at hu
          obtain ⟨z, hz1, rfl⟩ := Option.map_eq_some_iff.1 hu
          have hj : j < len := by
            have := (List.getElem?_eq_some_iff.1 hz1).1
            omega
          have hc := hx j (by omega)
          rw [hadd] at hc
          rw [List.getElem?_take_of_lt hj] at hz1
          rw [hc, List.getD_eq_getElem?_getD, hz1]
          rfl
    · intro c hc
      exact inI64_wf (hwf c (List.mem_of_mem_take hc))
    · rw [hlen]
      have : maxLen = 9223372036854775807 := by decide
      omega

end Go.Proofs.Yteoacdkgicfomaa
/-
  What the bound of the second form gives: of a text and a slice that are handed over together.
-/
namespace Go.Proofs.Yteoacdkgicfomaa
namespace Rl

theorem bulk_pos {H : Type} (d : DataW H) : 1 ≤ Rows.uptoBulk d := by
  cases d with
  | lit l => cases l <;> simp [Rows.uptoBulk]
  | nil => simp [Rows.uptoBulk]
  | ptr d => simp [Rows.uptoBulk]
  | slice elems spare => simp [Rows.uptoBulk]
  | agg parts => simp [Rows.uptoBulk]
  | iface t d => simp [Rows.uptoBulk]
  | map entries => simp [Rows.uptoBulk]
  | held h => simp [Rows.uptoBulk]

theorem bulk_len {H : Type} (l : List (DataW H)) : l.length ≤ Rows.uptoBulkAll l := by
  induction l with
  | nil => simp [Rows.uptoBulkAll]
  | cons x r ih => have := bulk_pos x; simp only [Rows.uptoBulkAll, List.length_cons]; omega

theorem bulk_bound {H : Type} {l : List (DataW H)} (hk : Rows.uptoSmall H l = true) : Rows.uptoBulkAll l ≤ 1048576 := of_decide_eq_true hk

theorem bulk_string {H : Type} (b : List UInt8) (r : List (DataW H)) (h : Rows.uptoBulkAll (DataW.lit (.string b) :: r) ≤ 1048576) : b.length ≤ 1048576 ∧ Rows.uptoBulkAll r ≤ 1048576 := by
  simp only [Rows.uptoBulkAll, Rows.uptoBulk] at h; omega

theorem bulk_slice {H : Type} (es sp : List (DataW H)) (r : List (DataW H)) (h : Rows.uptoBulkAll (DataW.slice es sp :: r) ≤ 1048576) : es.length ≤ 1048576 := by
  simp only [Rows.uptoBulkAll, Rows.uptoBulk] at h
  have := bulk_len es
  omega

end Rl
end Go.Proofs.Yteoacdkgicfomaa
