/-
  routelogref.isRecord, walked: which records may be.
-/
import Derived.Test.YteoacdkgicfomaaT1
import Derived.Test.YteoacdkgicfomaaRows
namespace Go.Proofs.Yteoacdkgicfomaa
open Go.RowKit
open Rl

set_option maxRecDepth 20000 in
set_option maxHeartbeats 8000000 in
theorem isRecordRef_any (t k p : Nat) (b : ByteArray) (w : World) (hs : b.size ≤ 1048576) (hk : k < 256) (hp : p < 256) :
    Calls Try.prog 69 #[.agg #[.int .i64 (t : Int), .int .i64 (k : Int), .int .i64 (p : Int), .string b]] w fun e w' => e = .returned (.bool (recOk k p b)) ∧ Below w.heap.size w w' := by
  by_cases h6 : 6 ≤ p
  · rw [recOk_peer k p b h6]
    have hg : (6 : Int) ≤ (p : Int) := by omega
    go_enter Try.func69, Try.ntmps69
    go_wp2
    go_ret
    exact ⟨rfl, below_new _ _⟩
  · have hg : ¬ (6 : Int) ≤ (p : Int) := by omega
    have hbx := box4_new w (.int .i64 (t : Int)) (.int .i64 (k : Int)) (.int .i64 (p : Int)) (.string b) 57
    have bn := below_new w (.cells #[.int .i64 (t : Int), .int .i64 (k : Int), .int .i64 (p : Int), .string b] 57)
    by_cases k1 : k = 1
    · subst k1
      rw [recOk_msg p b h6]
      have hu := fun w => updateRef_any b w (by unfold maxLen; omega)
      generalize upd b = u at *
      obtain ⟨E, g, a, T⟩ := u
      go_enter Try.func69, Try.ntmps69
      go_wp2_with fail
      refine (hu _).mono ?_
      rintro e w1 ⟨v1, v2, rfl, hb1, o1, o2, _⟩
      obtain ⟨a1, c1, rfl⟩ := slice_of_owns o1
      obtain ⟨a2, c2, rfl⟩ := slice_of_owns o2
      have B1 := below_on bn hb1
      go_wp2
      go_ret
      exact ⟨ret_bool' (by rw [Bool.eq_iff_iff]; simp), below_on B1 (below_new _ _)⟩
    · by_cases k4 : k = 4
      · subst k4
        rw [recOk_route p b h6]
        have hr := fun w => entry_any b w hs
        obtain ⟨A, L, S, hF⟩ := enOf_form b
        rw [hF] at hr
        clear hF
        generalize rtOk b = c at *
        go_enter Try.func69, Try.ntmps69
        go_wp2_with fail
        refine (hr _).mono ?_
        rintro e w1 ⟨rfl, hb1⟩
        have B1 := below_on bn hb1
        go_wp2
        go_ret
        exact ⟨rfl, below_on B1 (below_new _ _)⟩
      · have em := isEmpty_size b
        by_cases k2 : k = 2
        · subst k2
          rw [recOk_up p b h6]
          obtain ⟨z, hz⟩ : ∃ z, z = decide (b.size = 0) := ⟨_, rfl⟩
          rw [← hz] at em ⊢
          clear hz
          go_enter Try.func69, Try.ntmps69
          go_wp2
          go_ret
          exact ⟨rfl, below_new _ _⟩
        · by_cases k3 : k = 3
          · subst k3
            rw [recOk_down p b h6]
            obtain ⟨z, hz⟩ : ∃ z, z = decide (b.size = 0) := ⟨_, rfl⟩
            rw [← hz] at em ⊢
            clear hz
            go_enter Try.func69, Try.ntmps69
            go_wp2
            go_ret
            exact ⟨rfl, below_new _ _⟩
          · by_cases k56 : k = 5 ∨ k = 6
            · rw [recOk_head k p b h6 k56]
              obtain ⟨z, hz⟩ : ∃ z, z = decide (p = 0 ∧ b.size = 0) := ⟨_, rfl⟩
              rw [← hz]
              by_cases p0 : p = 0
              · by_cases b0 : b.size = 0
                · have ez : z = true := by rw [hz, decide_eq_true ⟨p0, b0⟩]
                  rw [decide_eq_true b0] at em
                  have hp0 : ((p : Int) == 0) = true := by rw [p0]; rfl
                  subst ez
                  clear hz
                  rcases k56 with k5 | k5
                  · subst k5
                    go_enter Try.func69, Try.ntmps69
                    go_wp2
                    go_ret
                    exact ⟨rfl, below_new _ _⟩
                  · subst k5
                    go_enter Try.func69, Try.ntmps69
                    go_wp2
                    go_ret
                    exact ⟨rfl, below_new _ _⟩
                · have ez : z = false := by rw [hz, decide_eq_false fun h => b0 h.2]
                  rw [decide_eq_false b0] at em
                  have hp0 : ((p : Int) == 0) = true := by rw [p0]; rfl
                  subst ez
                  clear hz
                  rcases k56 with k5 | k5
                  · subst k5
                    go_enter Try.func69, Try.ntmps69
                    go_wp2
                    go_ret
                    exact ⟨rfl, below_new _ _⟩
                  · subst k5
                    go_enter Try.func69, Try.ntmps69
                    go_wp2
                    go_ret
                    exact ⟨rfl, below_new _ _⟩
              · have ez : z = false := by rw [hz, decide_eq_false fun h => p0 h.1]
                have hp0 : ((p : Int) == 0) = false := by rw [beq_eq_false_iff_ne]; omega
                subst ez
                clear hz
                generalize decide (b.size = 0) = y at *
                cases y with
                | true =>
                  rcases k56 with k5 | k5
                  · subst k5
                    go_enter Try.func69, Try.ntmps69
                    go_wp2
                    go_ret
                    exact ⟨rfl, below_new _ _⟩
                  · subst k5
                    go_enter Try.func69, Try.ntmps69
                    go_wp2
                    go_ret
                    exact ⟨rfl, below_new _ _⟩
                | false =>
                  rcases k56 with k5 | k5
                  · subst k5
                    go_enter Try.func69, Try.ntmps69
                    go_wp2
                    go_ret
                    exact ⟨rfl, below_new _ _⟩
                  · subst k5
                    go_enter Try.func69, Try.ntmps69
                    go_wp2
                    go_ret
                    exact ⟨rfl, below_new _ _⟩
            · rw [recOk_none k p b h6 (by omega)]
              have n1 : ((k : Int) == 1) = false := by rw [beq_eq_false_iff_ne]; omega
              have n2 : ((k : Int) == 2) = false := by rw [beq_eq_false_iff_ne]; omega
              have n3 : ((k : Int) == 3) = false := by rw [beq_eq_false_iff_ne]; omega
              have n4 : ((k : Int) == 4) = false := by rw [beq_eq_false_iff_ne]; omega
              have n5 : ((k : Int) == 5) = false := by rw [beq_eq_false_iff_ne]; omega
              have n6 : ((k : Int) == 6) = false := by rw [beq_eq_false_iff_ne]; omega
              clear k1 k4 k2 k3 k56
              go_enter Try.func69, Try.ntmps69
              go_wp2
              go_ret
              exact ⟨rfl, below_new _ _⟩

end Go.Proofs.Yteoacdkgicfomaa
/-
  routelogref.first, walked: the record that begins a text.
-/
namespace Go.Proofs.Yteoacdkgicfomaa
open Go.RowKit
open Rl

theorem box4_at {X : World} {n : Nat} (h : X.heap.size = n) (a b c d : Value) (T : TypeId) : Box4 (X.alloc (.cells #[a, b, c, d] T)) n a b c d := by
  have h1 := box4_new X a b c d T
  rw [h] at h1
  exact h1

set_option maxRecDepth 20000 in
set_option maxHeartbeats 40000000 in
theorem firstRef_any (b : ByteArray) (w : World) (hs : b.size ≤ 2097152) :
    Calls Try.prog 49 #[.string b] w fun e w' => e = .returned (.tuple #[recAgg (frRec b), .int .i64 (frLen b : Int)]) ∧ Below w.heap.size w w' := by
  by_cases h8 : b.size < 12
  · obtain ⟨e1, e2⟩ := frRec_no (firstR_short (b := b) (by omega))
    rw [e1, e2]
    have hlt : (b.size : Int) < 12 := by omega
    go_enter Try.func49, Try.ntmps49
    go_wp2
    exact bodyPost_ret (v := .tuple #[.agg #[.int .i64 0, .int .i64 0, .int .i64 0, .string ⟨#[]⟩], .int .i64 0]) (by simp [results, Try.results49, go_sem]) rfl ⟨rfl, below_new _ _⟩
  · have hlt : ¬ (b.size : Int) < 12 := by omega
    have k8 : (8 : Int) ≤ (b.size : Int) := by omega
    have rN := fun w => number_any (b.extract 6 8) w (by rw [ByteArray.size_extract]; omega)
    rw [← bodyN_cast b] at rN
    have hn := bodyN_lt b
    by_cases hw : b.size < 12 + bodyN b
    · obtain ⟨e1, e2⟩ := frRec_no (firstR_short (.inr hw))
      rw [e1, e2]
      generalize bodyN b = n at *
      have hd : decide ((b.size : Int) < 12 + (n : Int)) = true := decide_eq_true (by omega)
      go_enter Try.func49, Try.ntmps49
      go_wp2_with (go_at_call 34; refine (rN _).mono ?_; rintro e w' ⟨rfl, hw⟩; rw [hw]; clear hw w')
      go_quiet (fail)
      go_wp2
      exact bodyPost_ret (v := .tuple #[.agg #[.int .i64 0, .int .i64 0, .int .i64 0, .string ⟨#[]⟩], .int .i64 0]) (by simp [results, Try.results49, go_sem]) rfl ⟨rfl, below_four (below_drewN (below_new _ _) _) (Nat.le_refl _) _ _ _ _⟩
    · obtain ⟨E4, h4⟩ : ∃ E4, E4 = 8 + bodyN b := ⟨_, rfl⟩
      obtain ⟨E5, h5⟩ : ∃ E5, E5 = 12 + bodyN b := ⟨_, rfl⟩
      have i4 : 12 + (bodyN b : Int) = (E5 : Int) := by omega
      have i5 : (E5 : Int) - 4 = (E4 : Int) := by omega
      have i6 : IntKind.i64.wrap (E4 : Int) = (E4 : Int) := by rw [IntKind.wrap_i64]; omega
      have i7 : wrap64 (E4 : Int) = (E4 : Int) := wrap64_in' _ (by omega) (by omega)
      have b4 : E4 ≤ b.size := by omega
      have b5 : E5 ≤ b.size := by omega
      have l45 : E4 ≤ E5 := by omega
      have l84 : 8 ≤ E4 := by omega
      have hd : decide ((b.size : Int) < (E5 : Int)) = false := decide_eq_false (by omega)
      have rS := fun w => refSum_any (b.extract 0 E4) w (by rw [ByteArray.size_extract]; unfold maxLen; omega)
      have rR := fun w => number_any (b.extract E4 E5) w (by rw [ByteArray.size_extract]; omega)
      have hsum : sumR b = decide (num ((b.extract E4 E5).data.toList) = (crc ((b.extract 0 E4).data.toList) : Int)) := by rw [h4, h5]; rfl
      have hwh : wholeR b = true := by unfold wholeR; rw [decide_eq_true_iff]; omega
      have hfs : firstR b = (sumR b && recOk (headR b).kind (headR b).peer (headR b).body) := by unfold firstR; rw [hwh, Bool.true_and]
      have hX := num_nonneg ((b.extract E4 E5).data.toList)
      generalize num ((b.extract E4 E5).data.toList) = X at *
      generalize (crc ((b.extract 0 E4).data.toList) : Int) = Y at *
      by_cases hxy : X = Y
      · have hbn : (Y != X) = false := by rw [bne_eq_false_iff_eq]; exact hxy.symm
        rw [hsum, decide_eq_true hxy, Bool.true_and] at hfs
        clear hsum hwh hX
        have rT := fun w => number_any (b.extract 0 4) w (by rw [ByteArray.size_extract]; omega)
        rw [← recTime_cast b] at rT
        have a4 : (b[4].toNat : Int) = (at8 b.data.toList 4 : Int) := at8_bytes b 4 (by omega)
        have a5 : (b[5].toNat : Int) = (at8 b.data.toList 5 : Int) := at8_bytes b 5 (by omega)
        have l4 := at8_lt b.data.toList 4
        have l5 := at8_lt b.data.toList 5
        have rI := fun w => isRecordRef_any (recTime b) (at8 b.data.toList 4) (at8 b.data.toList 5) (b.extract 8 E4) w (by rw [ByteArray.size_extract]; omega) l4 l5
        have hR : headR b = ⟨recTime b, at8 b.data.toList 4, at8 b.data.toList 5, b.extract 8 E4⟩ := by rw [h4]; rfl
        have hL : 12 + bodyN b = E5 := h5.symm
        rw [hR] at hfs
        simp only at hfs
        rw [← hfs] at rI
        have HY : Hid (firstR b = true → Ending.returned (.tuple #[recAgg (frRec b), .int .i64 (frLen b : Int)]) = .returned (.tuple #[.agg #[.int .i64 (recTime b : Int), .int .i64 (at8 b.data.toList 4 : Int), .int .i64 (at8 b.data.toList 5 : Int), .string (b.extract 8 E4)], .int .i64 (E5 : Int)])) := fun h => by rw [(frRec_yes h).1, (frRec_yes h).2, hR, hL]; rfl
        have HN : Hid (firstR b = false → Ending.returned (.tuple #[recAgg (frRec b), .int .i64 (frLen b : Int)]) = .returned (.tuple #[.agg zero4, .int .i64 0])) := fun h => by rw [(frRec_no h).1, (frRec_no h).2]; rfl
        obtain ⟨R, hRR⟩ : ∃ R, R = Ending.returned (.tuple #[recAgg (frRec b), .int .i64 (frLen b : Int)]) := ⟨_, rfl⟩
        rw [← hRR] at HY HN ⊢
        clear hRR hR hL hfs h4 h5 hxy
        generalize bodyN b = n at *
        generalize firstR b = ok at *
        generalize recTime b = T at *
        generalize at8 b.data.toList 4 = K at *
        generalize at8 b.data.toList 5 = P at *
        have w4 : IntKind.i64.wrap (K : Int) = (K : Int) := by rw [IntKind.wrap_i64]; omega
        have w5 : IntKind.i64.wrap (P : Int) = (P : Int) := by rw [IntKind.wrap_i64]; omega
        go_enter Try.func49, Try.ntmps49
        go_wp2_with (go_at_call 34; refine (rN _).mono ?_; rintro e w' ⟨rfl, hw⟩; rw [hw]; clear hw w')
        go_quiet ((first | (go_at_call 34; exact Calls.quiet_of_same (rR _)) | (go_at_call 68; exact Calls.quiet_of_same (rS _))))
        go_upto_region 6 with fail
        go_cut [5] (fun s6 wx => ∃ n6, s6 = .pointer (some ⟨n6, 0, none⟩) ∧ Box4 wx w.heap.size (.int .i64 0) (.int .i64 0) (.int .i64 0) (.string ⟨#[]⟩) ∧ Box4 wx n6 (.int .i64 T) (.int .i64 K) (.int .i64 P) (.string (b.extract 8 E4)) ∧ Below w.heap.size w wx)
        case first =>
          have n4 : 4 < b.size := by omega
          have n5 : 5 < b.size := by omega
          have n6 : 4 ≤ b.size := by omega
          have j4 : (4 : Int) < (b.size : Int) := by omega
          have j5 : (5 : Int) < (b.size : Int) := by omega
          have j6 : (4 : Int) ≤ (b.size : Int) := by omega
          have j7 : (8 : Int) ≤ (E4 : Int) := by omega
          have j8 : (E4 : Int) ≤ (b.size : Int) := by omega
          clear rI rR rS rN HY HN hd
          go_region_held (fun w' => HoldF w w')
            (first | assumption | (exact (HoldF.start _ _ _).drew) | (exact HoldF.new (by assumption) _) | (exact HoldF.new (HoldF.start _ _ _) _) | (exact HoldF.stored (by assumption) (by omega) _ _ _ _))
            (first | (go_at_call 34; refine (rT _).mono ?_; rintro e w' ⟨rfl, hw⟩; rw [hw]; clear hw w'))
          all_goals
            go_wp2_with fail
            go_meet
            case rel => exact ⟨_, rfl, parts_end (by assumption) (box4_at (by simp) _ _ _ _ _)⟩
        case rest =>
          obtain ⟨n6, rfl, b1, b2, B⟩ := hcut
          clear rT rN rS rR a4 a5
          have b2' := b2
          obtain ⟨p0, p1, p2, p3, _, _, _, _, pl⟩ := b2'
          go_wp2_with fail
          refine (rI _).mono ?_
          rintro e w1 ⟨rfl, hb1⟩
          have B1 := below_on B hb1
          obtain ⟨q0, q1, q2, q3, f0, f1, f2, f3, ql⟩ := b1.later hb1
          obtain ⟨d0, d1, d2, d3, _, _, _, _, dl⟩ := b2.later hb1
          clear p0 p1 p2 p3 pl hb1 b1 b2 B
          cases ok with
          | false =>
            go_wp2
            exact bodyPost_ret (v := .tuple #[.agg zero4, .int .i64 0]) (by simp [results, Try.results49, go_sem, q0, q1, q2, q3]) rfl ⟨(HN.out (by trivial)).symm, below_four B1 (Nat.le_refl _) _ _ _ _⟩
          | true =>
            go_wp2
            exact bodyPost_ret (v := .tuple #[.agg #[.int .i64 (T : Int), .int .i64 (K : Int), .int .i64 (P : Int), .string (b.extract 8 E4)], .int .i64 (E5 : Int)]) (by simp [results, Try.results49, go_sem, q0, q1, q2, q3]) rfl ⟨(HY.out (by trivial)).symm, below_four B1 (Nat.le_refl _) _ _ _ _⟩
      · have hbn : (Y != X) = true := by rw [bne_iff_ne]; exact fun e => hxy e.symm
        obtain ⟨e1, e2⟩ := frRec_no (b := b) (by rw [hfs, hsum, decide_eq_false hxy]; rfl)
        rw [e1, e2]
        clear hfs hsum hwh hxy e1 e2 h4 h5
        generalize bodyN b = n at *
        go_enter Try.func49, Try.ntmps49
        go_wp2_with (go_at_call 34; refine (rN _).mono ?_; rintro e w' ⟨rfl, hw⟩; rw [hw]; clear hw w')
        go_quiet ((first | (go_at_call 34; exact Calls.quiet_of_same (rR _)) | (go_at_call 68; exact Calls.quiet_of_same (rS _))))
        go_wp2
        exact bodyPost_ret (v := .tuple #[.agg #[.int .i64 0, .int .i64 0, .int .i64 0, .string ⟨#[]⟩], .int .i64 0]) (by simp [results, Try.results49, go_sem]) rfl ⟨rfl, below_four (below_drewN (below_new _ _) _) (Nat.le_refl _) _ _ _ _⟩

end Go.Proofs.Yteoacdkgicfomaa
/-
  What the bound of the second form gives: of a text and a slice that are handed over together.
-/
namespace Go.Proofs.Yteoacdkgicfomaa
namespace Rl

theorem bulk_pos {H : Type} (d : DataW H) : 1 ≤ Rows.uptoBulk d := by
  cases d with
  | lit l => cases l <;> simp [Rows.uptoBulk]
  | nil => simp [Rows.uptoBulk]
  | ptr d => simp [Rows.uptoBulk]
  | slice elems spare => simp [Rows.uptoBulk]
  | agg parts => simp [Rows.uptoBulk]
  | iface t d => simp [Rows.uptoBulk]
  | map entries => simp [Rows.uptoBulk]
  | held h => simp [Rows.uptoBulk]

theorem bulk_len {H : Type} (l : List (DataW H)) : l.length ≤ Rows.uptoBulkAll l := by
  induction l with
  | nil => simp [Rows.uptoBulkAll]
  | cons x r ih => have := bulk_pos x; simp only [Rows.uptoBulkAll, List.length_cons]; omega

theorem bulk_bound {H : Type} {l : List (DataW H)} (hk : Rows.uptoSmall H l = true) : Rows.uptoBulkAll l ≤ 1048576 := of_decide_eq_true hk

theorem bulk_string {H : Type} (b : List UInt8) (r : List (DataW H)) (h : Rows.uptoBulkAll (DataW.lit (.string b) :: r) ≤ 1048576) : b.length ≤ 1048576 ∧ Rows.uptoBulkAll r ≤ 1048576 := by
  simp only [Rows.uptoBulkAll, Rows.uptoBulk] at h; omega

theorem bulk_slice {H : Type} (es sp : List (DataW H)) (r : List (DataW H)) (h : Rows.uptoBulkAll (DataW.slice es sp :: r) ≤ 1048576) : es.length ≤ 1048576 := by
  simp only [Rows.uptoBulkAll, Rows.uptoBulk] at h
  have := bulk_len es
  omega

end Rl
end Go.Proofs.Yteoacdkgicfomaa
