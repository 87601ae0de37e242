/-
  routelogref.canonical, walked: the attributes of a canonical text; false, if it is none.
-/
import Derived.Test.YteoacdkgicfomaaNeeded
import Derived.Test.YteoacdkgicfomaaCanonMath
import Derived.OwnWalk
namespace Go.Proofs.Yteoacdkgicfomaa
open Go.RowKit
open Rl

theorem info_attrRef : (Try.prog.info? 81).map (fun i => (i.zero, i.size, i.bytes)) = some (some (.agg #[.int .i64 0, .int .i64 0, .string ⟨#[]⟩]), 3, 32) := by kernel_rfl

theorem lenRef_call (t : ByteArray) (w : World) :
    Calls Try.prog 34 #[.string (t.extract 2 4)] w fun e w' => e = .returned (.int .i64 (lenC t : Int)) ∧ w' = w := by
  refine (number_any _ w (by rw [ByteArray.size_extract]; omega)).mono ?_
  rintro e w' ⟨he, hw⟩
  exact ⟨by rw [he]; unfold lenC; rw [lenZ_cast], hw⟩

theorem whole_false (t : ByteArray) (h : wholeZ 2 t = false) : ¬ (4 ≤ t.size ∧ 4 + lenC t ≤ t.size) := by
  unfold wholeZ at h; rw [decide_eq_false_iff_not] at h; exact h
theorem whole_true (t : ByteArray) (h : wholeZ 2 t = true) : 4 ≤ t.size ∧ 4 + lenC t ≤ t.size := by
  unfold wholeZ at h; rw [decide_eq_true_iff] at h; exact h

theorem ret_two {v : Value} {a b : Bool} (h : b = a) : Ending.returned (.tuple #[v, .bool a]) = .returned (.tuple #[v, .bool b]) := by rw [h]

theorem needEq (n : Nat) : (n == 3) = ((n : Int) == 3) := by rw [Bool.eq_iff_iff]; simp; omega

set_option maxRecDepth 20000 in
set_option maxHeartbeats 16000000 in
theorem canonical_any (s : ByteArray) (w : World) (hs : s.size ≤ 1048576) :
    Calls Try.prog 42 #[.string s] w fun e w' => ∃ v, e = .returned (.tuple #[v, .bool (canB s)]) ∧ Below w.heap.size w w' ∧ (canB s = true → w'.ownsRow w.heap.size 81 3 v (canL s).length (atCells (canL s)) ∧ (canL s).length ≤ s.size) := by
  obtain ⟨i0, hi, hz0, hz1, hz2⟩ := info_parts info_attrRef
  go_enter Try.func42, Try.ntmps42
  go_wp2
  go_loopw [0, 4, 5, 6] (fun x l c p wr => ∃ (t : ByteArray) (last : Int) (xs : List At) (lv : Value), lv = l ∧ x = .string t ∧ p = .int .i64 last ∧ c = .int .i64 (needN xs) ∧ -1 ≤ last ∧ last < 256 ∧ t.size + 4 * xs.length ≤ s.size ∧ ReadTo s t last xs ∧ wr.ownsRow w.heap.size 81 3 lv xs.length (atCells xs) ∧ Below w.heap.size w wr) (fun x _ _ _ _ => strLen x)
  case atStart => exact ⟨s, -1, [], _, rfl, rfl, rfl, rfl, by omega, by omega, by simp, readTo_start s, World.ownsRow_nil _ _ _ _, Below.refl _ _⟩
  case round =>
    obtain ⟨t, last, xs, lv, rfl, rfl, rfl, rfl, hl0, hl1, hsz, hread, hown, hbel⟩ := hrel
    have HR := hide hread
    clear hread
    have htm : t.size ≤ maxLen := by unfold maxLen; omega
    have hnl := needN_le xs
    have hnum := fun w => lenRef_call t w
    by_cases h0 : t.size = 0
    · have hem : t.toList.isEmpty = true := by rw [isEmpty_size]; simp [h0]
      have HE := hide (readTo_end HR.out h0)
      clear h0
      go_wp2
      go_ret2
      refine ⟨lv, ?_, hbel, fun _ => ?_⟩
      · exact ret_two (by rw [HE.out.1, needEq])
      · rw [HE.out.2]; exact ⟨hown, by omega⟩
    · have hem : t.toList.isEmpty = false := by rw [isEmpty_size]; simp [h0]
      have H0 := hide h0
      clear h0
      cases hw : wholeZ 2 t with
      | false =>
        have HB := hide (readTo_fail HR.out H0.out (canOk_false_whole t last hw))
        have hwf := whole_false t hw
        have hlC : lenC t < 65536 := lenZ_lt 2 t (by omega)
        generalize lenC t = n at *
        by_cases h4 : t.size < 4
        · clear hwf
          go_wp2
          go_ret2
          refine ⟨.slice none 0 0, ?_, hbel, fun h => ?_⟩
          · rw [HB.out]; rfl
          · rw [HB.out] at h; exact absurd h (by simp)
        · have h5 : t.size < 4 + n := by omega
          clear hwf
          go_wp2_with (go_at_call 34; refine (hnum _).mono ?_; rintro e w' ⟨rfl, hw⟩; rw [hw]; clear hw w')
          go_ret2
          refine ⟨.slice none 0 0, ?_, hbel, fun h => ?_⟩
          · rw [HB.out]; rfl
          · rw [HB.out] at h; exact absurd h (by simp)
      | true =>
        obtain ⟨hw4, hwn⟩ := whole_true t hw
        have hrs := restC_size t hw
        have hb0 := at8_bytes t 0 (by omega)
        have hb1 := at8_bytes t 1 (by omega)
        have hl0' := at8_lt t.data.toList 0
        have hl1' := at8_lt t.data.toList 1
        have hx0 : (0 : Int) < (t.size : Int) := by omega
        have hx1 : (1 : Int) < (t.size : Int) := by omega
        have hlC : lenC t < 65536 := lenZ_lt 2 t (by omega)
        have hvs : (t.extract 4 (4 + lenC t)).size ≤ maxLen := by rw [ByteArray.size_extract]; unfold maxLen; omega
        have HH : Hid (headC t = ⟨at8 t.data.toList 0, at8 t.data.toList 1, t.extract 4 (4 + lenC t)⟩) := rfl
        have HF := hide (readTo_fail HR.out H0.out)
        have HL := hide (canOk_false_last t last)
        have HA := hide (canOk_false_at t last)
        have HT := hide (fun h2 h3 => readTo_step HR.out (canOk_true t last hw h2 h3))
        have HE : Hid (restC t = t.extract (4 + lenC t) t.size) := rfl
        rw [HE.out] at hrs HT
        rw [HH.out] at HL HA HT
        simp only at HL HA HT
        clear HH HE hw H0
        generalize at8 t.data.toList 0 = b0 at *
        generalize at8 t.data.toList 1 = b1 at *
        generalize lenC t = n at *
        go_wp2_with (go_at_call 34; refine (hnum _).mono ?_; rintro e w' ⟨rfl, hw⟩; rw [hw]; clear hw w')
        go_region
        clear hnum hb0 hb1 hx0 hx1 hwn hw4
        have hknown := fun w => known_any b1 w
        cases hkb : knownB b1 with
        | true =>
          have hright := fun w => right_any b1 (t.extract 4 (4 + n)) w hvs hkb
          have hg := flagsI_known b1 hkb
          rw [atOk_known _ _ _ hkb] at HA HT
          clear hkb
          generalize flagsI b1 = g at *
          generalize rightB b1 (t.extract 4 (4 + n)) = r at *
          have hg0 : 0 ≤ g := by omega
          clear hg
          by_cases hbg : (b0 : Int) = g
          · have eb : ((b0 : Int) != g) = false := by rw [bne_eq_false_iff_eq]; exact hbg
            rw [decide_eq_true hbg] at HA HT
            clear hbg
            cases r with
            | false =>
              have HB := hide (HF.out (HA.out rfl))
              clear HF HA HT HL
              go_wp2_with (first | (go_at_call 64; refine (hknown _).mono ?_; rintro e w' ⟨rfl, hw⟩; rw [hw]; clear hw w') | (go_at_call 65; refine (hright _).mono ?_; rintro e w' ⟨rfl, hw⟩; rw [hw]; clear hw w'))
              go_ret2
              refine ⟨.slice none 0 0, ret_two HB.out, below_drewN (n := 1) (hbel.alloc hbel.size _), fun h => ?_⟩
              rw [HB.out] at h; exact absurd h (by simp)
            | true =>
              by_cases hlast : (b1 : Int) ≤ last
              · have HB := hide (HF.out (HL.out hlast))
                clear HF HA HT HL
                go_wp2_with (first | (go_at_call 64; refine (hknown _).mono ?_; rintro e w' ⟨rfl, hw⟩; rw [hw]; clear hw w') | (go_at_call 65; refine (hright _).mono ?_; rintro e w' ⟨rfl, hw⟩; rw [hw]; clear hw w'))
                go_ret2
                refine ⟨.slice none 0 0, ret_two HB.out, below_drewN (n := 1) (hbel.alloc hbel.size _), fun h => ?_⟩
                rw [HB.out] at h; exact absurd h (by simp)
              · have HG := hide (HT.out (by omega) rfl)
                clear HF HA HT HL
                by_cases h13 : 1 ≤ b1 ∧ b1 ≤ 3
                · have HK := hide h13
                  obtain ⟨k1, k3⟩ := h13
                  go_wp2_with (first | (go_at_call 64; refine (hknown _).mono ?_; rintro e w' ⟨rfl, hw⟩; rw [hw]; clear hw w') | (go_at_call 65; refine (hright _).mono ?_; rintro e w' ⟨rfl, hw⟩; rw [hw]; clear hw w') | (at_builtin; refine wpList_append_own _ rfl _ _ 75 rfl w.heap.size 81 i0 (.agg #[.int .i64 0, .int .i64 0, .string ⟨#[]⟩]) 3 32 Try.underlying75 hi hz0 hz1 hz2 rfl (by decide) _ _ _ rfl ((hown.alloc _).alloc _).drew ⟨wr.heap.size + 1, 0, none⟩ 1 1 [.int .i64 (b0 : Int), .int .i64 (b1 : Int), .string (t.extract 4 (4 + n))] rfl rfl (cells_new2 _ _ _ _) (one3 _ _ _) (by unfold maxLen; omega) (by omega) (by have := hbel.size; simp; omega) ?_; intro v' w4 hown4 hgrow4 _))
                  refine ⟨⟨t.extract (4 + n) t.size, b1, xs ++ [⟨b0, b1, t.extract 4 (4 + n)⟩], v', rfl, rfl, rfl, needN_yes _ _ _ _ HK.out, by omega, by omega, by simp only [List.length_append, List.length_cons, List.length_nil]; omega, HG.out, ?_, below_app2 hbel hbel.size hown hgrow4⟩, by simp only [strLen]; omega⟩
                  rw [List.length_append, atCells_snoc]
                  exact hown4
                · have HK := hide h13
                  have k2 : b1 < 1 ∨ 3 < b1 := by omega
                  clear h13
                  rcases k2 with k2 | k2
                  all_goals
                    go_wp2_with (first | (go_at_call 64; refine (hknown _).mono ?_; rintro e w' ⟨rfl, hw⟩; rw [hw]; clear hw w') | (go_at_call 65; refine (hright _).mono ?_; rintro e w' ⟨rfl, hw⟩; rw [hw]; clear hw w') | (at_builtin; refine wpList_append_own _ rfl _ _ 75 rfl w.heap.size 81 i0 (.agg #[.int .i64 0, .int .i64 0, .string ⟨#[]⟩]) 3 32 Try.underlying75 hi hz0 hz1 hz2 rfl (by decide) _ _ _ rfl ((hown.alloc _).alloc _).drew ⟨wr.heap.size + 1, 0, none⟩ 1 1 [.int .i64 (b0 : Int), .int .i64 (b1 : Int), .string (t.extract 4 (4 + n))] rfl rfl (cells_new2 _ _ _ _) (one3 _ _ _) (by unfold maxLen; omega) (by omega) (by have := hbel.size; simp; omega) ?_; intro v' w4 hown4 hgrow4 _))
                    refine ⟨⟨t.extract (4 + n) t.size, b1, xs ++ [⟨b0, b1, t.extract 4 (4 + n)⟩], v', rfl, rfl, rfl, needN_no _ _ _ _ HK.out, by omega, by omega, by simp only [List.length_append, List.length_cons, List.length_nil]; omega, HG.out, ?_, below_app2 hbel hbel.size hown hgrow4⟩, by simp only [strLen]; omega⟩
                    rw [List.length_append, atCells_snoc]
                    exact hown4
          · have eb : ((b0 : Int) != g) = true := by rw [bne_iff_ne]; exact hbg
            have HB := hide (HF.out (HA.out (by simp [hbg])))
            clear hbg HF HA HT HL hright
            go_wp2_with (first | (go_at_call 64; refine (hknown _).mono ?_; rintro e w' ⟨rfl, hw⟩; rw [hw]; clear hw w'))
            go_ret2
            refine ⟨.slice none 0 0, ret_two HB.out, below_drewN (n := 1) (hbel.alloc hbel.size _), fun h => ?_⟩
            rw [HB.out] at h; exact absurd h (by simp)
        | false =>
          have hg := flagsI_unknown b1 hkb
          rw [hg] at hknown
          rw [atOk_unknown _ _ _ hkb] at HA HT
          clear hkb hg
          by_cases hlast : (b1 : Int) ≤ last
          · have HB := hide (HF.out (HL.out hlast))
            clear HF HA HT HL
            go_wp2_with (first | (go_at_call 64; refine (hknown _).mono ?_; rintro e w' ⟨rfl, hw⟩; rw [hw]; clear hw w'))
            go_ret2
            refine ⟨.slice none 0 0, ret_two HB.out, below_drewN (n := 1) (hbel.alloc hbel.size _), fun h => ?_⟩
            rw [HB.out] at h; exact absurd h (by simp)
          · by_cases h192 : (b0 : Int) = 192
            · have HG := hide (HT.out (by omega) (by simp [h192]))
              have e192 : ((b0 : Int) != 192) = false := by rw [bne_eq_false_iff_eq]; exact h192
              clear h192 HF HA HT HL
              by_cases h13 : 1 ≤ b1 ∧ b1 ≤ 3
              · have HK := hide h13
                obtain ⟨k1, k3⟩ := h13
                go_wp2_with (first | (go_at_call 64; refine (hknown _).mono ?_; rintro e w' ⟨rfl, hw⟩; rw [hw]; clear hw w') | (at_builtin; refine wpList_append_own _ rfl _ _ 75 rfl w.heap.size 81 i0 (.agg #[.int .i64 0, .int .i64 0, .string ⟨#[]⟩]) 3 32 Try.underlying75 hi hz0 hz1 hz2 rfl (by decide) _ _ _ rfl ((hown.alloc _).alloc _).drew ⟨wr.heap.size + 1, 0, none⟩ 1 1 [.int .i64 (b0 : Int), .int .i64 (b1 : Int), .string (t.extract 4 (4 + n))] rfl rfl (cells_new2 _ _ _ _) (one3 _ _ _) (by unfold maxLen; omega) (by omega) (by have := hbel.size; simp; omega) ?_; intro v' w4 hown4 hgrow4 _))
                refine ⟨⟨t.extract (4 + n) t.size, b1, xs ++ [⟨b0, b1, t.extract 4 (4 + n)⟩], v', rfl, rfl, rfl, needN_yes _ _ _ _ HK.out, by omega, by omega, by simp only [List.length_append, List.length_cons, List.length_nil]; omega, HG.out, ?_, below_app2 hbel hbel.size hown hgrow4⟩, by simp only [strLen]; omega⟩
                rw [List.length_append, atCells_snoc]
                exact hown4
              · have HK := hide h13
                have k2 : b1 < 1 ∨ 3 < b1 := by omega
                clear h13
                rcases k2 with k2 | k2
                all_goals
                  go_wp2_with (first | (go_at_call 64; refine (hknown _).mono ?_; rintro e w' ⟨rfl, hw⟩; rw [hw]; clear hw w') | (at_builtin; refine wpList_append_own _ rfl _ _ 75 rfl w.heap.size 81 i0 (.agg #[.int .i64 0, .int .i64 0, .string ⟨#[]⟩]) 3 32 Try.underlying75 hi hz0 hz1 hz2 rfl (by decide) _ _ _ rfl ((hown.alloc _).alloc _).drew ⟨wr.heap.size + 1, 0, none⟩ 1 1 [.int .i64 (b0 : Int), .int .i64 (b1 : Int), .string (t.extract 4 (4 + n))] rfl rfl (cells_new2 _ _ _ _) (one3 _ _ _) (by unfold maxLen; omega) (by omega) (by have := hbel.size; simp; omega) ?_; intro v' w4 hown4 hgrow4 _))
                  refine ⟨⟨t.extract (4 + n) t.size, b1, xs ++ [⟨b0, b1, t.extract 4 (4 + n)⟩], v', rfl, rfl, rfl, needN_no _ _ _ _ HK.out, by omega, by omega, by simp only [List.length_append, List.length_cons, List.length_nil]; omega, HG.out, ?_, below_app2 hbel hbel.size hown hgrow4⟩, by simp only [strLen]; omega⟩
                  rw [List.length_append, atCells_snoc]
                  exact hown4
            · by_cases h224 : (b0 : Int) = 224
              · have HG := hide (HT.out (by omega) (by simp [h224]))
                have e192 : ((b0 : Int) != 192) = true := by rw [bne_iff_ne]; exact h192
                have e224 : ((b0 : Int) != 224) = false := by rw [bne_eq_false_iff_eq]; exact h224
                clear h192 h224 HF HA HT HL
                by_cases h13 : 1 ≤ b1 ∧ b1 ≤ 3
                · have HK := hide h13
                  obtain ⟨k1, k3⟩ := h13
                  go_wp2_with (first | (go_at_call 64; refine (hknown _).mono ?_; rintro e w' ⟨rfl, hw⟩; rw [hw]; clear hw w') | (at_builtin; refine wpList_append_own _ rfl _ _ 75 rfl w.heap.size 81 i0 (.agg #[.int .i64 0, .int .i64 0, .string ⟨#[]⟩]) 3 32 Try.underlying75 hi hz0 hz1 hz2 rfl (by decide) _ _ _ rfl ((hown.alloc _).alloc _).drew ⟨wr.heap.size + 1, 0, none⟩ 1 1 [.int .i64 (b0 : Int), .int .i64 (b1 : Int), .string (t.extract 4 (4 + n))] rfl rfl (cells_new2 _ _ _ _) (one3 _ _ _) (by unfold maxLen; omega) (by omega) (by have := hbel.size; simp; omega) ?_; intro v' w4 hown4 hgrow4 _))
                  refine ⟨⟨t.extract (4 + n) t.size, b1, xs ++ [⟨b0, b1, t.extract 4 (4 + n)⟩], v', rfl, rfl, rfl, needN_yes _ _ _ _ HK.out, by omega, by omega, by simp only [List.length_append, List.length_cons, List.length_nil]; omega, HG.out, ?_, below_app2 hbel hbel.size hown hgrow4⟩, by simp only [strLen]; omega⟩
                  rw [List.length_append, atCells_snoc]
                  exact hown4
                · have HK := hide h13
                  have k2 : b1 < 1 ∨ 3 < b1 := by omega
                  clear h13
                  rcases k2 with k2 | k2
                  all_goals
                    go_wp2_with (first | (go_at_call 64; refine (hknown _).mono ?_; rintro e w' ⟨rfl, hw⟩; rw [hw]; clear hw w') | (at_builtin; refine wpList_append_own _ rfl _ _ 75 rfl w.heap.size 81 i0 (.agg #[.int .i64 0, .int .i64 0, .string ⟨#[]⟩]) 3 32 Try.underlying75 hi hz0 hz1 hz2 rfl (by decide) _ _ _ rfl ((hown.alloc _).alloc _).drew ⟨wr.heap.size + 1, 0, none⟩ 1 1 [.int .i64 (b0 : Int), .int .i64 (b1 : Int), .string (t.extract 4 (4 + n))] rfl rfl (cells_new2 _ _ _ _) (one3 _ _ _) (by unfold maxLen; omega) (by omega) (by have := hbel.size; simp; omega) ?_; intro v' w4 hown4 hgrow4 _))
                    refine ⟨⟨t.extract (4 + n) t.size, b1, xs ++ [⟨b0, b1, t.extract 4 (4 + n)⟩], v', rfl, rfl, rfl, needN_no _ _ _ _ HK.out, by omega, by omega, by simp only [List.length_append, List.length_cons, List.length_nil]; omega, HG.out, ?_, below_app2 hbel hbel.size hown hgrow4⟩, by simp only [strLen]; omega⟩
                    rw [List.length_append, atCells_snoc]
                    exact hown4
              · have HB := hide (HF.out (HA.out (by simp; omega)))
                have e192 : ((b0 : Int) != 192) = true := by rw [bne_iff_ne]; exact h192
                have e224 : ((b0 : Int) != 224) = true := by rw [bne_iff_ne]; exact h224
                clear h192 h224 HF HA HT HL
                go_wp2_with (first | (go_at_call 64; refine (hknown _).mono ?_; rintro e w' ⟨rfl, hw⟩; rw [hw]; clear hw w'))
                go_ret2
                refine ⟨.slice none 0 0, ret_two HB.out, below_drewN (n := 1) (hbel.alloc hbel.size _), fun h => ?_⟩
                rw [HB.out] at h; exact absurd h (by simp)

end Go.Proofs.Yteoacdkgicfomaa
