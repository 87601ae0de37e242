/-
  message.readPrefixes, walked: the prefixes of bytes; false, if they end too early.
-/
import Derived.Test.YteoacdkgicfomaaRdMath
import Derived.Test.YteoacdkgicfomaaPfxWalks
import Derived.Test.YteoacdkgicfomaaCanonOwn
import Derived.Test.YteoacdkgicfomaaAnnOwn
namespace Go.Proofs.Yteoacdkgicfomaa
open Go.RowKit
open Rl

set_option maxRecDepth 20000 in
set_option maxHeartbeats 1600000 in
theorem readPrefixes_any (s : ByteArray) (w : World) (hs : s.size ≤ 1048576) :
    Calls Try.prog 54 #[.string s] w fun e w' => ∃ v, e = .returned (.tuple #[v, .bool (rdAll s).isSome]) ∧ Below w.heap.size w w' ∧ (∀ l, rdAll s = some l → w'.ownsRow w.heap.size 36 2 v l.length (pfCells l) ∧ l.length ≤ s.size) ∧ (rdAll s = none → v = .slice none 0 0) := by
  obtain ⟨i0, hi, hz0, hz1, hz2⟩ := info_parts info_pfx
  go_enter Try.func54, Try.ntmps54
  go_wp2
  go_loopw [0, 4] (fun x l wr => ∃ (t : ByteArray) (xs : List (Int × Int)) (lv : Value), lv = l ∧ x = .string t ∧ t.size + xs.length ≤ s.size ∧ rdMid s xs t ∧ wr.ownsRow w.heap.size 36 2 lv xs.length (pfCells xs) ∧ Below w.heap.size w wr) (fun x _ _ => strLen x)
  case atStart => exact ⟨s, [], _, rfl, rfl, by simp, rdMid_start s, World.ownsRow_nil _ _ _ _, Below.refl _ _⟩
  case round =>
    obtain ⟨t, xs, lv, rfl, rfl, hsz, hread, hown, hbel⟩ := hrel
    have HR := hide hread
    clear hread
    by_cases h0 : t.size = 0
    · have hem : t.toList.isEmpty = true := by rw [isEmpty_size]; simp [h0]
      have HE := hide (rdMid_end _ _ _ h0 HR.out)
      clear h0
      go_wp2
      go_ret2
      refine ⟨lv, ?_, hbel, fun l hl => ?_, fun hn => ?_⟩
      · rw [HE.out]; rfl
      · rw [HE.out] at hl; cases hl; exact ⟨hown, by omega⟩
      · rw [HE.out] at hn; exact absurd hn (by simp)
    · have hem : t.toList.isEmpty = false := by rw [isEmpty_size]; simp [h0]
      have hp : 0 < t.size := by omega
      have hb0 := at8_bytes t 0 hp
      have hn := rdN_lt t
      have hx0 : (0 : Int) < (t.size : Int) := by omega
      have hm : many (rdN t) ≤ 32 := by unfold many; omega
      have htm : t.size ≤ 1048576 := by omega
      have hcall := fun w => bytesFor_any (rdN t) w (by omega)
      by_cases hbad : rdBad t
      · have HB := hide (rdMid_bad _ _ _ h0 hbad HR.out)
        unfold rdBad at hbad
        unfold rdN at *
        generalize at8 t.data.toList 0 = n at *
        generalize many n = m at *
        clear h0
        go_wp2_with (go_at_call 72; refine (hcall _).mono ?_; rintro e w' ⟨rfl, rfl⟩)
        all_goals
          go_ret2
          refine ⟨.slice none 0 0, ?_, hbel, fun l hl => ?_, fun _ => rfl⟩
          · rw [HB.out]; rfl
          · rw [HB.out] at hl; exact absurd hl (by simp)
      · have HT := hide (rdMid_step _ _ _ h0 hbad HR.out)
        unfold rdBad at hbad
        have hA := rdA_le t (by omega)
        have hA0 := rdNum_lt t
        have hN := rdNum_cast t
        have hts := rdTail_size t
        have hread := fun w => read_any (t.extract 1 (1 + many (rdN t))) w (by have := many_le (rdN t) (by omega); rw [ByteArray.size_extract]; omega)
        rw [← hN] at hread
        have hfb := fun w => firstBits_any (rdA t : Int) (rdN t : Int) w (by omega) (by omega) (by omega) (by omega)
        have hm4 := many_le (rdN t) (by omega)
        obtain ⟨hd, ehd⟩ : ∃ hd, hd = rdHead t := ⟨_, rfl⟩
        obtain ⟨tl, etl⟩ : ∃ tl, tl = rdTail t := ⟨_, rfl⟩
        rw [← ehd, ← etl] at HT
        rw [← etl] at hts
        have EH := hide ehd
        have ET := hide etl
        clear ehd etl h0 hN
        have hv : wrap64 ((rdNum t : Int) * 2 ^ (32 - 8 * many (rdN t))) = (rdA t : Int) := by
          have e1 : 32 - 8 * many (rdN t) = 8 * (4 - many (rdN t)) := by omega
          have e2 : ((rdA t : Nat) : Int) = (rdNum t : Int) * 2 ^ (32 - 8 * many (rdN t)) := by
            unfold rdA
            rw [e1, Int.natCast_mul, Int.natCast_pow, Int.pow_mul]; rfl
          rw [← e2]; exact wrap64_in' _ (by omega) (by omega)
        have het : t.extract (1 + many (rdN t)) t.size = tl := ET.out.symm
        have hhd : hd = ((rdA t : Int) - (rdA t : Int) % gap (rdN t), (rdN t : Int)) := EH.out
        subst hhd
        clear EH ET
        unfold rdN at *
        generalize rdNum t = x at *
        generalize rdA t = a at *
        generalize at8 t.data.toList 0 = n at *
        generalize many n = m at *
        generalize (a : Int) - (a : Int) % gap (n : Int) = y at *
        go_wp2_with (first | (go_at_call 72; refine (hcall _).mono ?_; rintro e w' ⟨rfl, hw⟩; rw [hw]; clear hw w') | (go_at_call 52; refine (hread _).mono ?_; rintro e w' ⟨rfl, hw⟩; rw [hw]; clear hw w') | (go_at_call 73; rw [hv]; refine (hfb _).mono ?_; rintro e w' ⟨rfl, hw⟩; rw [hw]; clear hw w') | (at_builtin; refine wpList_append_own _ rfl _ _ 26 rfl w.heap.size 36 i0 (.agg #[.int .i64 0, .int .i64 0]) 2 16 Try.underlying26 hi hz0 hz1 hz2 rfl (by decide) _ _ _ rfl (hown.alloc _) ⟨wr.heap.size, 0, none⟩ 1 1 [.int .i64 y, .int .i64 (n : Int)] rfl rfl (cells_new _ _ _) ?c2 ?c3 ?c4 ?c5 ?_))
        case c2 => intro u hu; simp at hu; rcases hu with rfl | rfl <;> rfl
        case c3 => unfold maxLen; omega
        case c4 => omega
        case c5 => have := hbel.size; simp; omega
        intro v' w4 hown4 hgrow4 _
        have hbel4 := below_app hbel hbel.size hown hgrow4
        clear hgrow4 hown hbel
        go_wp2
        have hlt : (t.extract (1 + m) t.size).size < t.size := by rw [het]; omega
        refine ⟨⟨tl, xs ++ [(y, (n : Int))], v', rfl, ?_, by simp; omega, HT.out, ?_, hbel4⟩, by simp only [strLen]; omega⟩
        · exact congrArg Value.string het
        · rw [List.length_append, pfCells_snoc]
          exact hown4

end Go.Proofs.Yteoacdkgicfomaa
