/-
  routelogref.prefixes, walked: the prefixes that a text is made of; false, if it is not made of some.
-/
import Derived.Test.YteoacdkgicfomaaRdWalks
namespace Go.Proofs.Yteoacdkgicfomaa
open Go.RowKit
open Rl

theorem pow_step (x m k : Nat) (h : m ≤ k) : x * 256 ^ (k - m) * 256 = x * 256 ^ (k + 1 - m) := by
  rw [show k + 1 - m = (k - m) + 1 from by omega, Nat.pow_succ, Nat.mul_assoc]

theorem pow_bound (x m k : Nat) (hm : m ≤ k) (hk : k ≤ 4) (hx : x < 256 ^ m) : x * 256 ^ (k - m) ≤ 4294967295 := by
  have e : m = 0 ∨ m = 1 ∨ m = 2 ∨ m = 3 ∨ m = 4 := by omega
  have e2 : k = 0 ∨ k = 1 ∨ k = 2 ∨ k = 3 ∨ k = 4 := by omega
  rcases e with rfl | rfl | rfl | rfl | rfl <;> rcases e2 with rfl | rfl | rfl | rfl | rfl <;> simp at hx ⊢ <;> omega

theorem cut_wrap (a n : Nat) (h : a ≤ 4294967295) : wrap64 ((a : Int) - (a : Int) % gap n) = (a : Int) - (a : Int) % gap n := by
  have h1 := gap_pos n
  have h2 := Int.emod_nonneg (a : Int) (Int.ne_of_gt h1)
  have h3 : (a : Int) % gap n ≤ a := by
    have e := Int.emod_add_mul_ediv (a : Int) (gap n)
    have h4 : 0 ≤ gap n * ((a : Int) / gap n) := Int.mul_nonneg (Int.le_of_lt h1) (Int.ediv_nonneg (by omega) (Int.le_of_lt h1))
    omega
  exact wrap64_in' _ (by omega) (by omega)

theorem gap_facts (n : Nat) (h : n ≤ 32) : ¬ gap (n : Int) = 0 ∧ wrap64 ((2 : Int) ^ (32 - n)) = gap (n : Int) := by
  have h1 := gap_pos n
  have h2 := gap_le n (by omega)
  have e : (32 - (n : Int)).toNat = 32 - n := by omega
  have e2 : gap (n : Int) = (2 : Int) ^ (32 - n) := by unfold gap; rw [e]
  refine ⟨Int.ne_of_gt h1, ?_⟩
  rw [← e2]; exact wrap64_in' _ (by omega) (by omega)

set_option maxRecDepth 20000 in
set_option maxHeartbeats 1600000 in
theorem prefixes_any (s : ByteArray) (w : World) (hs : s.size ≤ 1048576) :
    Calls Try.prog 37 #[.string s] w fun e w' => ∃ v, e = .returned (.tuple #[v, .bool (rdAll s).isSome]) ∧ Below w.heap.size w w' ∧ (∀ l, rdAll s = some l → w'.ownsRow w.heap.size 36 2 v l.length (pfCells l) ∧ l.length ≤ s.size) ∧ (rdAll s = none → v = .slice none 0 0) := by
  obtain ⟨i0, hi, hz0, hz1, hz2⟩ := info_parts info_pfx
  go_enter Try.func37, Try.ntmps37
  go_wp2
  go_loopw [0, 4] (fun x l wr => ∃ (t : ByteArray) (xs : List (Int × Int)) (lv : Value), lv = l ∧ x = .string t ∧ t.size + xs.length ≤ s.size ∧ rdMid s xs t ∧ wr.ownsRow w.heap.size 36 2 lv xs.length (pfCells xs) ∧ Below w.heap.size w wr) (fun x _ _ => strLen x)
  case atStart => exact ⟨s, [], _, rfl, rfl, by simp, rdMid_start s, World.ownsRow_nil _ _ _ _, Below.refl _ _⟩
  case round =>
    obtain ⟨t, xs, lv, rfl, rfl, hsz, hread, hown, hbel⟩ := hrel
    have HR := hide hread
    clear hread
    by_cases h0 : t.size = 0
    · have hem : t.toList.isEmpty = true := by rw [isEmpty_size]; simp [h0]
      have HE := hide (rdMid_end _ _ _ h0 HR.out)
      clear h0
      go_wp2
      go_ret2
      refine ⟨lv, ?_, hbel, fun l hl => ?_, fun hn => ?_⟩
      · rw [HE.out]; rfl
      · rw [HE.out] at hl; cases hl; exact ⟨hown, by omega⟩
      · rw [HE.out] at hn; exact absurd hn (by simp)
    · have hem : t.toList.isEmpty = false := by rw [isEmpty_size]; simp [h0]
      have hp : 0 < t.size := by omega
      have hb0 := at8_bytes t 0 hp
      have hn := rdN_lt t
      have hx0 : (0 : Int) < (t.size : Int) := by omega
      have htm : t.size ≤ 1048576 := by omega
      by_cases hbad : rdBad t
      · have HB := hide (rdMid_bad _ _ _ h0 hbad HR.out)
        unfold rdBad many at hbad
        unfold rdN at *
        generalize at8 t.data.toList 0 = n at *
        clear h0
        by_cases h32 : 32 < n
        · clear hbad
          go_wp2
          go_ret2
          refine ⟨.slice none 0 0, ?_, hbel, fun l hl => ?_, fun _ => rfl⟩
          · rw [HB.out]; rfl
          · rw [HB.out] at hl; exact absurd hl (by simp)
        · have hlen : t.size < 1 + (n + 7) / 8 := by omega
          clear hbad
          go_wp2
          go_ret2
          refine ⟨.slice none 0 0, ?_, hbel, fun l hl => ?_, fun _ => rfl⟩
          · rw [HB.out]; rfl
          · rw [HB.out] at hl; exact absurd hl (by simp)
      · have HT := hide (rdMid_step _ _ _ h0 hbad HR.out)
        unfold rdBad at hbad
        have hA := rdA_le t (by omega)
        have hA0 := rdNum_lt t
        have hN := rdNum_cast t
        have hts := rdTail_size t
        have hm4 := many_le (rdN t) (by omega)
        have hread := fun w => number_any (t.extract 1 (1 + many (rdN t))) w (by have := many_le (rdN t) (by omega); rw [ByteArray.size_extract]; omega)
        rw [← hN] at hread
        obtain ⟨hd, ehd⟩ : ∃ hd, hd = rdHead t := ⟨_, rfl⟩
        obtain ⟨tl, etl⟩ : ∃ tl, tl = rdTail t := ⟨_, rfl⟩
        rw [← ehd, ← etl] at HT
        rw [← etl] at hts
        have EH := hide ehd
        have ET := hide etl
        clear ehd etl h0 hN
        have het : t.extract (1 + many (rdN t)) t.size = tl := ET.out.symm
        have hhd : hd = ((rdA t : Int) - (rdA t : Int) % gap (rdN t), (rdN t : Int)) := EH.out
        have hv : Hid (rdNum t * 256 ^ (4 - many (rdN t)) = rdA t) := rfl
        subst hhd
        clear EH ET
        unfold rdN at *
        have hg := wrap_gap' (at8 t.data.toList 0 : Int) (by omega)
        have hgp := gap_pos (at8 t.data.toList 0 : Int)
        have hgl := gap_le (at8 t.data.toList 0 : Int) (by omega)
        obtain ⟨hz, hg2⟩ := gap_facts (at8 t.data.toList 0) (by omega)
        generalize rdNum t = x at *
        generalize rdA t = a at *
        generalize at8 t.data.toList 0 = n at *
        have HM : Hid (many n = (n + 7) / 8) := rfl
        rw [HM.out] at hbad hts hm4 hread het hv hA0
        go_wp2_with (go_at_call 34; refine (hread _).mono ?_; rintro e w' ⟨rfl, hw⟩; rw [hw]; clear hw w')
        go_loopw [7, 8] (fun q i wy => ∃ k : Nat, (n + 7) / 8 ≤ k ∧ k ≤ 4 ∧ i = .int .i64 k ∧ q = .int .i64 ((x * 256 ^ (k - (n + 7) / 8) : Nat) : Int) ∧ wy = wr) (fun _ i _ => 4 - (intOf i).toNat)
        case atStart => exact ⟨(n + 7) / 8, Nat.le_refl _, hm4, by go_num, by simp, rfl⟩
        case round =>
          obtain ⟨k, hk0, hk1, rfl, rfl, rfl⟩ := hrel
          by_cases hlt : k < 4
          · have hb := pow_bound x ((n + 7) / 8) (k + 1) (by omega) (by omega) hA0
            have hst := hide (pow_step x ((n + 7) / 8) k hk0)
            rw [← hst.out] at hb
            generalize x * 256 ^ (k - (n + 7) / 8) = y at *
            go_wp2
            refine ⟨⟨k + 1, by omega, by omega, by go_num, ?_, trivial⟩, by simp [intOf]; omega⟩
            rw [← hst.out, Int.natCast_mul, Int.mul_comm]; rfl
          · have hk4 : k = 4 := by omega
            subst hk4
            rw [hv.out]
            obtain ⟨y, ey⟩ : ∃ y, y = (a : Int) - (a : Int) % gap n := ⟨_, rfl⟩
            rw [← ey] at HT
            have hy : wrap64 ((a : Int) - (a : Int) % gap n) = y := (cut_wrap a n hA).trans ey.symm
            clear hA0 hA hg hgl hk0 hk1 hm4 ey
            go_wp2_with (at_builtin; refine wpList_append_own _ rfl _ _ 26 rfl w.heap.size 36 i0 (.agg #[.int .i64 0, .int .i64 0]) 2 16 Try.underlying26 hi hz0 hz1 hz2 rfl (by decide) _ _ _ rfl (hown.alloc _) ⟨wr.heap.size, 0, none⟩ 1 1 [.int .i64 y, .int .i64 (n : Int)] rfl rfl (cells_new _ _ _) ?c2 ?c3 ?c4 ?c5 ?_)
            case c2 => intro u hu; simp at hu; rcases hu with rfl | rfl <;> rfl
            case c3 => unfold maxLen; omega
            case c4 => omega
            case c5 => have := hbel.size; simp; omega
            intro v' w4 hown4 hgrow4 _
            have hbel4 := below_app hbel hbel.size hown hgrow4
            clear hgrow4 hown hbel
            go_wp2
            clear hg2 hgp hz hy hv HM
            have hlt2 : (t.extract (1 + (n + 7) / 8) t.size).size < t.size := by rw [het]; omega
            refine ⟨⟨tl, xs ++ [(y, (n : Int))], v', rfl, congrArg Value.string het, by simp; omega, HT.out, ?_, hbel4⟩, by simp only [strLen]; omega⟩
            rw [List.length_append, pfCells_snoc]
            exact hown4

end Go.Proofs.Yteoacdkgicfomaa
