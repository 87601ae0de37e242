/-
  message.readPrefixes, walked: the prefixes of bytes; false, if they end too early.
-/
import Derived.Test.YtjjakgmjoplhoaaB01
import Derived.Test.YtjjakgmjoplhoaaB02
import Derived.Test.YtjjakgmjoplhoaaB03
import Derived.Test.YtjjakgmjoplhoaaB04
namespace Go.Proofs.Ytjjakgmjoplhoaa
open Go.RowKit
open Rl

set_option maxRecDepth 20000 in
set_option maxHeartbeats 1600000 in
theorem readPrefixes_any (s : ByteArray) (w : World) (hs : s.size ≤ 1048576) :
    Calls Try.prog 54 #[.string s] w fun e w' => ∃ v, e = .returned (.tuple #[v, .bool (rdAll s).isSome]) ∧ Below w.heap.size w w' ∧ (∀ l, rdAll s = some l → w'.ownsRow w.heap.size 36 2 v l.length (pfCells l) ∧ l.length ≤ s.size) ∧ (rdAll s = none → v = .slice none 0 0) := by
  obtain ⟨i0, hi, hz0, hz1, hz2⟩ := info_parts info_pfx
  go_enter Try.func54, Try.ntmps54
  go_wp2
  go_loopw [0, 4] (fun x l wr => ∃ (t : ByteArray) (xs : List (Int × Int)) (lv : Value), lv = l ∧ x = .string t ∧ t.size + xs.length ≤ s.size ∧ rdMid s xs t ∧ wr.ownsRow w.heap.size 36 2 lv xs.length (pfCells xs) ∧ Below w.heap.size w wr) (fun x _ _ => strLen x)
  case atStart => exact ⟨s, [], _, rfl, rfl, by simp, rdMid_start s, World.ownsRow_nil _ _ _ _, Below.refl _ _⟩
  case round =>
    obtain ⟨t, xs, lv, rfl, rfl, hsz, hread, hown, hbel⟩ := hrel
    have HR := hide hread
    clear hread
    by_cases h0 : t.size = 0
    · have hem : t.toList.isEmpty = true := by rw [isEmpty_size]; simp [h0]
      have HE := hide (rdMid_end _ _ _ h0 HR.out)
      clear h0
      go_wp2
      go_ret2
      refine ⟨lv, ?_, hbel, fun l hl => ?_, fun hn => ?_⟩
      · rw [HE.out]; rfl
      · rw [HE.out] at hl; cases hl; exact ⟨hown, by omega⟩
      · rw [HE.out] at hn; exact absurd hn (by simp)
    · have hem : t.toList.isEmpty = false := by rw [isEmpty_size]; simp [h0]
      have hp : 0 < t.size := by omega
      have hb0 := at8_bytes t 0 hp
      have hn := rdN_lt t
      have hx0 : (0 : Int) < (t.size : Int) := by omega
      have hm : many (rdN t) ≤ 32 := by unfold many; omega
      have htm : t.size ≤ 1048576 := by omega
      have hcall := fun w => bytesFor_any (rdN t) w (by omega)
      by_cases hbad : rdBad t
      · have HB := hide (rdMid_bad _ _ _ h0 hbad HR.out)
        unfold rdBad at hbad
        unfold rdN at *
        generalize at8 t.data.toList 0 = n at *
        generalize many n = m at *
        clear h0
        go_wp2_with (go_at_call 72; refine (hcall _).mono ?_; rintro e w' ⟨rfl, rfl⟩)
        all_goals
          go_ret2
          refine ⟨.slice none 0 0, ?_, hbel, fun l hl => ?_, fun _ => rfl⟩
          · rw [HB.out]; rfl
          · rw [HB.out] at hl; exact absurd hl (by simp)
      · have HT := hide (rdMid_step _ _ _ h0 hbad HR.out)
        unfold rdBad at hbad
        have hA := rdA_le t (by omega)
        have hA0 := rdNum_lt t
        have hN := rdNum_cast t
        have hts := rdTail_size t
        have hread := fun w => read_any (t.extract 1 (1 + many (rdN t))) w (by have := many_le (rdN t) (by omega); rw [ByteArray.size_extract]; omega)
        rw [← hN] at hread
        have hfb := fun w => firstBits_any (rdA t : Int) (rdN t : Int) w (by omega) (by omega) (by omega) (by omega)
        have hm4 := many_le (rdN t) (by omega)
        obtain ⟨hd, ehd⟩ : ∃ hd, hd = rdHead t := ⟨_, rfl⟩
        obtain ⟨tl, etl⟩ : ∃ tl, tl = rdTail t := ⟨_, rfl⟩
        rw [← ehd, ← etl] at HT
        rw [← etl] at hts
        have EH := hide ehd
        have ET := hide etl
        clear ehd etl h0 hN
        have hv : wrap64 ((rdNum t : Int) * 2 ^ (32 - 8 * many (rdN t))) = (rdA t : Int) := by
          have e1 : 32 - 8 * many (rdN t) = 8 * (4 - many (rdN t)) := by omega
          have e2 : ((rdA t : Nat) : Int) = (rdNum t : Int) * 2 ^ (32 - 8 * many (rdN t)) := by
            unfold rdA
            rw [e1, Int.natCast_mul, Int.natCast_pow, Int.pow_mul]; rfl
          rw [← e2]; exact wrap64_in' _ (by omega) (by omega)
        have het : t.extract (1 + many (rdN t)) t.size = tl := ET.out.symm
        have hhd : hd = ((rdA t : Int) - (rdA t : Int) % gap (rdN t), (rdN t : Int)) := EH.out
        subst hhd
        clear EH ET
        unfold rdN at *
        generalize rdNum t = x at *
        generalize rdA t = a at *
        generalize at8 t.data.toList 0 = n at *
        generalize many n = m at *
        generalize (a : Int) - (a : Int) % gap (n : Int) = y at *
        go_wp2_with (first | (go_at_call 72; refine (hcall _).mono ?_; rintro e w' ⟨rfl, hw⟩; rw [hw]; clear hw w') | (go_at_call 52; refine (hread _).mono ?_; rintro e w' ⟨rfl, hw⟩; rw [hw]; clear hw w') | (go_at_call 73; rw [hv]; refine (hfb _).mono ?_; rintro e w' ⟨rfl, hw⟩; rw [hw]; clear hw w') | (at_builtin; refine wpList_append_own _ rfl _ _ 26 rfl w.heap.size 36 i0 (.agg #[.int .i64 0, .int .i64 0]) 2 16 Try.underlying26 hi hz0 hz1 hz2 rfl (by decide) _ _ _ rfl (hown.alloc _) ⟨wr.heap.size, 0, none⟩ 1 1 [.int .i64 y, .int .i64 (n : Int)] rfl rfl (cells_new _ _ _) ?c2 ?c3 ?c4 ?c5 ?_))
        case c2 => intro u hu; simp at hu; rcases hu with rfl | rfl <;> rfl
        case c3 => unfold maxLen; omega
        case c4 => omega
        case c5 => have := hbel.size; simp; omega
        intro v' w4 hown4 hgrow4 _
        have hbel4 := below_app hbel hbel.size hown hgrow4
        clear hgrow4 hown hbel
        go_wp2
        have hlt : (t.extract (1 + m) t.size).size < t.size := by rw [het]; omega
        refine ⟨⟨tl, xs ++ [(y, (n : Int))], v', rfl, ?_, by simp; omega, HT.out, ?_, hbel4⟩, by simp only [strLen]; omega⟩
        · exact congrArg Value.string het
        · rw [List.length_append, pfCells_snoc]
          exact hown4

end Go.Proofs.Ytjjakgmjoplhoaa
/-
  routelogref.prefixes, walked: the prefixes that a text is made of; false, if it is not made of some.
-/
namespace Go.Proofs.Ytjjakgmjoplhoaa
open Go.RowKit
open Rl

theorem pow_step (x m k : Nat) (h : m ≤ k) : x * 256 ^ (k - m) * 256 = x * 256 ^ (k + 1 - m) := by
  rw [show k + 1 - m = (k - m) + 1 from by omega, Nat.pow_succ, Nat.mul_assoc]

theorem pow_bound (x m k : Nat) (hm : m ≤ k) (hk : k ≤ 4) (hx : x < 256 ^ m) : x * 256 ^ (k - m) ≤ 4294967295 := by
  have e : m = 0 ∨ m = 1 ∨ m = 2 ∨ m = 3 ∨ m = 4 := by omega
  have e2 : k = 0 ∨ k = 1 ∨ k = 2 ∨ k = 3 ∨ k = 4 := by omega
  rcases e with rfl | rfl | rfl | rfl | rfl <;> rcases e2 with rfl | rfl | rfl | rfl | rfl <;> simp at hx ⊢ <;> omega

theorem cut_wrap (a n : Nat) (h : a ≤ 4294967295) : wrap64 ((a : Int) - (a : Int) % gap n) = (a : Int) - (a : Int) % gap n := by
  have h1 := gap_pos n
  have h2 := Int.emod_nonneg (a : Int) (Int.ne_of_gt h1)
  have h3 : (a : Int) % gap n ≤ a := by
    have e := Int.emod_add_mul_ediv (a : Int) (gap n)
    have h4 : 0 ≤ gap n * ((a : Int) / gap n) := Int.mul_nonneg (Int.le_of_lt h1) (Int.ediv_nonneg (by omega) (Int.le_of_lt h1))
    omega
  exact wrap64_in' _ (by omega) (by omega)

theorem gap_facts (n : Nat) (h : n ≤ 32) : ¬ gap (n : Int) = 0 ∧ wrap64 ((2 : Int) ^ (32 - n)) = gap (n : Int) := by
  have h1 := gap_pos n
  have h2 := gap_le n (by omega)
  have e : (32 - (n : Int)).toNat = 32 - n := by omega
  have e2 : gap (n : Int) = (2 : Int) ^ (32 - n) := by unfold gap; rw [e]
  refine ⟨Int.ne_of_gt h1, ?_⟩
  rw [← e2]; exact wrap64_in' _ (by omega) (by omega)

set_option maxRecDepth 20000 in
set_option maxHeartbeats 1600000 in
theorem prefixes_any (s : ByteArray) (w : World) (hs : s.size ≤ 1048576) :
    Calls Try.prog 37 #[.string s] w fun e w' => ∃ v, e = .returned (.tuple #[v, .bool (rdAll s).isSome]) ∧ Below w.heap.size w w' ∧ (∀ l, rdAll s = some l → w'.ownsRow w.heap.size 36 2 v l.length (pfCells l) ∧ l.length ≤ s.size) ∧ (rdAll s = none → v = .slice none 0 0) := by
  obtain ⟨i0, hi, hz0, hz1, hz2⟩ := info_parts info_pfx
  go_enter Try.func37, Try.ntmps37
  go_wp2
  go_loopw [0, 4] (fun x l wr => ∃ (t : ByteArray) (xs : List (Int × Int)) (lv : Value), lv = l ∧ x = .string t ∧ t.size + xs.length ≤ s.size ∧ rdMid s xs t ∧ wr.ownsRow w.heap.size 36 2 lv xs.length (pfCells xs) ∧ Below w.heap.size w wr) (fun x _ _ => strLen x)
  case atStart => exact ⟨s, [], _, rfl, rfl, by simp, rdMid_start s, World.ownsRow_nil _ _ _ _, Below.refl _ _⟩
  case round =>
    obtain ⟨t, xs, lv, rfl, rfl, hsz, hread, hown, hbel⟩ := hrel
    have HR := hide hread
    clear hread
    by_cases h0 : t.size = 0
    · have hem : t.toList.isEmpty = true := by rw [isEmpty_size]; simp [h0]
      have HE := hide (rdMid_end _ _ _ h0 HR.out)
      clear h0
      go_wp2
      go_ret2
      refine ⟨lv, ?_, hbel, fun l hl => ?_, fun hn => ?_⟩
      · rw [HE.out]; rfl
      · rw [HE.out] at hl; cases hl; exact ⟨hown, by omega⟩
      · rw [HE.out] at hn; exact absurd hn (by simp)
    · have hem : t.toList.isEmpty = false := by rw [isEmpty_size]; simp [h0]
      have hp : 0 < t.size := by omega
      have hb0 := at8_bytes t 0 hp
      have hn := rdN_lt t
      have hx0 : (0 : Int) < (t.size : Int) := by omega
      have htm : t.size ≤ 1048576 := by omega
      by_cases hbad : rdBad t
      · have HB := hide (rdMid_bad _ _ _ h0 hbad HR.out)
        unfold rdBad many at hbad
        unfold rdN at *
        generalize at8 t.data.toList 0 = n at *
        clear h0
        by_cases h32 : 32 < n
        · clear hbad
          go_wp2
          go_ret2
          refine ⟨.slice none 0 0, ?_, hbel, fun l hl => ?_, fun _ => rfl⟩
          · rw [HB.out]; rfl
          · rw [HB.out] at hl; exact absurd hl (by simp)
        · have hlen : t.size < 1 + (n + 7) / 8 := by omega
          clear hbad
          go_wp2
          go_ret2
          refine ⟨.slice none 0 0, ?_, hbel, fun l hl => ?_, fun _ => rfl⟩
          · rw [HB.out]; rfl
          · rw [HB.out] at hl; exact absurd hl (by simp)
      · have HT := hide (rdMid_step _ _ _ h0 hbad HR.out)
        unfold rdBad at hbad
        have hA := rdA_le t (by omega)
        have hA0 := rdNum_lt t
        have hN := rdNum_cast t
        have hts := rdTail_size t
        have hm4 := many_le (rdN t) (by omega)
        have hread := fun w => number_any (t.extract 1 (1 + many (rdN t))) w (by have := many_le (rdN t) (by omega); rw [ByteArray.size_extract]; omega)
        rw [← hN] at hread
        obtain ⟨hd, ehd⟩ : ∃ hd, hd = rdHead t := ⟨_, rfl⟩
        obtain ⟨tl, etl⟩ : ∃ tl, tl = rdTail t := ⟨_, rfl⟩
        rw [← ehd, ← etl] at HT
        rw [← etl] at hts
        have EH := hide ehd
        have ET := hide etl
        clear ehd etl h0 hN
        have het : t.extract (1 + many (rdN t)) t.size = tl := ET.out.symm
        have hhd : hd = ((rdA t : Int) - (rdA t : Int) % gap (rdN t), (rdN t : Int)) := EH.out
        have hv : Hid (rdNum t * 256 ^ (4 - many (rdN t)) = rdA t) := rfl
        subst hhd
        clear EH ET
        unfold rdN at *
        have hg := wrap_gap' (at8 t.data.toList 0 : Int) (by omega)
        have hgp := gap_pos (at8 t.data.toList 0 : Int)
        have hgl := gap_le (at8 t.data.toList 0 : Int) (by omega)
        obtain ⟨hz, hg2⟩ := gap_facts (at8 t.data.toList 0) (by omega)
        generalize rdNum t = x at *
        generalize rdA t = a at *
        generalize at8 t.data.toList 0 = n at *
        have HM : Hid (many n = (n + 7) / 8) := rfl
        rw [HM.out] at hbad hts hm4 hread het hv hA0
        go_wp2_with (go_at_call 34; refine (hread _).mono ?_; rintro e w' ⟨rfl, hw⟩; rw [hw]; clear hw w')
        go_loopw [7, 8] (fun q i wy => ∃ k : Nat, (n + 7) / 8 ≤ k ∧ k ≤ 4 ∧ i = .int .i64 k ∧ q = .int .i64 ((x * 256 ^ (k - (n + 7) / 8) : Nat) : Int) ∧ wy = wr) (fun _ i _ => 4 - (intOf i).toNat)
        case atStart => exact ⟨(n + 7) / 8, Nat.le_refl _, hm4, by go_num, by simp, rfl⟩
        case round =>
          obtain ⟨k, hk0, hk1, rfl, rfl, rfl⟩ := hrel
          by_cases hlt : k < 4
          · have hb := pow_bound x ((n + 7) / 8) (k + 1) (by omega) (by omega) hA0
            have hst := hide (pow_step x ((n + 7) / 8) k hk0)
            rw [← hst.out] at hb
            generalize x * 256 ^ (k - (n + 7) / 8) = y at *
            go_wp2
            refine ⟨⟨k + 1, by omega, by omega, by go_num, ?_, trivial⟩, by simp [intOf]; omega⟩
            rw [← hst.out, Int.natCast_mul, Int.mul_comm]; rfl
          · have hk4 : k = 4 := by omega
            subst hk4
            rw [hv.out]
            obtain ⟨y, ey⟩ : ∃ y, y = (a : Int) - (a : Int) % gap n := ⟨_, rfl⟩
            rw [← ey] at HT
            have hy : wrap64 ((a : Int) - (a : Int) % gap n) = y := (cut_wrap a n hA).trans ey.symm
            clear hA0 hA hg hgl hk0 hk1 hm4 ey
            go_wp2_with (at_builtin; refine wpList_append_own _ rfl _ _ 26 rfl w.heap.size 36 i0 (.agg #[.int .i64 0, .int .i64 0]) 2 16 Try.underlying26 hi hz0 hz1 hz2 rfl (by decide) _ _ _ rfl (hown.alloc _) ⟨wr.heap.size, 0, none⟩ 1 1 [.int .i64 y, .int .i64 (n : Int)] rfl rfl (cells_new _ _ _) ?c2 ?c3 ?c4 ?c5 ?_)
            case c2 => intro u hu; simp at hu; rcases hu with rfl | rfl <;> rfl
            case c3 => unfold maxLen; omega
            case c4 => omega
            case c5 => have := hbel.size; simp; omega
            intro v' w4 hown4 hgrow4 _
            have hbel4 := below_app hbel hbel.size hown hgrow4
            clear hgrow4 hown hbel
            go_wp2
            clear hg2 hgp hz hy hv HM
            have hlt2 : (t.extract (1 + (n + 7) / 8) t.size).size < t.size := by rw [het]; omega
            refine ⟨⟨tl, xs ++ [(y, (n : Int))], v', rfl, congrArg Value.string het, by simp; omega, HT.out, ?_, hbel4⟩, by simp only [strLen]; omega⟩
            rw [List.length_append, pfCells_snoc]
            exact hown4

end Go.Proofs.Ytjjakgmjoplhoaa
/-
  routelogkeep's pick and prefix, walked: what a raw number speaks of.
-/
namespace Go.Proofs.Ytjjakgmjoplhoaa
open Go.RowKit
open Rl

/-- which of n things the raw number c speaks of. -/
def pickI (c n : Int) : Int := (if c < 0 then -(c + 1) else c) % n

theorem pickI_bounds (c n : Int) (hn : 0 < n) : 0 ≤ pickI c n ∧ pickI c n < n := by
  unfold pickI
  exact ⟨Int.emod_nonneg _ (by omega), Int.emod_lt_of_pos _ hn⟩

def inI64 (c : Int) : Prop := -9223372036854775808 ≤ c ∧ c ≤ 9223372036854775807

set_option maxHeartbeats 800000 in
theorem pick_any (c n : Int) (w : World) (hc : inI64 c) (hn : 0 < n ∧ n ≤ 1000000000000) :
    Calls Try.prog 23 #[.int .i64 c, .int .i64 n] w fun e w' => e = .returned (.int .i64 (pickI c n)) ∧ w' = w := by
  have hb := pickI_bounds c n hn.1
  have hne : ¬ n = 0 := by omega
  obtain ⟨hc1, hc2⟩ := hc
  by_cases h : c < 0
  · have e : pickI c n = (-(c + 1)) % n := by unfold pickI; rw [if_pos h]
    rw [e] at hb ⊢
    have h1 : wrap64 (c + 1) = c + 1 := wrap64_in' _ (by omega) (by omega)
    have h2 : wrap64 (-(c + 1)) = -(c + 1) := wrap64_in' _ (by omega) (by omega)
    have h3 : (-(c + 1)).tmod n = (-(c + 1)) % n := Int.tmod_eq_emod_of_nonneg (by omega)
    have h4 : wrap64 ((-(c + 1)) % n) = (-(c + 1)) % n := wrap64_in' _ (by omega) (by omega)
    go_enter Try.func23, Try.ntmps23
    go_wp2
    go_ret
    exact ⟨rfl, rfl⟩
  · have e : pickI c n = c % n := by unfold pickI; rw [if_neg h]
    rw [e] at hb ⊢
    have h3 : c.tmod n = c % n := Int.tmod_eq_emod_of_nonneg (by omega)
    have h4 : wrap64 (c % n) = c % n := wrap64_in' _ (by omega) (by omega)
    go_enter Try.func23, Try.ntmps23
    go_wp2
    go_ret
    exact ⟨rfl, rfl⟩

/-- how many bits of the prefix matter. -/
def keepLen (v : Int) : Int := if pickI (v.tdiv 5) 4 = 0 then pickI (v.tdiv 20) 33 else 8 * pickI v 5
/-- its address, ahead of the cut. -/
def keepAddr (v : Int) : Int := 167772160 + 65536 * pickI (v.tdiv 7) 3 + 256 * pickI (v.tdiv 21) 3 + pickI (v.tdiv 63) 3
def keepP (v : Int) : Int × Int := (keepAddr v - keepAddr v % gap (keepLen v), keepLen v)

theorem keepLen_bounds (v : Int) : 0 ≤ keepLen v ∧ keepLen v ≤ 32 := by
  have h1 := pickI_bounds (v.tdiv 20) 33 (by omega)
  have h2 := pickI_bounds v 5 (by omega)
  unfold keepLen; split <;> omega

theorem keepAddr_bounds (v : Int) : 0 ≤ keepAddr v ∧ keepAddr v ≤ 167903746 := by
  have h1 := pickI_bounds (v.tdiv 7) 3 (by omega)
  have h2 := pickI_bounds (v.tdiv 21) 3 (by omega)
  have h3 := pickI_bounds (v.tdiv 63) 3 (by omega)
  unfold keepAddr; omega

theorem tdiv_in (v k : Int) (hv : inI64 v) (hk : 1 < k) : inI64 (v.tdiv k) ∧ wrap64 (v.tdiv k) = v.tdiv k := by
  obtain ⟨h1, h2⟩ := hv
  have hb : inI64 (v.tdiv k) := by
    unfold inI64
    by_cases h : 0 ≤ v
    · rw [Int.tdiv_eq_ediv_of_nonneg h]
      have h3 := Int.ediv_nonneg h (show 0 ≤ k by omega)
      have h4 : v / k ≤ v := Int.ediv_le_self k h
      omega
    · have e : v.tdiv k = -((-v).tdiv k) := by rw [Int.neg_tdiv]; omega
      rw [e, Int.tdiv_eq_ediv_of_nonneg (by omega)]
      have h3 := Int.ediv_nonneg (show 0 ≤ -v by omega) (show 0 ≤ k by omega)
      have h4 : (-v) / k ≤ -v := Int.ediv_le_self k (by omega)
      omega
  exact ⟨hb, wrap64_in' _ (by unfold inI64 at hb; omega) (by unfold inI64 at hb; omega)⟩

set_option maxRecDepth 20000 in
set_option maxHeartbeats 1600000 in
theorem keepPrefix_raw (v x5 x20 x7 x21 x63 q0 q1 q3 q4 q5 y : Int) (A n : Nat) (w : World) (e1 : wrap64 (v.tdiv 5) = x5) (e2 : wrap64 (v.tdiv 20) = x20) (e3 : wrap64 (v.tdiv 7) = x7) (e4 : wrap64 (v.tdiv 21) = x21) (e5 : wrap64 (v.tdiv 63) = x63)
    (p0 : ∀ w, Calls Try.prog 23 #[.int .i64 v, .int .i64 5] w fun e w' => e = .returned (.int .i64 q0) ∧ w' = w) (p1 : ∀ w, Calls Try.prog 23 #[.int .i64 x5, .int .i64 4] w fun e w' => e = .returned (.int .i64 q1) ∧ w' = w)
    (p2 : ∀ w, Calls Try.prog 23 #[.int .i64 x20, .int .i64 33] w fun e w' => e = .returned (.int .i64 (n : Int)) ∧ w' = w) (p3 : ∀ w, Calls Try.prog 23 #[.int .i64 x7, .int .i64 3] w fun e w' => e = .returned (.int .i64 q3) ∧ w' = w)
    (p4 : ∀ w, Calls Try.prog 23 #[.int .i64 x21, .int .i64 3] w fun e w' => e = .returned (.int .i64 q4) ∧ w' = w) (p5 : ∀ w, Calls Try.prog 23 #[.int .i64 x63, .int .i64 3] w fun e w' => e = .returned (.int .i64 q5) ∧ w' = w)
    (h1 : (q1 == 0) = true) (hn : n ≤ 32) (w1 : wrap64 (65536 * q3) = 65536 * q3) (w2 : wrap64 (167772160 + 65536 * q3) = 167772160 + 65536 * q3) (w3 : wrap64 (256 * q4) = 256 * q4) (w4 : wrap64 (167772160 + 65536 * q3 + 256 * q4) = 167772160 + 65536 * q3 + 256 * q4) (w5 : wrap64 (167772160 + 65536 * q3 + 256 * q4 + q5) = (A : Int)) (w7 : wrap64 (32 - (n : Int)) = 32 - (n : Int)) (hz : ¬ gap (n : Int) = 0) (hg2 : wrap64 ((2 : Int) ^ (32 - n)) = gap (n : Int)) (hy : wrap64 ((A : Int) - (A : Int) % gap n) = y) (_hgp : 0 < gap (n : Int)) (w6 : wrap64 (8 * q0) = 8 * q0) :
    Calls Try.prog 47 #[.int .i64 v] w fun e w' => e = .returned (.agg #[.int .i64 y, .int .i64 (n : Int)]) ∧ Below w.heap.size w w' := by
  go_enter Try.func47, Try.ntmps47
  go_wp2_with (first | (go_at_call_of 23 v; refine (p0 _).mono ?_; rintro e w' ⟨rfl, hw⟩; rw [hw]; clear hw w') | (go_at_call_of 23 x5; refine (p1 _).mono ?_; rintro e w' ⟨rfl, hw⟩; rw [hw]; clear hw w') | (go_at_call_of 23 x20; refine (p2 _).mono ?_; rintro e w' ⟨rfl, hw⟩; rw [hw]; clear hw w') | (go_at_call_of 23 x7; refine (p3 _).mono ?_; rintro e w' ⟨rfl, hw⟩; rw [hw]; clear hw w') | (go_at_call_of 23 x21; refine (p4 _).mono ?_; rintro e w' ⟨rfl, hw⟩; rw [hw]; clear hw w') | (go_at_call_of 23 x63; refine (p5 _).mono ?_; rintro e w' ⟨rfl, hw⟩; rw [hw]; clear hw w'))
  exact bodyPost_ret (v := .agg #[.int .i64 y, .int .i64 (n : Int)]) (by simp [results, Try.results47, go_sem]) rfl ⟨rfl, (Below.refl _ _).alloc (Nat.le_refl _) _⟩

set_option maxRecDepth 20000 in
set_option maxHeartbeats 1600000 in
theorem keepPrefix_raw8 (v x5 x20 x7 x21 x63 q0 q1 q2 q3 q4 q5 y : Int) (A n : Nat) (w : World) (e1 : wrap64 (v.tdiv 5) = x5) (_e2 : wrap64 (v.tdiv 20) = x20) (e3 : wrap64 (v.tdiv 7) = x7) (e4 : wrap64 (v.tdiv 21) = x21) (e5 : wrap64 (v.tdiv 63) = x63)
    (p0 : ∀ w, Calls Try.prog 23 #[.int .i64 v, .int .i64 5] w fun e w' => e = .returned (.int .i64 q0) ∧ w' = w) (p1 : ∀ w, Calls Try.prog 23 #[.int .i64 x5, .int .i64 4] w fun e w' => e = .returned (.int .i64 q1) ∧ w' = w)
    (_p2 : ∀ w, Calls Try.prog 23 #[.int .i64 x20, .int .i64 33] w fun e w' => e = .returned (.int .i64 q2) ∧ w' = w) (p3 : ∀ w, Calls Try.prog 23 #[.int .i64 x7, .int .i64 3] w fun e w' => e = .returned (.int .i64 q3) ∧ w' = w)
    (p4 : ∀ w, Calls Try.prog 23 #[.int .i64 x21, .int .i64 3] w fun e w' => e = .returned (.int .i64 q4) ∧ w' = w) (p5 : ∀ w, Calls Try.prog 23 #[.int .i64 x63, .int .i64 3] w fun e w' => e = .returned (.int .i64 q5) ∧ w' = w)
    (h1 : (q1 == 0) = false) (hn : n ≤ 32) (w1 : wrap64 (65536 * q3) = 65536 * q3) (w2 : wrap64 (167772160 + 65536 * q3) = 167772160 + 65536 * q3) (w3 : wrap64 (256 * q4) = 256 * q4) (w4 : wrap64 (167772160 + 65536 * q3 + 256 * q4) = 167772160 + 65536 * q3 + 256 * q4) (w5 : wrap64 (167772160 + 65536 * q3 + 256 * q4 + q5) = (A : Int)) (w7 : wrap64 (32 - (n : Int)) = 32 - (n : Int)) (hz : ¬ gap (n : Int) = 0) (hg2 : wrap64 ((2 : Int) ^ (32 - n)) = gap (n : Int)) (hy : wrap64 ((A : Int) - (A : Int) % gap n) = y) (_hgp : 0 < gap (n : Int)) (w6 : wrap64 (8 * q0) = (n : Int)) :
    Calls Try.prog 47 #[.int .i64 v] w fun e w' => e = .returned (.agg #[.int .i64 y, .int .i64 (n : Int)]) ∧ Below w.heap.size w w' := by
  go_enter Try.func47, Try.ntmps47
  go_wp2_with (first | (go_at_call_of 23 v; refine (p0 _).mono ?_; rintro e w' ⟨rfl, hw⟩; rw [hw]; clear hw w') | (go_at_call_of 23 x5; refine (p1 _).mono ?_; rintro e w' ⟨rfl, hw⟩; rw [hw]; clear hw w') | (go_at_call_of 23 x7; refine (p3 _).mono ?_; rintro e w' ⟨rfl, hw⟩; rw [hw]; clear hw w') | (go_at_call_of 23 x21; refine (p4 _).mono ?_; rintro e w' ⟨rfl, hw⟩; rw [hw]; clear hw w') | (go_at_call_of 23 x63; refine (p5 _).mono ?_; rintro e w' ⟨rfl, hw⟩; rw [hw]; clear hw w'))
  exact bodyPost_ret (v := .agg #[.int .i64 y, .int .i64 (n : Int)]) (by simp [results, Try.results47, go_sem]) rfl ⟨rfl, (Below.refl _ _).alloc (Nat.le_refl _) _⟩

theorem keepPrefix_any (v : Int) (w : World) (hv : inI64 v) :
    Calls Try.prog 47 #[.int .i64 v] w fun e w' => e = .returned (.agg #[.int .i64 (keepP v).1, .int .i64 (keepP v).2]) ∧ Below w.heap.size w w' := by
  have b0 := pickI_bounds v 5 (by omega)
  have b2 := pickI_bounds (v.tdiv 20) 33 (by omega)
  have b3 := pickI_bounds (v.tdiv 7) 3 (by omega)
  have b4 := pickI_bounds (v.tdiv 21) 3 (by omega)
  have b5 := pickI_bounds (v.tdiv 63) 3 (by omega)
  have hA := keepAddr_bounds v
  have hL := keepLen_bounds v
  obtain ⟨A, eA⟩ : ∃ A : Nat, keepAddr v = (A : Int) := ⟨(keepAddr v).toNat, by omega⟩
  obtain ⟨n, en⟩ : ∃ n : Nat, keepLen v = (n : Int) := ⟨(keepLen v).toNat, by omega⟩
  obtain ⟨hz, hg2⟩ := gap_facts n (by omega)
  have hgp := gap_pos (n : Int)
  have hy := cut_wrap A n (by omega)
  have hw7 : wrap64 (32 - (n : Int)) = 32 - (n : Int) := wrap64_in' _ (by omega) (by omega)
  have hsum : wrap64 (167772160 + 65536 * pickI (v.tdiv 7) 3 + 256 * pickI (v.tdiv 21) 3 + pickI (v.tdiv 63) 3) = (A : Int) := by
    have e : 167772160 + 65536 * pickI (v.tdiv 7) 3 + 256 * pickI (v.tdiv 21) 3 + pickI (v.tdiv 63) 3 = (A : Int) := by rw [← eA]; rfl
    rw [e]; exact wrap64_in' _ (by omega) (by omega)
  have hP : keepP v = ((A : Int) - (A : Int) % gap n, (n : Int)) := by unfold keepP; rw [eA, en]
  rw [hP]
  by_cases h1 : pickI (v.tdiv 5) 4 = 0
  · have e2 : pickI (v.tdiv 20) 33 = (n : Int) := by rw [← en]; unfold keepLen; rw [if_pos h1]
    exact keepPrefix_raw v _ _ _ _ _ _ _ _ _ _ _ A n w (tdiv_in v 5 hv (by omega)).2 (tdiv_in v 20 hv (by omega)).2 (tdiv_in v 7 hv (by omega)).2 (tdiv_in v 21 hv (by omega)).2 (tdiv_in v 63 hv (by omega)).2
      (fun w => pick_any v 5 w hv (by omega)) (fun w => pick_any (v.tdiv 5) 4 w (tdiv_in v 5 hv (by omega)).1 (by omega)) (fun w => by rw [← e2]; exact pick_any (v.tdiv 20) 33 w (tdiv_in v 20 hv (by omega)).1 (by omega)) (fun w => pick_any (v.tdiv 7) 3 w (tdiv_in v 7 hv (by omega)).1 (by omega)) (fun w => pick_any (v.tdiv 21) 3 w (tdiv_in v 21 hv (by omega)).1 (by omega)) (fun w => pick_any (v.tdiv 63) 3 w (tdiv_in v 63 hv (by omega)).1 (by omega))
      (by rw [h1]; rfl) (by omega) (wrap64_in' _ (by omega) (by omega)) (wrap64_in' _ (by omega) (by omega)) (wrap64_in' _ (by omega) (by omega)) (wrap64_in' _ (by omega) (by omega)) hsum hw7 hz hg2 hy hgp (wrap64_in' _ (by omega) (by omega))
  · have e8 : 8 * pickI v 5 = (n : Int) := by rw [← en]; unfold keepLen; rw [if_neg h1]
    exact keepPrefix_raw8 v _ _ _ _ _ _ _ _ _ _ _ _ A n w (tdiv_in v 5 hv (by omega)).2 (tdiv_in v 20 hv (by omega)).2 (tdiv_in v 7 hv (by omega)).2 (tdiv_in v 21 hv (by omega)).2 (tdiv_in v 63 hv (by omega)).2
      (fun w => pick_any v 5 w hv (by omega)) (fun w => pick_any (v.tdiv 5) 4 w (tdiv_in v 5 hv (by omega)).1 (by omega)) (fun w => pick_any (v.tdiv 20) 33 w (tdiv_in v 20 hv (by omega)).1 (by omega)) (fun w => pick_any (v.tdiv 7) 3 w (tdiv_in v 7 hv (by omega)).1 (by omega)) (fun w => pick_any (v.tdiv 21) 3 w (tdiv_in v 21 hv (by omega)).1 (by omega)) (fun w => pick_any (v.tdiv 63) 3 w (tdiv_in v 63 hv (by omega)).1 (by omega))
      (by rw [beq_eq_false_iff_ne]; exact h1) (by omega) (wrap64_in' _ (by omega) (by omega)) (wrap64_in' _ (by omega) (by omega)) (wrap64_in' _ (by omega) (by omega)) (wrap64_in' _ (by omega) (by omega)) hsum hw7 hz hg2 hy hgp (by rw [e8]; exact wrap64_in' _ (by omega) (by omega))

end Go.Proofs.Ytjjakgmjoplhoaa
/-
  routeloglaw.sameP, walked: of two lists of the same prefixes it answers true.
-/
namespace Go.Proofs.Ytjjakgmjoplhoaa
open Go.RowKit
open Rl

set_option maxRecDepth 20000 in
set_option maxHeartbeats 2000000 in
theorem sameP_any (va vb : Value) (l : List (Int × Int)) (a0 a1 : Option Addr) (c0 c1 : Nat) (w : World) (hl : l.length ≤ 1073741824) (ha : va = .slice a0 l.length c0) (hb : vb = .slice a1 l.length c1) (hra : RowAt w va l.length 2 (pfCells l)) (hrb : RowAt w vb l.length 2 (pfCells l)) :
    Calls Try.prog 14 #[va, vb] w fun e w' => e = .returned (.bool true) ∧ Below w.heap.size w w' := by
  rcases hra.2 with ⟨x, y, hv, hn⟩ | ⟨b, o, cap, hv, hn, hbk, hc⟩
  · have e0 : l = [] := List.eq_nil_of_length_eq_zero hn
    subst e0
    subst ha hb
    go_enter Try.func14, Try.ntmps14
    go_wp2
    refine wp_loop_rounds 1 ?_
    rw [rounds_succ]
    go_wp2
    go_ret
    exact ⟨rfl, Below.refl _ _⟩
  · rcases hrb.2 with ⟨x, y, hv2, hn2⟩ | ⟨b2, o2, cap2, hv2, hn2, hbk2, hc2⟩
    · omega
    · clear ha hb
      subst hv hv2
      have hne : ((l.length : Int) != (l.length : Int)) = false := by simp
      go_enter Try.func14, Try.ntmps14
      go_wp2
      go_loopw [5] (fun i wr => ∃ k : Nat, k ≤ l.length ∧ i = .int .i64 k ∧ Below w.heap.size w wr) (fun i _ => l.length - (intOf i).toNat)
      case atStart => exact ⟨0, Nat.zero_le _, rfl, Below.refl _ _⟩
      case round =>
        obtain ⟨k, hk, rfl, hbel⟩ := hrel
        by_cases hlt : k < l.length
        · obtain ⟨g1, g2⟩ := pfCells_get l k hlt
          have q1 := (hbel.cell (p := ⟨b, o + k * 2, none⟩) hbk).trans (hc _ _ g1)
          have q2 := (hbel.cell (p := ⟨b, o + k * 2 + 1, none⟩) hbk).trans (hc _ _ g2)
          have q3 := (hbel.cell (p := ⟨b2, o2 + k * 2, none⟩) hbk2).trans (hc2 _ _ g1)
          have q4 := (hbel.cell (p := ⟨b2, o2 + k * 2 + 1, none⟩) hbk2).trans (hc2 _ _ g2)
          clear hc hc2 g1 g2
          generalize l[k].1 = p at *
          generalize l[k].2 = q at *
          have hlt' : (k : Int) < (l.length : Int) := by omega
          have hk0 : (0 : Int) ≤ (k : Int) := by omega
          go_wp2
          go_quiet (fail)
          go_wp2
          exact ⟨⟨k + 1, by omega, by go_num, below_drewN hbel _⟩, by simp [intOf]; omega⟩
        · clear hc hc2
          go_wp2
          go_ret
          exact ⟨rfl, hbel⟩

end Go.Proofs.Ytjjakgmjoplhoaa
/-
  routelogkeep's bytes and same, walked: they are the document's own and the law's.
-/
namespace Go.Proofs.Ytjjakgmjoplhoaa
open Go.RowKit
open Rl

set_option maxHeartbeats 400000 in
theorem keepBytes_any (n m : Nat) (w : World) (hn : n < 9223372036854775808) (hm : m ≤ 8) :
    Calls Try.prog 26 #[.int .i64 n, .int .i64 m] w fun e w' => e = .returned (.string ⟨(be m n).toArray⟩) ∧ Below w.heap.size w w' := by
  obtain ⟨i0, hi, hz0, hz1, hz2⟩ := info_parts info_u8
  go_enter Try.func26, Try.ntmps26
  go_wp2_with (at_make; refine wpList_make_full _ rfl _ _ 59 rfl w.heap.size 5 i0 (.int .u8 0) 1 Try.underlying59 hi hz0 hz1 .i64 .i64 _ _ m rfl rfl rfl rfl (by rw [hz2]; omega) (by unfold maxLen; omega) (Nat.le_refl _) ?_; intro w1 hown hgrow)
  rw [zeros_u8] at hown
  go_loopw [0, 6] (fun x i wr => ∃ j : Nat, j ≤ m ∧ i = .int .i64 ((j : Int) - 1) ∧ x = .int .i64 ((n / 256 ^ (m - j) : Nat) : Int) ∧ wr.ownsRow w.heap.size 5 1 (.slice (some ⟨w.heap.size, 0, none⟩) m m) m (u8s (beRow m n j)) ∧ Below w.heap.size w wr) (fun _ i _ => (intOf i + 1).toNat)
  case atStart => exact ⟨m, Nat.le_refl _, rfl, by simp, by rw [beRow_all]; exact hown, (Below.refl _ _).grown hgrow (Nat.le_refl _) (by simp)⟩
  case round =>
    obtain ⟨j, hj, rfl, rfl, hr, hb⟩ := hrel
    cases j with
    | zero =>
      rw [beRow_zero] at hr
      have hconv : (convert 59 9 (.slice (some ⟨w.heap.size, 0, none⟩) m m)).run Try.prog wr = .ok (.string ⟨(be m n).toArray⟩) wr := by
        have h := run_convert_bytes_back (P := Try.prog) wr 59 9 5 ⟨w.heap.size, 0, none⟩ m (be m n) Try.underlying59 Try.underlying5 Try.underlying9 (by
          intro j hj
          have := hr.cellAt j (by rw [be_length] at hj; omega)
          rw [add_head, this, u8s_get _ _ hj])
        rwa [be_length] at h
      go_wp2
      go_ret
      exact ⟨rfl, hb⟩
    | succ j =>
      have hcell := hr.cellAt j (by omega)
      rw [u8s_get _ _ (by rw [beRow_length _ _ _ hj]; omega)] at hcell
      have hfrozen := hr.frozenAt j
      have hdiv := div_le' n (m - (j + 1))
      have H := hide (hr.stored j (.int .u8 (((n / 256 ^ (m - (j + 1)) : Nat) : Int) % 256)))
      have HS := hide (div_step n m j (by omega))
      have HR := hide (beRow_step m n j (by omega))
      generalize n / 256 ^ (m - (j + 1)) = q at *
      clear hr
      go_wp2
      go_roundw
      case rel => exact ⟨j, by omega, by go_num, by rw [← HS.out]; go_num, by have h := H.out.1; rw [set_u8s _ _ _ _ (toNat_mod q).symm, HR.out] at h; exact h, hb.setCell (by simp) _⟩
      case measure => simp [intOf]

set_option maxRecDepth 20000 in
set_option maxHeartbeats 2000000 in
theorem keepSame_any (va vb : Value) (l : List (Int × Int)) (a0 a1 : Option Addr) (c0 c1 : Nat) (w : World) (hl : l.length ≤ 1073741824) (ha : va = .slice a0 l.length c0) (hb : vb = .slice a1 l.length c1) (hra : RowAt w va l.length 2 (pfCells l)) (hrb : RowAt w vb l.length 2 (pfCells l)) :
    Calls Try.prog 22 #[va, vb] w fun e w' => e = .returned (.bool true) ∧ Below w.heap.size w w' := by
  rcases hra.2 with ⟨x, y, hv, hn⟩ | ⟨b, o, cap, hv, hn, hbk, hc⟩
  · have e0 : l = [] := List.eq_nil_of_length_eq_zero hn
    subst e0
    subst ha hb
    go_enter Try.func22, Try.ntmps22
    go_wp2
    refine wp_loop_rounds 1 ?_
    rw [rounds_succ]
    go_wp2
    go_ret
    exact ⟨rfl, Below.refl _ _⟩
  · rcases hrb.2 with ⟨x, y, hv2, hn2⟩ | ⟨b2, o2, cap2, hv2, hn2, hbk2, hc2⟩
    · omega
    · clear ha hb
      subst hv hv2
      have hne : ((l.length : Int) != (l.length : Int)) = false := by simp
      go_enter Try.func22, Try.ntmps22
      go_wp2
      go_loopw [5] (fun i wr => ∃ k : Nat, k ≤ l.length ∧ i = .int .i64 k ∧ Below w.heap.size w wr) (fun i _ => l.length - (intOf i).toNat)
      case atStart => exact ⟨0, Nat.zero_le _, rfl, Below.refl _ _⟩
      case round =>
        obtain ⟨k, hk, rfl, hbel⟩ := hrel
        by_cases hlt : k < l.length
        · obtain ⟨g1, g2⟩ := pfCells_get l k hlt
          have q1 := (hbel.cell (p := ⟨b, o + k * 2, none⟩) hbk).trans (hc _ _ g1)
          have q2 := (hbel.cell (p := ⟨b, o + k * 2 + 1, none⟩) hbk).trans (hc _ _ g2)
          have q3 := (hbel.cell (p := ⟨b2, o2 + k * 2, none⟩) hbk2).trans (hc2 _ _ g1)
          have q4 := (hbel.cell (p := ⟨b2, o2 + k * 2 + 1, none⟩) hbk2).trans (hc2 _ _ g2)
          clear hc hc2 g1 g2
          generalize l[k].1 = p at *
          generalize l[k].2 = q at *
          have hlt' : (k : Int) < (l.length : Int) := by omega
          have hk0 : (0 : Int) ≤ (k : Int) := by omega
          go_wp2
          go_quiet (fail)
          go_wp2
          exact ⟨⟨k + 1, by omega, by go_num, below_drewN hbel _⟩, by simp [intOf]; omega⟩
        · clear hc hc2
          go_wp2
          go_ret
          exact ⟨rfl, hbel⟩

end Go.Proofs.Ytjjakgmjoplhoaa
