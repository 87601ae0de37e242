/-
  routelogkeep's pick and prefix, walked: what a raw number speaks of.
-/
import Derived.Test.YteoacdkgicfomaaRefPfx
import Derived.Test.YteoacdkgicfomaaPfxWalks
import Derived.Test.YteoacdkgicfomaaBeWalks
import Derived.Test.YteoacdkgicfomaaChange
import Derived.Test.YteoacdkgicfomaaToldWalks
import Derived.Deep.RegionHeld
import Derived.Test.YteoacdkgicfomaaAnnMath
import Derived.Test.YteoacdkgicfomaaT1
import Derived.Deep.Cut
import Derived.Deep.CutRange
import Derived.Deep.DeepCutAuto
namespace Go.Proofs.Yteoacdkgicfomaa
open Go.RowKit
open Rl

/-- which of n things the raw number c speaks of. -/
def pickI (c n : Int) : Int := (if c < 0 then -(c + 1) else c) % n

theorem pickI_bounds (c n : Int) (hn : 0 < n) : 0 ≤ pickI c n ∧ pickI c n < n := by
  unfold pickI
  exact ⟨Int.emod_nonneg _ (by omega), Int.emod_lt_of_pos _ hn⟩

def inI64 (c : Int) : Prop := -9223372036854775808 ≤ c ∧ c ≤ 9223372036854775807

set_option maxHeartbeats 800000 in
theorem pick_any (c n : Int) (w : World) (hc : inI64 c) (hn : 0 < n ∧ n ≤ 1000000000000) :
    Calls Try.prog 23 #[.int .i64 c, .int .i64 n] w fun e w' => e = .returned (.int .i64 (pickI c n)) ∧ w' = w := by
  have hb := pickI_bounds c n hn.1
  have hne : ¬ n = 0 := by omega
  obtain ⟨hc1, hc2⟩ := hc
  by_cases h : c < 0
  · have e : pickI c n = (-(c + 1)) % n := by unfold pickI; rw [if_pos h]
    rw [e] at hb ⊢
    have h1 : wrap64 (c + 1) = c + 1 := wrap64_in' _ (by omega) (by omega)
    have h2 : wrap64 (-(c + 1)) = -(c + 1) := wrap64_in' _ (by omega) (by omega)
    have h3 : (-(c + 1)).tmod n = (-(c + 1)) % n := Int.tmod_eq_emod_of_nonneg (by omega)
    have h4 : wrap64 ((-(c + 1)) % n) = (-(c + 1)) % n := wrap64_in' _ (by omega) (by omega)
    go_enter Try.func23, Try.ntmps23
    go_wp2
    go_ret
    exact ⟨rfl, rfl⟩
  · have e : pickI c n = c % n := by unfold pickI; rw [if_neg h]
    rw [e] at hb ⊢
    have h3 : c.tmod n = c % n := Int.tmod_eq_emod_of_nonneg (by omega)
    have h4 : wrap64 (c % n) = c % n := wrap64_in' _ (by omega) (by omega)
    go_enter Try.func23, Try.ntmps23
    go_wp2
    go_ret
    exact ⟨rfl, rfl⟩

/-- how many bits of the prefix matter. -/
def keepLen (v : Int) : Int := if pickI (v.tdiv 5) 4 = 0 then pickI (v.tdiv 20) 33 else 8 * pickI v 5
/-- its address, ahead of the cut. -/
def keepAddr (v : Int) : Int := 167772160 + 65536 * pickI (v.tdiv 7) 3 + 256 * pickI (v.tdiv 21) 3 + pickI (v.tdiv 63) 3
def keepP (v : Int) : Int × Int := (keepAddr v - keepAddr v % gap (keepLen v), keepLen v)

theorem keepLen_bounds (v : Int) : 0 ≤ keepLen v ∧ keepLen v ≤ 32 := by
  have h1 := pickI_bounds (v.tdiv 20) 33 (by omega)
  have h2 := pickI_bounds v 5 (by omega)
  unfold keepLen; split <;> omega

theorem keepAddr_bounds (v : Int) : 0 ≤ keepAddr v ∧ keepAddr v ≤ 167903746 := by
  have h1 := pickI_bounds (v.tdiv 7) 3 (by omega)
  have h2 := pickI_bounds (v.tdiv 21) 3 (by omega)
  have h3 := pickI_bounds (v.tdiv 63) 3 (by omega)
  unfold keepAddr; omega

theorem tdiv_in (v k : Int) (hv : inI64 v) (hk : 1 < k) : inI64 (v.tdiv k) ∧ wrap64 (v.tdiv k) = v.tdiv k := by
  obtain ⟨h1, h2⟩ := hv
  have hb : inI64 (v.tdiv k) := by
    unfold inI64
    by_cases h : 0 ≤ v
    · rw [Int.tdiv_eq_ediv_of_nonneg h]
      have h3 := Int.ediv_nonneg h (show 0 ≤ k by omega)
      have h4 : v / k ≤ v := Int.ediv_le_self k h
      omega
    · have e : v.tdiv k = -((-v).tdiv k) := by rw [Int.neg_tdiv]; omega
      rw [e, Int.tdiv_eq_ediv_of_nonneg (by omega)]
      have h3 := Int.ediv_nonneg (show 0 ≤ -v by omega) (show 0 ≤ k by omega)
      have h4 : (-v) / k ≤ -v := Int.ediv_le_self k (by omega)
      omega
  exact ⟨hb, wrap64_in' _ (by unfold inI64 at hb; omega) (by unfold inI64 at hb; omega)⟩

set_option maxRecDepth 20000 in
set_option maxHeartbeats 1600000 in
theorem keepPrefix_raw (v x5 x20 x7 x21 x63 q0 q1 q3 q4 q5 y : Int) (A n : Nat) (w : World) (e1 : wrap64 (v.tdiv 5) = x5) (e2 : wrap64 (v.tdiv 20) = x20) (e3 : wrap64 (v.tdiv 7) = x7) (e4 : wrap64 (v.tdiv 21) = x21) (e5 : wrap64 (v.tdiv 63) = x63)
    (p0 : ∀ w, Calls Try.prog 23 #[.int .i64 v, .int .i64 5] w fun e w' => e = .returned (.int .i64 q0) ∧ w' = w) (p1 : ∀ w, Calls Try.prog 23 #[.int .i64 x5, .int .i64 4] w fun e w' => e = .returned (.int .i64 q1) ∧ w' = w)
    (p2 : ∀ w, Calls Try.prog 23 #[.int .i64 x20, .int .i64 33] w fun e w' => e = .returned (.int .i64 (n : Int)) ∧ w' = w) (p3 : ∀ w, Calls Try.prog 23 #[.int .i64 x7, .int .i64 3] w fun e w' => e = .returned (.int .i64 q3) ∧ w' = w)
    (p4 : ∀ w, Calls Try.prog 23 #[.int .i64 x21, .int .i64 3] w fun e w' => e = .returned (.int .i64 q4) ∧ w' = w) (p5 : ∀ w, Calls Try.prog 23 #[.int .i64 x63, .int .i64 3] w fun e w' => e = .returned (.int .i64 q5) ∧ w' = w)
    (h1 : (q1 == 0) = true) (hn : n ≤ 32) (w1 : wrap64 (65536 * q3) = 65536 * q3) (w2 : wrap64 (167772160 + 65536 * q3) = 167772160 + 65536 * q3) (w3 : wrap64 (256 * q4) = 256 * q4) (w4 : wrap64 (167772160 + 65536 * q3 + 256 * q4) = 167772160 + 65536 * q3 + 256 * q4) (w5 : wrap64 (167772160 + 65536 * q3 + 256 * q4 + q5) = (A : Int)) (w7 : wrap64 (32 - (n : Int)) = 32 - (n : Int)) (hz : ¬ gap (n : Int) = 0) (hg2 : wrap64 ((2 : Int) ^ (32 - n)) = gap (n : Int)) (hy : wrap64 ((A : Int) - (A : Int) % gap n) = y) (_hgp : 0 < gap (n : Int)) (w6 : wrap64 (8 * q0) = 8 * q0) :
    Calls Try.prog 47 #[.int .i64 v] w fun e w' => e = .returned (.agg #[.int .i64 y, .int .i64 (n : Int)]) ∧ Below w.heap.size w w' := by
  go_enter Try.func47, Try.ntmps47
  go_wp2_with (first | (go_at_call_of 23 v; refine (p0 _).mono ?_; rintro e w' ⟨rfl, hw⟩; rw [hw]; clear hw w') | (go_at_call_of 23 x5; refine (p1 _).mono ?_; rintro e w' ⟨rfl, hw⟩; rw [hw]; clear hw w') | (go_at_call_of 23 x20; refine (p2 _).mono ?_; rintro e w' ⟨rfl, hw⟩; rw [hw]; clear hw w') | (go_at_call_of 23 x7; refine (p3 _).mono ?_; rintro e w' ⟨rfl, hw⟩; rw [hw]; clear hw w') | (go_at_call_of 23 x21; refine (p4 _).mono ?_; rintro e w' ⟨rfl, hw⟩; rw [hw]; clear hw w') | (go_at_call_of 23 x63; refine (p5 _).mono ?_; rintro e w' ⟨rfl, hw⟩; rw [hw]; clear hw w'))
  exact bodyPost_ret (v := .agg #[.int .i64 y, .int .i64 (n : Int)]) (by simp [results, Try.results47, go_sem]) rfl ⟨rfl, (Below.refl _ _).alloc (Nat.le_refl _) _⟩

set_option maxRecDepth 20000 in
set_option maxHeartbeats 1600000 in
theorem keepPrefix_raw8 (v x5 x20 x7 x21 x63 q0 q1 q2 q3 q4 q5 y : Int) (A n : Nat) (w : World) (e1 : wrap64 (v.tdiv 5) = x5) (_e2 : wrap64 (v.tdiv 20) = x20) (e3 : wrap64 (v.tdiv 7) = x7) (e4 : wrap64 (v.tdiv 21) = x21) (e5 : wrap64 (v.tdiv 63) = x63)
    (p0 : ∀ w, Calls Try.prog 23 #[.int .i64 v, .int .i64 5] w fun e w' => e = .returned (.int .i64 q0) ∧ w' = w) (p1 : ∀ w, Calls Try.prog 23 #[.int .i64 x5, .int .i64 4] w fun e w' => e = .returned (.int .i64 q1) ∧ w' = w)
    (_p2 : ∀ w, Calls Try.prog 23 #[.int .i64 x20, .int .i64 33] w fun e w' => e = .returned (.int .i64 q2) ∧ w' = w) (p3 : ∀ w, Calls Try.prog 23 #[.int .i64 x7, .int .i64 3] w fun e w' => e = .returned (.int .i64 q3) ∧ w' = w)
    (p4 : ∀ w, Calls Try.prog 23 #[.int .i64 x21, .int .i64 3] w fun e w' => e = .returned (.int .i64 q4) ∧ w' = w) (p5 : ∀ w, Calls Try.prog 23 #[.int .i64 x63, .int .i64 3] w fun e w' => e = .returned (.int .i64 q5) ∧ w' = w)
    (h1 : (q1 == 0) = false) (hn : n ≤ 32) (w1 : wrap64 (65536 * q3) = 65536 * q3) (w2 : wrap64 (167772160 + 65536 * q3) = 167772160 + 65536 * q3) (w3 : wrap64 (256 * q4) = 256 * q4) (w4 : wrap64 (167772160 + 65536 * q3 + 256 * q4) = 167772160 + 65536 * q3 + 256 * q4) (w5 : wrap64 (167772160 + 65536 * q3 + 256 * q4 + q5) = (A : Int)) (w7 : wrap64 (32 - (n : Int)) = 32 - (n : Int)) (hz : ¬ gap (n : Int) = 0) (hg2 : wrap64 ((2 : Int) ^ (32 - n)) = gap (n : Int)) (hy : wrap64 ((A : Int) - (A : Int) % gap n) = y) (_hgp : 0 < gap (n : Int)) (w6 : wrap64 (8 * q0) = (n : Int)) :
    Calls Try.prog 47 #[.int .i64 v] w fun e w' => e = .returned (.agg #[.int .i64 y, .int .i64 (n : Int)]) ∧ Below w.heap.size w w' := by
  go_enter Try.func47, Try.ntmps47
  go_wp2_with (first | (go_at_call_of 23 v; refine (p0 _).mono ?_; rintro e w' ⟨rfl, hw⟩; rw [hw]; clear hw w') | (go_at_call_of 23 x5; refine (p1 _).mono ?_; rintro e w' ⟨rfl, hw⟩; rw [hw]; clear hw w') | (go_at_call_of 23 x7; refine (p3 _).mono ?_; rintro e w' ⟨rfl, hw⟩; rw [hw]; clear hw w') | (go_at_call_of 23 x21; refine (p4 _).mono ?_; rintro e w' ⟨rfl, hw⟩; rw [hw]; clear hw w') | (go_at_call_of 23 x63; refine (p5 _).mono ?_; rintro e w' ⟨rfl, hw⟩; rw [hw]; clear hw w'))
  exact bodyPost_ret (v := .agg #[.int .i64 y, .int .i64 (n : Int)]) (by simp [results, Try.results47, go_sem]) rfl ⟨rfl, (Below.refl _ _).alloc (Nat.le_refl _) _⟩

theorem keepPrefix_any (v : Int) (w : World) (hv : inI64 v) :
    Calls Try.prog 47 #[.int .i64 v] w fun e w' => e = .returned (.agg #[.int .i64 (keepP v).1, .int .i64 (keepP v).2]) ∧ Below w.heap.size w w' := by
  have b0 := pickI_bounds v 5 (by omega)
  have b2 := pickI_bounds (v.tdiv 20) 33 (by omega)
  have b3 := pickI_bounds (v.tdiv 7) 3 (by omega)
  have b4 := pickI_bounds (v.tdiv 21) 3 (by omega)
  have b5 := pickI_bounds (v.tdiv 63) 3 (by omega)
  have hA := keepAddr_bounds v
  have hL := keepLen_bounds v
  obtain ⟨A, eA⟩ : ∃ A : Nat, keepAddr v = (A : Int) := ⟨(keepAddr v).toNat, by omega⟩
  obtain ⟨n, en⟩ : ∃ n : Nat, keepLen v = (n : Int) := ⟨(keepLen v).toNat, by omega⟩
  obtain ⟨hz, hg2⟩ := gap_facts n (by omega)
  have hgp := gap_pos (n : Int)
  have hy := cut_wrap A n (by omega)
  have hw7 : wrap64 (32 - (n : Int)) = 32 - (n : Int) := wrap64_in' _ (by omega) (by omega)
  have hsum : wrap64 (167772160 + 65536 * pickI (v.tdiv 7) 3 + 256 * pickI (v.tdiv 21) 3 + pickI (v.tdiv 63) 3) = (A : Int) := by
    have e : 167772160 + 65536 * pickI (v.tdiv 7) 3 + 256 * pickI (v.tdiv 21) 3 + pickI (v.tdiv 63) 3 = (A : Int) := by rw [← eA]; rfl
    rw [e]; exact wrap64_in' _ (by omega) (by omega)
  have hP : keepP v = ((A : Int) - (A : Int) % gap n, (n : Int)) := by unfold keepP; rw [eA, en]
  rw [hP]
  by_cases h1 : pickI (v.tdiv 5) 4 = 0
  · have e2 : pickI (v.tdiv 20) 33 = (n : Int) := by rw [← en]; unfold keepLen; rw [if_pos h1]
    exact keepPrefix_raw v _ _ _ _ _ _ _ _ _ _ _ A n w (tdiv_in v 5 hv (by omega)).2 (tdiv_in v 20 hv (by omega)).2 (tdiv_in v 7 hv (by omega)).2 (tdiv_in v 21 hv (by omega)).2 (tdiv_in v 63 hv (by omega)).2
      (fun w => pick_any v 5 w hv (by omega)) (fun w => pick_any (v.tdiv 5) 4 w (tdiv_in v 5 hv (by omega)).1 (by omega)) (fun w => by rw [← e2]; exact pick_any (v.tdiv 20) 33 w (tdiv_in v 20 hv (by omega)).1 (by omega)) (fun w => pick_any (v.tdiv 7) 3 w (tdiv_in v 7 hv (by omega)).1 (by omega)) (fun w => pick_any (v.tdiv 21) 3 w (tdiv_in v 21 hv (by omega)).1 (by omega)) (fun w => pick_any (v.tdiv 63) 3 w (tdiv_in v 63 hv (by omega)).1 (by omega))
      (by rw [h1]; rfl) (by omega) (wrap64_in' _ (by omega) (by omega)) (wrap64_in' _ (by omega) (by omega)) (wrap64_in' _ (by omega) (by omega)) (wrap64_in' _ (by omega) (by omega)) hsum hw7 hz hg2 hy hgp (wrap64_in' _ (by omega) (by omega))
  · have e8 : 8 * pickI v 5 = (n : Int) := by rw [← en]; unfold keepLen; rw [if_neg h1]
    exact keepPrefix_raw8 v _ _ _ _ _ _ _ _ _ _ _ _ A n w (tdiv_in v 5 hv (by omega)).2 (tdiv_in v 20 hv (by omega)).2 (tdiv_in v 7 hv (by omega)).2 (tdiv_in v 21 hv (by omega)).2 (tdiv_in v 63 hv (by omega)).2
      (fun w => pick_any v 5 w hv (by omega)) (fun w => pick_any (v.tdiv 5) 4 w (tdiv_in v 5 hv (by omega)).1 (by omega)) (fun w => pick_any (v.tdiv 20) 33 w (tdiv_in v 20 hv (by omega)).1 (by omega)) (fun w => pick_any (v.tdiv 7) 3 w (tdiv_in v 7 hv (by omega)).1 (by omega)) (fun w => pick_any (v.tdiv 21) 3 w (tdiv_in v 21 hv (by omega)).1 (by omega)) (fun w => pick_any (v.tdiv 63) 3 w (tdiv_in v 63 hv (by omega)).1 (by omega))
      (by rw [beq_eq_false_iff_ne]; exact h1) (by omega) (wrap64_in' _ (by omega) (by omega)) (wrap64_in' _ (by omega) (by omega)) (wrap64_in' _ (by omega) (by omega)) (wrap64_in' _ (by omega) (by omega)) hsum hw7 hz hg2 hy hgp (by rw [e8]; exact wrap64_in' _ (by omega) (by omega))

end Go.Proofs.Yteoacdkgicfomaa
/-
  routeloglaw.sameP, walked: of two lists of the same prefixes it answers true.
-/
namespace Go.Proofs.Yteoacdkgicfomaa
open Go.RowKit
open Rl

set_option maxRecDepth 20000 in
set_option maxHeartbeats 2000000 in
theorem sameP_any (va vb : Value) (l : List (Int × Int)) (a0 a1 : Option Addr) (c0 c1 : Nat) (w : World) (hl : l.length ≤ 1073741824) (ha : va = .slice a0 l.length c0) (hb : vb = .slice a1 l.length c1) (hra : RowAt w va l.length 2 (pfCells l)) (hrb : RowAt w vb l.length 2 (pfCells l)) :
    Calls Try.prog 14 #[va, vb] w fun e w' => e = .returned (.bool true) ∧ Below w.heap.size w w' := by
  rcases hra.2 with ⟨x, y, hv, hn⟩ | ⟨b, o, cap, hv, hn, hbk, hc⟩
  · have e0 : l = [] := List.eq_nil_of_length_eq_zero hn
    subst e0
    subst ha hb
    go_enter Try.func14, Try.ntmps14
    go_wp2
    refine wp_loop_rounds 1 ?_
    rw [rounds_succ]
    go_wp2
    go_ret
    exact ⟨rfl, Below.refl _ _⟩
  · rcases hrb.2 with ⟨x, y, hv2, hn2⟩ | ⟨b2, o2, cap2, hv2, hn2, hbk2, hc2⟩
    · omega
    · clear ha hb
      subst hv hv2
      have hne : ((l.length : Int) != (l.length : Int)) = false := by simp
      go_enter Try.func14, Try.ntmps14
      go_wp2
      go_loopw [5] (fun i wr => ∃ k : Nat, k ≤ l.length ∧ i = .int .i64 k ∧ Below w.heap.size w wr) (fun i _ => l.length - (intOf i).toNat)
      case atStart => exact ⟨0, Nat.zero_le _, rfl, Below.refl _ _⟩
      case round =>
        obtain ⟨k, hk, rfl, hbel⟩ := hrel
        by_cases hlt : k < l.length
        · obtain ⟨g1, g2⟩ := pfCells_get l k hlt
          have q1 := (hbel.cell (p := ⟨b, o + k * 2, none⟩) hbk).trans (hc _ _ g1)
          have q2 := (hbel.cell (p := ⟨b, o + k * 2 + 1, none⟩) hbk).trans (hc _ _ g2)
          have q3 := (hbel.cell (p := ⟨b2, o2 + k * 2, none⟩) hbk2).trans (hc2 _ _ g1)
          have q4 := (hbel.cell (p := ⟨b2, o2 + k * 2 + 1, none⟩) hbk2).trans (hc2 _ _ g2)
          clear hc hc2 g1 g2
          generalize l[k].1 = p at *
          generalize l[k].2 = q at *
          have hlt' : (k : Int) < (l.length : Int) := by omega
          have hk0 : (0 : Int) ≤ (k : Int) := by omega
          go_wp2
          go_quiet (fail)
          go_wp2
          exact ⟨⟨k + 1, by omega, by go_num, below_drewN hbel _⟩, by simp [intOf]; omega⟩
        · clear hc hc2
          go_wp2
          go_ret
          exact ⟨rfl, hbel⟩

end Go.Proofs.Yteoacdkgicfomaa
/-
  routelogkeep's bytes and same, walked: they are the document's own and the law's.
-/
namespace Go.Proofs.Yteoacdkgicfomaa
open Go.RowKit
open Rl

set_option maxHeartbeats 400000 in
theorem keepBytes_any (n m : Nat) (w : World) (hn : n < 9223372036854775808) (hm : m ≤ 8) :
    Calls Try.prog 26 #[.int .i64 n, .int .i64 m] w fun e w' => e = .returned (.string ⟨(be m n).toArray⟩) ∧ Below w.heap.size w w' := by
  obtain ⟨i0, hi, hz0, hz1, hz2⟩ := info_parts info_u8
  go_enter Try.func26, Try.ntmps26
  go_wp2_with (at_make; refine wpList_make_full _ rfl _ _ 59 rfl w.heap.size 5 i0 (.int .u8 0) 1 Try.underlying59 hi hz0 hz1 .i64 .i64 _ _ m rfl rfl rfl rfl (by rw [hz2]; omega) (by unfold maxLen; omega) (Nat.le_refl _) ?_; intro w1 hown hgrow)
  rw [zeros_u8] at hown
  go_loopw [0, 6] (fun x i wr => ∃ j : Nat, j ≤ m ∧ i = .int .i64 ((j : Int) - 1) ∧ x = .int .i64 ((n / 256 ^ (m - j) : Nat) : Int) ∧ wr.ownsRow w.heap.size 5 1 (.slice (some ⟨w.heap.size, 0, none⟩) m m) m (u8s (beRow m n j)) ∧ Below w.heap.size w wr) (fun _ i _ => (intOf i + 1).toNat)
  case atStart => exact ⟨m, Nat.le_refl _, rfl, by simp, by rw [beRow_all]; exact hown, (Below.refl _ _).grown hgrow (Nat.le_refl _) (by simp)⟩
  case round =>
    obtain ⟨j, hj, rfl, rfl, hr, hb⟩ := hrel
    cases j with
    | zero =>
      rw [beRow_zero] at hr
      have hconv : (convert 59 9 (.slice (some ⟨w.heap.size, 0, none⟩) m m)).run Try.prog wr = .ok (.string ⟨(be m n).toArray⟩) wr := by
        have h := run_convert_bytes_back (P := Try.prog) wr 59 9 5 ⟨w.heap.size, 0, none⟩ m (be m n) Try.underlying59 Try.underlying5 Try.underlying9 (by
          intro j hj
          have := hr.cellAt j (by rw [be_length] at hj; omega)
          rw [add_head, this, u8s_get _ _ hj])
        rwa [be_length] at h
      go_wp2
      go_ret
      exact ⟨rfl, hb⟩
    | succ j =>
      have hcell := hr.cellAt j (by omega)
      rw [u8s_get _ _ (by rw [beRow_length _ _ _ hj]; omega)] at hcell
      have hfrozen := hr.frozenAt j
      have hdiv := div_le' n (m - (j + 1))
      have H := hide (hr.stored j (.int .u8 (((n / 256 ^ (m - (j + 1)) : Nat) : Int) % 256)))
      have HS := hide (div_step n m j (by omega))
      have HR := hide (beRow_step m n j (by omega))
      generalize n / 256 ^ (m - (j + 1)) = q at *
      clear hr
      go_wp2
      go_roundw
      case rel => exact ⟨j, by omega, by go_num, by rw [← HS.out]; go_num, by have h := H.out.1; rw [set_u8s _ _ _ _ (toNat_mod q).symm, HR.out] at h; exact h, hb.setCell (by simp) _⟩
      case measure => simp [intOf]

set_option maxRecDepth 20000 in
set_option maxHeartbeats 2000000 in
theorem keepSame_any (va vb : Value) (l : List (Int × Int)) (a0 a1 : Option Addr) (c0 c1 : Nat) (w : World) (hl : l.length ≤ 1073741824) (ha : va = .slice a0 l.length c0) (hb : vb = .slice a1 l.length c1) (hra : RowAt w va l.length 2 (pfCells l)) (hrb : RowAt w vb l.length 2 (pfCells l)) :
    Calls Try.prog 22 #[va, vb] w fun e w' => e = .returned (.bool true) ∧ Below w.heap.size w w' := by
  rcases hra.2 with ⟨x, y, hv, hn⟩ | ⟨b, o, cap, hv, hn, hbk, hc⟩
  · have e0 : l = [] := List.eq_nil_of_length_eq_zero hn
    subst e0
    subst ha hb
    go_enter Try.func22, Try.ntmps22
    go_wp2
    refine wp_loop_rounds 1 ?_
    rw [rounds_succ]
    go_wp2
    go_ret
    exact ⟨rfl, Below.refl _ _⟩
  · rcases hrb.2 with ⟨x, y, hv2, hn2⟩ | ⟨b2, o2, cap2, hv2, hn2, hbk2, hc2⟩
    · omega
    · clear ha hb
      subst hv hv2
      have hne : ((l.length : Int) != (l.length : Int)) = false := by simp
      go_enter Try.func22, Try.ntmps22
      go_wp2
      go_loopw [5] (fun i wr => ∃ k : Nat, k ≤ l.length ∧ i = .int .i64 k ∧ Below w.heap.size w wr) (fun i _ => l.length - (intOf i).toNat)
      case atStart => exact ⟨0, Nat.zero_le _, rfl, Below.refl _ _⟩
      case round =>
        obtain ⟨k, hk, rfl, hbel⟩ := hrel
        by_cases hlt : k < l.length
        · obtain ⟨g1, g2⟩ := pfCells_get l k hlt
          have q1 := (hbel.cell (p := ⟨b, o + k * 2, none⟩) hbk).trans (hc _ _ g1)
          have q2 := (hbel.cell (p := ⟨b, o + k * 2 + 1, none⟩) hbk).trans (hc _ _ g2)
          have q3 := (hbel.cell (p := ⟨b2, o2 + k * 2, none⟩) hbk2).trans (hc2 _ _ g1)
          have q4 := (hbel.cell (p := ⟨b2, o2 + k * 2 + 1, none⟩) hbk2).trans (hc2 _ _ g2)
          clear hc hc2 g1 g2
          generalize l[k].1 = p at *
          generalize l[k].2 = q at *
          have hlt' : (k : Int) < (l.length : Int) := by omega
          have hk0 : (0 : Int) ≤ (k : Int) := by omega
          go_wp2
          go_quiet (fail)
          go_wp2
          exact ⟨⟨k + 1, by omega, by go_num, below_drewN hbel _⟩, by simp [intOf]; omega⟩
        · clear hc hc2
          go_wp2
          go_ret
          exact ⟨rfl, hbel⟩

end Go.Proofs.Yteoacdkgicfomaa
/-
  routelogkeep's prefixes, walked: as many as there are raw numbers, at most top.
-/
namespace Go.Proofs.Yteoacdkgicfomaa
open Go.RowKit
open Rl

/-- the cells of raw numbers. -/
def ints (l : List Int) : List Value := l.map (Value.int .i64)

def keepL (raw : List Int) (top : Nat) : List (Int × Int) := (raw.take top).map keepP

theorem keepL_length (raw : List Int) (top : Nat) : (keepL raw top).length = min top raw.length := by simp [keepL]

theorem keepL_step (raw : List Int) (k : Nat) (h : k < raw.length) : keepL raw (k + 1) = keepL raw k ++ [keepP raw[k]] := by
  unfold keepL
  rw [List.take_succ_eq_append_getElem h, List.map_append]
  rfl

theorem kp_two (p q : Int) : ∀ u ∈ [Value.int .i64 p, Value.int .i64 q], u.oneCell' = true := by
  intro u hu; simp at hu; rcases hu with rfl | rfl <;> rfl

set_option maxRecDepth 20000 in
set_option maxHeartbeats 2000000 in
theorem keepPrefixes_any (v : Value) (raw : List Int) (top : Nat) (w : World) (hr : RowAt w v raw.length 1 (ints raw)) (hi64 : ∀ c ∈ raw, inI64 c) (ht : top ≤ 1000) (_hlen : raw.length ≤ 9223372036854775807) :
    Calls Try.prog 20 #[v, .int .i64 top] w fun e w' => ∃ v', e = .returned v' ∧ w'.ownsRow w.heap.size 36 2 v' (keepL raw top).length (pfCells (keepL raw top)) ∧ Below w.heap.size w w' := by
  obtain ⟨i0, hi, hz0, hz1, hz2⟩ := info_parts info_pfx
  obtain ⟨a0, c0, ev⟩ : ∃ a c, v = .slice a raw.length c := by
    rcases hr.2 with ⟨a, c, e, h0⟩ | ⟨b, o, cap, e, _⟩
    · rw [h0]; exact ⟨a, c, e⟩
    · exact ⟨_, cap, e⟩
  subst ev
  go_enter Try.func20, Try.ntmps20
  go_wp2
  go_loopw [5, 6] (fun x i wr => ∃ (k : Nat) (lv : Value), lv = x ∧ k ≤ raw.length ∧ k ≤ top ∧ i = .int .i64 k ∧ wr.ownsRow w.heap.size 36 2 lv k (pfCells (keepL raw k)) ∧ Below w.heap.size w wr) (fun _ i _ => top - (intOf i).toNat)
  case atStart => exact ⟨0, _, rfl, Nat.zero_le _, Nat.zero_le _, rfl, World.ownsRow_nil _ _ _ _, Below.refl _ _⟩
  case round =>
    obtain ⟨k, lv, rfl, hk1, hk2, rfl, hown, hbel⟩ := hrel
    by_cases hlt : k < raw.length
    · by_cases hlt2 : k < top
      · rcases hr.2 with ⟨_, _, _, h0⟩ | ⟨b, o, cap, e, _, hb, hc⟩
        · omega
        · cases e
          have hcell := (hbel.cell (p := ⟨b, o + k, none⟩) hb).trans (hc k _ (by unfold ints; rw [List.getElem?_map, List.getElem?_eq_getElem hlt]; rfl))
          have hcall := fun w => keepPrefix_any raw[k] w (hi64 _ (List.getElem_mem hlt))
          have HT := hide (keepL_step raw k hlt)
          have hx : (k : Int) < (raw.length : Int) := by omega
          clear hr hc hi64
          generalize raw[k] = c at *
          generalize keepP c = p at *
          go_wp2_with (first | (go_at_call 47; refine (hcall _).mono ?_; rintro e w2 ⟨rfl, hb2⟩; have hown2 := owns_later hown hb2; have hbel2 := later_below hbel hb2 hbel.size) | (at_builtin; refine wpList_append_own _ rfl _ _ 26 rfl w.heap.size 36 i0 (.agg #[.int .i64 0, .int .i64 0]) 2 16 Try.underlying26 hi hz0 hz1 hz2 rfl (by decide) _ _ _ rfl ((hown2.alloc _).alloc _) ⟨w2.heap.size + 1, 0, none⟩ 1 1 [.int .i64 p.1, .int .i64 p.2] rfl rfl (cells_new2' _ _ _ _) (kp_two _ _) (by unfold maxLen; omega) (by omega) (by have := hbel2.size; simp; omega) ?_; intro v5 w5 hown5 hgrow5 _))
          refine ⟨⟨k + 1, v5, rfl, by omega, by omega, by go_num, by rw [HT.out, pf_app]; exact hown5, below_app2' hbel2 hbel2.size hown2 hgrow5⟩, by simp [intOf]; omega⟩
      · have hk : k = top := by omega
        have hl : (keepL raw top).length = top := by rw [keepL_length]; omega
        have hg : ¬ (k : Int) < (top : Int) := by omega
        subst hk
        clear hr hi64
        go_wp2
        go_ret
        exact ⟨lv, rfl, hown, hbel⟩
    · have hl : keepL raw k = keepL raw top := by
        unfold keepL
        rw [List.take_of_length_le (by omega), List.take_of_length_le (by omega)]
      have hn : k = (keepL raw top).length := by rw [← hl, keepL_length]; omega
      rw [hl, hn] at hown
      clear hr hi64 hl hn
      go_wp2
      go_ret
      exact ⟨lv, rfl, hown, hbel⟩

end Go.Proofs.Yteoacdkgicfomaa
/-
  routelogkeep's told, walked: prefixes in bytes.
-/
namespace Go.Proofs.Yteoacdkgicfomaa
open Go.RowKit
open Rl

theorem kt_size (l : List UInt8) : (ByteArray.mk l.toArray).size = l.length := by show l.toArray.size = _; simp

theorem keep2k {w wx w2 : World} {b o : Nat} {x y : Value} (hS : wx.cell? ⟨b, o, none⟩ = some x ∧ wx.cell? ⟨b, o + 1, none⟩ = some y ∧ b < wx.heap.size ∧ Below w.heap.size w wx) (hb : Below wx.heap.size wx w2) :
    w2.cell? ⟨b, o, none⟩ = some x ∧ w2.cell? ⟨b, o + 1, none⟩ = some y ∧ b < w2.heap.size ∧ Below w.heap.size w w2 := by
  obtain ⟨h0, h1, h2, h3⟩ := hS
  exact ⟨(hb.cell (p := ⟨b, o, none⟩) h2).trans h0, (hb.cell (p := ⟨b, o + 1, none⟩) h2).trans h1, Nat.lt_of_lt_of_le h2 hb.size, later_below h3 hb h3.size⟩

theorem kt_eq (p : List UInt8) (a n : Nat) : (ByteArray.mk p.toArray) ++ (ByteArray.mk (be 1 n).toArray) ++ (ByteArray.mk (be 4 a).toArray).extract 0 (many n) = ⟨(p ++ (be 1 n ++ (be 4 a).take (many n))).toArray⟩ := by
  apply bytes_ext
  rw [append_data, append_data]
  simp

/-- prefixes in bytes, up to the k-th. -/
def ktTo (l : List (Nat × Nat)) (k : Nat) : List UInt8 := (l.take k).flatMap fun p => be 1 p.2 ++ (be 4 p.1).take (many p.2)

theorem ktTo_step (l : List (Nat × Nat)) (k : Nat) (h : k < l.length) : ktTo l (k + 1) = ktTo l k ++ (be 1 l[k].2 ++ (be 4 l[k].1).take (many l[k].2)) := by
  unfold ktTo
  rw [List.take_succ_eq_append_getElem h, List.flatMap_append]
  simp

theorem ktTo_le (l : List (Nat × Nat)) : ∀ k, (ktTo l k).length ≤ 5 * k := by
  intro k; induction k with
  | zero => simp [ktTo]
  | succ k ih =>
    by_cases h : k < l.length
    · rw [ktTo_step l k h, List.length_append, List.length_append, be_length, List.length_take, be_length]; omega
    · have e : ktTo l (k + 1) = ktTo l k := by
        unfold ktTo; rw [List.take_of_length_le (by omega), List.take_of_length_le (by omega)]
      rw [e]; omega

set_option maxRecDepth 20000 in
set_option maxHeartbeats 8000000 in
theorem keepTold_any (v : Value) (l : List (Nat × Nat)) (w : World) (hl : l.length ≤ 1000) (hp : ∀ p ∈ l, p.1 ≤ 4294967295 ∧ p.2 ≤ 32) (hr : RowAt w v l.length 2 (pfCells (l.map fun p => ((p.1 : Int), (p.2 : Int))))) :
    Calls Try.prog 21 #[v] w fun e w' => e = .returned (.string ⟨(ktTo l l.length).toArray⟩) ∧ Below w.heap.size w w' := by
  obtain ⟨F, hF0, hFs, hFl, hFe⟩ : ∃ F : Nat → List UInt8, F 0 = [] ∧ (∀ k (h : k < l.length), F (k + 1) = F k ++ (be 1 l[k].2 ++ (be 4 l[k].1).take (many l[k].2))) ∧ (∀ k, (F k).length ≤ 5 * k) ∧ F l.length = ktTo l l.length := ⟨ktTo l, by simp [ktTo], ktTo_step l, ktTo_le l, rfl⟩
  rw [← hFe]
  have HF0 := hide hF0
  have HFS := hide hFs
  have HFL := hide hFl
  clear hF0 hFs hFl hFe
  rcases hr.2 with ⟨a, c, rfl, h0⟩ | ⟨b, o, cap, rfl, hn, hb, hc⟩
  · have e0 : l = [] := List.eq_nil_of_length_eq_zero h0
    subst e0
    go_enter Try.func21, Try.ntmps21
    go_wp2
    refine wp_loop_rounds 1 ?_
    rw [rounds_succ]
    go_wp2
    go_ret
    exact ⟨by simp [HF0.out], Below.refl _ _⟩
  · go_enter Try.func21, Try.ntmps21
    go_wp2
    go_loopw [3, 4] (fun x i wr => ∃ k : Nat, k ≤ l.length ∧ i = .int .i64 k ∧ x = .string ⟨(F k).toArray⟩ ∧ Below w.heap.size w wr) (fun _ i _ => l.length - (intOf i).toNat)
    case atStart => exact ⟨0, Nat.zero_le _, rfl, by rw [HF0.out], Below.refl _ _⟩
    case round =>
      obtain ⟨k, hk, rfl, rfl, hbel⟩ := hrel
      by_cases hlt : k < l.length
      · have hkm : k < (l.map fun p => ((p.1 : Int), (p.2 : Int))).length := by simpa using hlt
        obtain ⟨g1, g2⟩ := pfCells_get (l.map fun p => ((p.1 : Int), (p.2 : Int))) k hkm
        have e0 : (l.map fun p => ((p.1 : Int), (p.2 : Int)))[k]'hkm = ((l[k].1 : Int), (l[k].2 : Int)) := by simp
        rw [e0] at g1 g2
        have c1 := (hbel.cell (p := ⟨b, o + k * 2, none⟩) hb).trans (hc _ _ g1)
        have c2 := (hbel.cell (p := ⟨b, o + (k * 2 + 1), none⟩) hb).trans (hc _ _ g2)
        simp only at c1 c2
        obtain ⟨hp1, hp2⟩ := hp l[k] (List.getElem_mem _)
        have HW := hide (HFS.out k hlt)
        have hle := HFL.out k
        have hbl : b < wr.heap.size := Nat.lt_of_lt_of_le hb hbel.size
        have hkl : (k : Int) < (l.length : Int) := by omega
        clear hr hc g1 g2 e0 hkm hp
        generalize F k = P at *
        generalize l[k].1 = A at *
        generalize l[k].2 = N at *
        have h1 := fun w => keepBytes_any N 1 w (by omega) (by omega)
        have h2 := fun w => keepBytes_any A 4 w (by omega) (by omega)
        have HS := hide (kt_eq P A N)
        have z1 := kt_size (be 1 N)
        have z2 := kt_size (be 4 A)
        have z4 := kt_size P
        rw [be_length] at z1 z2
        obtain ⟨U1, e1⟩ : ∃ U : ByteArray, U = ⟨(be 1 N).toArray⟩ := ⟨_, rfl⟩
        obtain ⟨U2, e2⟩ : ∃ U : ByteArray, U = ⟨(be 4 A).toArray⟩ := ⟨_, rfl⟩
        obtain ⟨U4, e4⟩ : ∃ U : ByteArray, U = ⟨P.toArray⟩ := ⟨_, rfl⟩
        rw [← e1] at h1
        rw [← e2] at h2
        rw [← e1, ← e2, ← e4] at HS
        rw [← e1] at z1
        rw [← e2] at z2
        rw [← e4] at z4
        rw [← e4]
        have hm0 : 0 ≤ ((N : Int) + 7) / 8 := by omega
        have hm4 : ((N : Int) + 7) / 8 ≤ (U2.size : Int) := by omega
        have hw1 : IntKind.i64.wrap ((N : Int) + 7) = (N : Int) + 7 := by rw [IntKind.wrap_i64]; omega
        have hw2 : IntKind.i64.wrap (((N : Int) + 7).tdiv 8) = (many N : Int) := by rw [IntKind.wrap_i64, Int.tdiv_eq_ediv_of_nonneg (by omega)]; unfold many; omega
        have hm8 : (many N : Int) ≤ (U2.size : Int) := by unfold many; omega
        have hxs : (U2.extract 0 (many N)).size ≤ 4 := by rw [ByteArray.size_extract]; omega
        have y1 : U1.size ≤ 1 := by omega
        have y4 : U4.size ≤ 5000 := by omega
        have y2 : U2.size ≤ 4 := by omega
        clear e1 e2 e4 z1 z2 z4 hle
        go_wp2
        go_region_held (fun w' => w'.cell? ⟨b, o + k * 2, none⟩ = some (.int .i64 (A : Int)) ∧ w'.cell? ⟨b, o + k * 2 + 1, none⟩ = some (.int .i64 (N : Int)) ∧ b < w'.heap.size ∧ Below w.heap.size w w') (first | assumption | (exact ⟨c1, c2, hbl, hbel.drew⟩) | (exact ⟨c1, c2, hbl, hbel⟩) | (exact keep2k (by assumption) (by assumption))) (first | (go_at_call_of 26 (N : Int); refine (h1 _).mono ?_; rintro e w2 ⟨rfl, hb2⟩) | (go_at_call_of 26 (A : Int); refine (h2 _).mono ?_; rintro e w2 ⟨rfl, hb2⟩))
        all_goals
          have hS := ‹w2.cell? _ = some _ ∧ w2.cell? _ = some _ ∧ b < w2.heap.size ∧ Below w.heap.size w w2›
          clear h1 h2 c1 c2
          go_wp2
          refine ⟨⟨k + 1, by omega, by go_num, ?_, hS.2.2.2⟩, by simp [intOf]; omega⟩
          rw [HW.out, ← HS.out]
      · have hk2 : k = l.length := by omega
        subst hk2
        clear hr hc hp
        go_wp2
        go_ret
        exact ⟨rfl, hbel⟩

end Go.Proofs.Yteoacdkgicfomaa
/-
  routelogkeep's attribute, walked.
-/
namespace Go.Proofs.Yteoacdkgicfomaa
open Go.RowKit
open Rl

theorem ka_add4 (F kd z : Nat) (v : ByteArray) : (ByteArray.mk (be 1 F).toArray) ++ (ByteArray.mk (be 1 kd).toArray) ++ (ByteArray.mk (be z v.size).toArray) ++ v = ⟨(atBytes F kd z v).toArray⟩ := by
  apply bytes_ext
  rw [append_data, append_data, append_data]
  simp [atBytes]

theorem below_held {w wx w2 : World} (h : Below w.heap.size w wx) (hb : Below wx.heap.size wx w2) : Below w.heap.size w w2 := later_below h hb h.size

set_option maxRecDepth 20000 in
set_option maxHeartbeats 8000000 in
theorem keepAttribute_any (f k : Nat) (v : ByteArray) (c : Bool) (w : World) (hf : f < 256) (hk : k < 256) (hv : v.size ≤ 200) :
    Calls Try.prog 24 #[.int .i64 f, .int .i64 k, .string v, .bool c] w fun e w' => e = .returned (.string ⟨(atBytes f k (if c = true then 2 else 1) v).toArray⟩) ∧ Below w.heap.size w w' := by
  have h1 := fun w => keepBytes_any f 1 w (by omega) (by omega)
  have h2 := fun w => keepBytes_any k 1 w (by omega) (by omega)
  have z1 := kt_size (be 1 f)
  have z2 := kt_size (be 1 k)
  rw [be_length] at z1 z2
  obtain ⟨U1, e1⟩ : ∃ U : ByteArray, U = ⟨(be 1 f).toArray⟩ := ⟨_, rfl⟩
  obtain ⟨U2, e2⟩ : ∃ U : ByteArray, U = ⟨(be 1 k).toArray⟩ := ⟨_, rfl⟩
  cases c with
  | true =>
    have h3 := fun w => keepBytes_any v.size 2 w (by omega) (by omega)
    have HS := hide (ka_add4 f k 2 v)
    have z3 := kt_size (be 2 v.size)
    rw [be_length] at z3
    obtain ⟨U3, e3⟩ : ∃ U : ByteArray, U = ⟨(be 2 v.size).toArray⟩ := ⟨_, rfl⟩
    rw [← e1] at h1 z1
    rw [← e2] at h2 z2
    rw [← e3] at h3 z3
    rw [← e1, ← e2, ← e3] at HS
    clear e1 e2 e3
    go_enter Try.func24, Try.ntmps24
    go_wp2_with fail
    refine (h1 _).mono ?_
    rintro e w1 ⟨rfl, hb1⟩
    go_wp2_with fail
    refine (h2 _).mono ?_
    rintro e w2 ⟨rfl, hb2⟩
    go_wp2_with fail
    refine (h3 _).mono ?_
    rintro e w3 ⟨rfl, hb3⟩
    go_wp2
    go_ret
    exact ⟨ret_str HS.out, below_held (below_held hb1 hb2) hb3⟩
  | false =>
    have h3 := fun w => keepBytes_any v.size 1 w (by omega) (by omega)
    have HS := hide (ka_add4 f k 1 v)
    have z3 := kt_size (be 1 v.size)
    rw [be_length] at z3
    obtain ⟨U3, e3⟩ : ∃ U : ByteArray, U = ⟨(be 1 v.size).toArray⟩ := ⟨_, rfl⟩
    rw [← e1] at h1 z1
    rw [← e2] at h2 z2
    rw [← e3] at h3 z3
    rw [← e1, ← e2, ← e3] at HS
    clear e1 e2 e3
    go_enter Try.func24, Try.ntmps24
    go_wp2_with fail
    refine (h1 _).mono ?_
    rintro e w1 ⟨rfl, hb1⟩
    go_wp2_with fail
    refine (h2 _).mono ?_
    rintro e w2 ⟨rfl, hb2⟩
    go_wp2_with fail
    refine (h3 _).mono ?_
    rintro e w3 ⟨rfl, hb3⟩
    go_wp2
    go_ret
    exact ⟨ret_str HS.out, below_held (below_held hb1 hb2) hb3⟩

end Go.Proofs.Yteoacdkgicfomaa
/-
  routelogkeep.record, walked: a record in bytes.
-/
namespace Go.Proofs.Yteoacdkgicfomaa
open Go.RowKit
open Rl

theorem kr_head (r : Rec) : (ByteArray.mk (be 4 r.time).toArray) ++ (ByteArray.mk (be 1 r.kind).toArray) ++ (ByteArray.mk (be 1 r.peer).toArray) ++ (ByteArray.mk (be 2 r.body.size).toArray) ++ r.body = txt (recHd r) := by
  apply bytes_ext
  rw [append_data, append_data, append_data, append_data, txt_data]
  simp [recHd]

theorem kr_all (r : Rec) : txt (recHd r) ++ (ByteArray.mk (be 4 (crc (recHd r))).toArray) = txt (recB r) := by
  apply bytes_ext
  rw [append_data, txt_data, txt_data]
  unfold recB
  simp

set_option maxRecDepth 20000 in
set_option maxHeartbeats 4000000 in
theorem keepRecord_any (r : Rec) (w : World) (h1 : r.time < 4294967296) (h2 : r.kind < 256) (h3 : r.peer < 256) (h4 : r.body.size < 65536) :
    Calls Try.prog 31 #[.int .i64 (r.time : Int), .int .i64 (r.kind : Int), .int .i64 (r.peer : Int), .string r.body] w fun e w' => e = .returned (.string (txt (recB r))) ∧ Below w.heap.size w w' := by
  have p1 := fun w => keepBytes_any r.time 4 w (by omega) (by omega)
  have p2 := fun w => keepBytes_any r.kind 1 w (by omega) (by omega)
  have p3 := fun w => keepBytes_any r.peer 1 w (by omega) (by omega)
  have p4 := fun w => keepBytes_any r.body.size 2 w (by omega) (by omega)
  have hl := recHd_length r
  have p5 := fun w => keepSum_any (txt (recHd r)) w (by rw [txt_len]; unfold maxLen; omega)
  have hcl := crc_lt (recHd r)
  have p6 := fun w => keepBytes_any (crc (recHd r)) 4 w (by omega) (by omega)
  have H1 := hide (kr_head r)
  have H2 := hide (kr_all r)
  rw [txt_data] at p5
  have z1 := kt_size (be 4 r.time)
  have z2 := kt_size (be 1 r.kind)
  have z3 := kt_size (be 1 r.peer)
  have z4 := kt_size (be 2 r.body.size)
  have z5 := txt_len (recHd r)
  have z6 := kt_size (be 4 (crc (recHd r)))
  rw [be_length] at z1 z2 z3 z4 z6
  rw [hl] at z5
  generalize txt (recB r) = R at *
  generalize (ByteArray.mk (be 4 (crc (recHd r))).toArray) = U6 at *
  generalize crc (recHd r) = C at *
  generalize txt (recHd r) = S at *
  generalize (ByteArray.mk (be 4 r.time).toArray) = U1 at *
  generalize (ByteArray.mk (be 1 r.kind).toArray) = U2 at *
  generalize (ByteArray.mk (be 1 r.peer).toArray) = U3 at *
  generalize (ByteArray.mk (be 2 r.body.size).toArray) = U4 at *
  generalize r.time = t at *
  generalize r.kind = k at *
  generalize r.peer = p at *
  generalize r.body = b at *
  have y1 : U1.size ≤ 4 := by omega
  have y2 : U2.size ≤ 1 := by omega
  have y3 : U3.size ≤ 1 := by omega
  have y4 : U4.size ≤ 2 := by omega
  have y5 : S.size ≤ 70000 := by omega
  have y6 : U6.size ≤ 4 := by omega
  clear z1 z2 z3 z4 z5 z6 hl
  go_enter Try.func31, Try.ntmps31
  go_wp2_with fail
  refine (p1 _).mono ?_
  rintro e w1 ⟨rfl, hb1⟩
  go_wp2_with fail
  refine (p2 _).mono ?_
  rintro e w2 ⟨rfl, hb2⟩
  have B2 := below_held hb1 hb2
  go_wp2_with fail
  refine (p3 _).mono ?_
  rintro e w3 ⟨rfl, hb3⟩
  have B3 := below_held B2 hb3
  go_wp2_with fail
  refine (p4 _).mono ?_
  rintro e w4 ⟨rfl, hb4⟩
  have B4 := below_held B3 hb4
  go_wp2_with fail
  rw [H1.out]
  refine (p5 _).mono ?_
  rintro e w5 ⟨rfl, hw⟩
  rw [hw]
  clear hw w5
  go_wp2_with fail
  refine (p6 _).mono ?_
  rintro e w6 ⟨rfl, hb6⟩
  have B6 := below_held B4 hb6
  go_wp2
  go_ret
  exact ⟨ret_str H2.out, B6⟩

end Go.Proofs.Yteoacdkgicfomaa
/-
  routelogkeep's bytes of any number, below 0 too, walked.
-/
namespace Go.Proofs.Yteoacdkgicfomaa
open Go.RowKit
open Rl

/-- the number, t times divided. -/
def itI : Nat → Int → Int
  | 0, v => v
  | t + 1, v => (itI t v).tdiv 256

/-- its last byte. -/
def byteI (x : Int) : UInt8 := UInt8.ofNat (x % 256).toNat

/-- the last t bytes. -/
def tailI : Nat → Int → List UInt8
  | 0, _ => []
  | t + 1, v => byteI (itI t v) :: tailI t v

theorem tailI_length (t : Nat) (v : Int) : (tailI t v).length = t := by
  induction t with
  | zero => rfl
  | succ t ih => simp [tailI, ih]

theorem itI_in (v : Int) (hv : inI64 v) : ∀ t, inI64 (itI t v) := by
  intro t; induction t with
  | zero => exact hv
  | succ t ih => exact (tdiv_in _ 256 ih (by omega)).1

def rowI (m : Nat) (v : Int) (j : Nat) : List UInt8 := List.replicate j 0 ++ tailI (m - j) v

theorem rowI_length (m : Nat) (v : Int) (j : Nat) (h : j ≤ m) : (rowI m v j).length = m := by simp [rowI, tailI_length]; omega

theorem rowI_step (m : Nat) (v : Int) (j : Nat) (h : j < m) : (rowI m v (j + 1)).set j (byteI (itI (m - (j + 1)) v)) = rowI m v j := by
  unfold rowI
  have e : m - j = (m - (j + 1)) + 1 := by omega
  rw [e, List.replicate_succ', List.append_assoc, List.set_append, if_neg (by simp), List.length_replicate, Nat.sub_self]
  rfl

theorem byteI_cast (x : Int) : ((byteI x).toNat : Int) = x % 256 := by
  unfold byteI
  rw [UInt8.toNat_ofNat']
  have h1 := Int.emod_nonneg x (show (256 : Int) ≠ 0 by omega)
  have h2 := Int.emod_lt_of_pos x (show (0 : Int) < 256 by omega)
  omega

set_option maxHeartbeats 1600000 in
theorem keepRaw_any (v : Int) (m : Nat) (w : World) (hv : inI64 v) (hm : m ≤ 8) :
    Calls Try.prog 26 #[.int .i64 v, .int .i64 m] w fun e w' => e = .returned (.string ⟨(tailI m v).toArray⟩) ∧ Below w.heap.size w w' := by
  obtain ⟨i0, hi, hz0, hz1, hz2⟩ := info_parts info_u8
  go_enter Try.func26, Try.ntmps26
  go_wp2_with (at_make; refine wpList_make_full _ rfl _ _ 59 rfl w.heap.size 5 i0 (.int .u8 0) 1 Try.underlying59 hi hz0 hz1 .i64 .i64 _ _ m rfl rfl rfl rfl (by rw [hz2]; omega) (by unfold maxLen; omega) (Nat.le_refl _) ?_; intro w1 hown hgrow)
  rw [zeros_u8] at hown
  go_loopw [0, 6] (fun x i wr => ∃ j : Nat, j ≤ m ∧ i = .int .i64 ((j : Int) - 1) ∧ x = .int .i64 (itI (m - j) v) ∧ wr.ownsRow w.heap.size 5 1 (.slice (some ⟨w.heap.size, 0, none⟩) m m) m (u8s (rowI m v j)) ∧ Below w.heap.size w wr) (fun _ i _ => (intOf i + 1).toNat)
  case atStart => exact ⟨m, Nat.le_refl _, rfl, by simp [itI], by simpa [rowI, tailI] using hown, (Below.refl _ _).grown hgrow (Nat.le_refl _) (by simp)⟩
  case round =>
    obtain ⟨j, hj, rfl, rfl, hr, hb⟩ := hrel
    cases j with
    | zero =>
      have e0 : rowI m v 0 = tailI m v := by simp [rowI]
      rw [e0] at hr
      have hconv : (convert 59 9 (.slice (some ⟨w.heap.size, 0, none⟩) m m)).run Try.prog wr = .ok (.string ⟨(tailI m v).toArray⟩) wr := by
        have h := run_convert_bytes_back (P := Try.prog) wr 59 9 5 ⟨w.heap.size, 0, none⟩ m (tailI m v) Try.underlying59 Try.underlying5 Try.underlying9 (by
          intro j hj
          have := hr.cellAt j (by rw [tailI_length] at hj; omega)
          rw [add_head, this, u8s_get _ _ hj])
        rwa [tailI_length] at h
      clear e0
      go_wp2
      go_ret
      exact ⟨rfl, hb⟩
    | succ j =>
      have hcell := hr.cellAt j (by omega)
      rw [u8s_get _ _ (by rw [rowI_length _ _ _ hj]; omega)] at hcell
      have hfrozen := hr.frozenAt j
      have hq := itI_in v hv (m - (j + 1))
      have hd := (tdiv_in _ 256 hq (by omega)).2
      have H := hide (hr.stored j (.int .u8 (itI (m - (j + 1)) v % 256)))
      have HS : Hid (itI (m - j) v = (itI (m - (j + 1)) v).tdiv 256) := by
        have e : m - j = (m - (j + 1)) + 1 := by omega
        unfold Hid
        rw [e]
        rfl
      have HR := hide (rowI_step m v j (by omega))
      have hu : IntKind.u8.wrap ((itI (m - (j + 1)) v).tmod 256) = itI (m - (j + 1)) v % 256 := by
        have h2 := Int.emod_nonneg (itI (m - (j + 1)) v) (show (256 : Int) ≠ 0 by omega)
        simp only [IntKind.wrap, IntKind.bits, IntKind.signed]
        have e : (itI (m - (j + 1)) v).tmod 256 % 256 = itI (m - (j + 1)) v % 256 := by
          have h := Int.tmod_add_mul_tdiv (itI (m - (j + 1)) v) 256
          omega
        simpa using e
      generalize itI (m - (j + 1)) v = q at *
      clear hr
      go_wp2
      exact ⟨⟨j, by omega, rfl, by rw [hd, HS.out], by have h := H.out.1; rw [set_u8s _ _ _ _ (byteI_cast q).symm, HR.out] at h; exact h, hb.setCell (by simp) _⟩, by simp [intOf]⟩

end Go.Proofs.Yteoacdkgicfomaa
/-
  routelogkeep's attributes, walked: right ones out of a raw number.
-/
namespace Go.Proofs.Yteoacdkgicfomaa
open Go.RowKit
open Rl

abbrev CallsStr (n : Nat) (args : Array Value) (T : ByteArray) : Prop := ∀ w, Calls Try.prog n args w fun e w' => e = .returned (.string T) ∧ Below w.heap.size w w'
abbrev CallsInt (n : Nat) (args : Array Value) (x : Int) : Prop := ∀ w, Calls Try.prog n args w fun e w' => e = .returned (.int .i64 x) ∧ w' = w

theorem ka_ne {z : Int} (h : (z == 0) = false) : ¬ z = 0 := fun e => by rw [e] at h; simp at h

set_option maxRecDepth 20000 in
set_option maxHeartbeats 8000000 in
theorem keepAttrs_raw (v : Int) (c : Bool) (x3 x5 x7 x11 x2 x13 x17 z3 z7 z11 z13 q1 q2 q3 q4 q8 f k F K m : Int) (T1 T2 T3 T4 T8 TX P A1 A2 A3 A4 A8 AX R0 R1 R2 R3 : ByteArray) (w : World)
    (e3 : wrap64 (v.tdiv 3) = x3) (e5 : wrap64 (v.tdiv 5) = x5) (e7 : wrap64 (v.tdiv 7) = x7) (e11 : wrap64 (v.tdiv 11) = x11) (e2 : wrap64 (v.tdiv 2) = x2) (e13 : wrap64 (v.tdiv 13) = x13) (e17 : wrap64 (v.tdiv 17) = x17)
    (p1 : CallsInt 23 #[.int .i64 v, .int .i64 3] q1) (b1 : CallsStr 26 #[.int .i64 q1, .int .i64 1] T1) (a1 : CallsStr 24 #[.int .i64 64, .int .i64 1, .string T1, .bool c] A1)
    (p3 : CallsInt 23 #[.int .i64 x3, .int .i64 3] z3) (p2 : CallsInt 23 #[.int .i64 x3, .int .i64 1000] q2) (b2 : CallsStr 26 #[.int .i64 q2, .int .i64 4] T2) (hP : Hid (P = if 0 < z3 then (⟨#[2, 1]⟩ : ByteArray) ++ T2 else ⟨#[]⟩)) (a2 : CallsStr 24 #[.int .i64 64, .int .i64 2, .string P, .bool c] A2)
    (p5 : CallsInt 23 #[.int .i64 x5, .int .i64 100000] q3) (b3 : CallsStr 26 #[.int .i64 q3, .int .i64 4] T3) (a3 : CallsStr 24 #[.int .i64 64, .int .i64 3, .string T3, .bool c] A3)
    (p7 : CallsInt 23 #[.int .i64 x7, .int .i64 3] z7) (p4 : CallsInt 23 #[.int .i64 v, .int .i64 70000] q4) (b4 : CallsStr 26 #[.int .i64 q4, .int .i64 4] T4) (a4 : CallsStr 24 #[.int .i64 128, .int .i64 4, .string T4, .bool c] A4)
    (p11 : CallsInt 23 #[.int .i64 x11, .int .i64 3] z11) (p8 : CallsInt 23 #[.int .i64 x2, .int .i64 70000] q8) (b8 : CallsStr 26 #[.int .i64 q8, .int .i64 4] T8) (a8 : CallsStr 24 #[.int .i64 192, .int .i64 8, .string (T8 ++ ⟨#[0, 1, 0, 2]⟩), .bool c] A8)
    (p13 : CallsInt 23 #[.int .i64 x13, .int .i64 3] z13) (pf : CallsInt 23 #[.int .i64 v, .int .i64 2] f) (pk : CallsInt 23 #[.int .i64 x17, .int .i64 200] k) (pm : CallsInt 23 #[.int .i64 v, .int .i64 5] m) (bx : CallsStr 26 #[.int .i64 v, .int .i64 m] TX) (w1 : wrap64 (32 * f) = 32 * f) (w2 : wrap64 (192 + 32 * f) = F) (w3 : wrap64 (9 + k) = K) (ax : CallsStr 24 #[.int .i64 F, .int .i64 K, .string TX, .bool c] AX)
    (h0 : Hid (R0 = A1 ++ A2 ++ A3)) (h1 : Hid (R1 = if z7 = 0 then R0 ++ A4 else R0)) (h2 : Hid (R2 = if z11 = 0 then R1 ++ A8 else R1)) (h3 : Hid (R3 = if z13 = 0 then R2 ++ AX else R2))
    (s2 : T2.size ≤ 8) (s8 : T8.size ≤ 8) (s1 : A1.size ≤ 30) (s3 : A2.size ≤ 30) (s4 : A3.size ≤ 30) (s5 : A4.size ≤ 30) (s6 : A8.size ≤ 30) (s7 : AX.size ≤ 30) (r0 : R0.size ≤ 100) (r1 : R1.size ≤ 200) (r2 : R2.size ≤ 300) :
    Calls Try.prog 19 #[.int .i64 v, .bool c] w fun e w' => e = .returned (.string R3) ∧ Below w.heap.size w w' := by
  have B := Below.refl w.heap.size w
  go_enter Try.func19, Try.ntmps19
  go_upto_if 15 with (first
    | (go_at_call_of 23 x3; refine (p3 _).mono ?_; rintro e w' ⟨rfl, hw⟩; rw [hw]; clear hw w')
    | (go_at_call_of 23 v; refine (p1 _).mono ?_; rintro e w' ⟨rfl, hw⟩; rw [hw]; clear hw w')
    | (go_at_call 26; refine (b1 _).mono ?_; rintro e w' ⟨rfl, hb⟩; replace B := below_held B hb; clear hb)
    | (go_at_call 24; refine (a1 _).mono ?_; rintro e w' ⟨rfl, hb⟩; replace B := below_held B hb; clear hb))
  go_cut [5, 6] (fun s5 s6 wx => s5 = .string A1 ∧ s6 = .string P ∧ Below w.heap.size w wx)
  case first =>
    go_wp2_with (first
      | (go_at_call 23; refine (p2 _).mono ?_; rintro e w' ⟨rfl, hw⟩; rw [hw]; clear hw w')
      | (go_at_call 26; refine (b2 _).mono ?_; rintro e w' ⟨rfl, hb⟩; replace B := below_held B hb; clear hb))
    · go_meet
      case rel => exact ⟨rfl, by rw [hP.out, if_pos (by omega)], B⟩
    · go_meet
      case rel => exact ⟨rfl, by rw [hP.out, if_neg (by omega)], B⟩
  case rest =>
    clear B
    obtain ⟨rfl, rfl, B⟩ := hcut
    go_upto_if 36 with (first
      | (go_at_call_of 23 x5; refine (p5 _).mono ?_; rintro e w' ⟨rfl, hw⟩; rw [hw]; clear hw w')
      | (go_at_call_of 23 x7; refine (p7 _).mono ?_; rintro e w' ⟨rfl, hw⟩; rw [hw]; clear hw w')
      | (go_at_call 26; refine (b3 _).mono ?_; rintro e w' ⟨rfl, hb⟩; replace B := below_held B hb; clear hb)
      | (go_at_call_of 24 P; refine (a2 _).mono ?_; rintro e w' ⟨rfl, hb⟩; replace B := below_held B hb; clear hb)
      | (go_at_call_of 24 T3; refine (a3 _).mono ?_; rintro e w' ⟨rfl, hb⟩; replace B := below_held B hb; clear hb))
    go_cut [5] (fun s5 wx => s5 = .string R1 ∧ Below w.heap.size w wx)
    case first =>
      rw [← h0.out]
      go_wp2_with (first
        | (go_at_call 23; refine (p4 _).mono ?_; rintro e w' ⟨rfl, hw⟩; rw [hw]; clear hw w')
        | (go_at_call 26; refine (b4 _).mono ?_; rintro e w' ⟨rfl, hb⟩; replace B := below_held B hb; clear hb)
        | (go_at_call 24; refine (a4 _).mono ?_; rintro e w' ⟨rfl, hb⟩; replace B := below_held B hb; clear hb))
      · go_meet
        case rel => exact ⟨by rw [h1.out, if_pos (eq_of_beq ‹(z7 == 0) = true›)], B⟩
      · go_meet
        case rel => exact ⟨by rw [h1.out, if_neg (ka_ne (by assumption))], B⟩
    case rest =>
      clear B
      obtain ⟨rfl, B⟩ := hcut
      go_upto_if 47 with (first
        | (go_at_call_of 23 x11; refine (p11 _).mono ?_; rintro e w' ⟨rfl, hw⟩; rw [hw]; clear hw w'))
      go_cut [5] (fun s5 wx => s5 = .string R2 ∧ Below w.heap.size w wx)
      case first =>
        go_wp2_with (first
          | (go_at_call 23; refine (p8 _).mono ?_; rintro e w' ⟨rfl, hw⟩; rw [hw]; clear hw w')
          | (go_at_call 26; refine (b8 _).mono ?_; rintro e w' ⟨rfl, hb⟩; replace B := below_held B hb; clear hb)
          | (go_at_call 24; refine (a8 _).mono ?_; rintro e w' ⟨rfl, hb⟩; replace B := below_held B hb; clear hb))
        · go_meet
          case rel => exact ⟨by rw [h2.out, if_pos (eq_of_beq ‹(z11 == 0) = true›)], B⟩
        · go_meet
          case rel => exact ⟨by rw [h2.out, if_neg (ka_ne (by assumption))], B⟩
      case rest =>
        clear B
        obtain ⟨rfl, B⟩ := hcut
        go_upto_if 60 with (first
          | (go_at_call_of 23 x13; refine (p13 _).mono ?_; rintro e w' ⟨rfl, hw⟩; rw [hw]; clear hw w'))
        go_cut [5] (fun s5 wx => s5 = .string R3 ∧ Below w.heap.size w wx)
        case first =>
          go_wp2_with (first
            | (go_at_call_of 23 x17; refine (pk _).mono ?_; rintro e w' ⟨rfl, hw⟩; rw [hw]; clear hw w')
            | (go_at_call_of 23 (2 : Int); refine (pf _).mono ?_; rintro e w' ⟨rfl, hw⟩; rw [hw]; clear hw w')
            | (go_at_call_of 23 (5 : Int); refine (pm _).mono ?_; rintro e w' ⟨rfl, hw⟩; rw [hw]; clear hw w')
            | (go_at_call 26; refine (bx _).mono ?_; rintro e w' ⟨rfl, hb⟩; replace B := below_held B hb; clear hb)
            | (go_at_call 24; refine (ax _).mono ?_; rintro e w' ⟨rfl, hb⟩; replace B := below_held B hb; clear hb))
          · go_meet
            case rel => exact ⟨by rw [h3.out, if_pos (eq_of_beq ‹(z13 == 0) = true›)], B⟩
          · go_meet
            case rel => exact ⟨by rw [h3.out, if_neg (ka_ne (by assumption))], B⟩
        case rest =>
          clear B
          obtain ⟨rfl, B⟩ := hcut
          go_wp2
          go_ret
          exact ⟨rfl, B⟩

/-- the values, and the last one's flags and type. -/
def k1 (v : Int) : ByteArray := txt (be 1 (pickI v 3).toNat)
def k2 (v : Int) : ByteArray := if 0 < pickI (v.tdiv 3) 3 then (⟨#[2, 1]⟩ : ByteArray) ++ txt (be 4 (pickI (v.tdiv 3) 1000).toNat) else ⟨#[]⟩
def k3 (v : Int) : ByteArray := txt (be 4 (pickI (v.tdiv 5) 100000).toNat)
def k4 (v : Int) : ByteArray := txt (be 4 (pickI v 70000).toNat)
def k8 (v : Int) : ByteArray := txt (be 4 (pickI (v.tdiv 2) 70000).toNat) ++ ⟨#[0, 1, 0, 2]⟩
def kx (v : Int) : ByteArray := txt (tailI (pickI v 5).toNat v)
def kF (v : Int) : Nat := 192 + 32 * (pickI v 2).toNat
def kK (v : Int) : Nat := 9 + (pickI (v.tdiv 17) 200).toNat

/-- the attributes. -/
def kaL (v : Int) : List At :=
  [⟨64, 1, k1 v⟩, ⟨64, 2, k2 v⟩, ⟨64, 3, k3 v⟩] ++ (if pickI (v.tdiv 7) 3 = 0 then [⟨128, 4, k4 v⟩] else []) ++ (if pickI (v.tdiv 11) 3 = 0 then [⟨192, 8, k8 v⟩] else []) ++ (if pickI (v.tdiv 13) 3 = 0 then [⟨kF v, kK v, kx v⟩] else [])

/-- one, and all of them, in bytes. -/
def kaB (c : Bool) (a : At) : List UInt8 := atBytes a.flags a.kind (if c = true then 2 else 1) a.val
def kaW (c : Bool) (l : List At) : List UInt8 := l.flatMap (kaB c)

theorem kaW_app (c : Bool) (l m : List At) : kaW c (l ++ m) = kaW c l ++ kaW c m := by simp [kaW]
theorem kaW_one (c : Bool) (a : At) : kaW c [a] = kaB c a := by simp [kaW]
theorem txt_app (a b : List UInt8) : txt a ++ txt b = txt (a ++ b) := by
  apply bytes_ext; rw [append_data, txt_data, txt_data, txt_data]

theorem k1_size (v : Int) : (k1 v).size = 1 := by unfold k1; rw [txt_len, be_length]
theorem k2_size (v : Int) : (k2 v).size ≤ 6 := by
  unfold k2; split
  · rw [ByteArray.size_append, txt_len, be_length]; decide
  · decide
theorem k3_size (v : Int) : (k3 v).size = 4 := by unfold k3; rw [txt_len, be_length]
theorem k4_size (v : Int) : (k4 v).size = 4 := by unfold k4; rw [txt_len, be_length]
theorem k8_size (v : Int) : (k8 v).size = 8 := by unfold k8; rw [ByteArray.size_append, txt_len, be_length]; rfl
theorem kx_size (v : Int) : (kx v).size ≤ 4 := by
  have := pickI_bounds v 5 (by omega)
  unfold kx; rw [txt_len, tailI_length]; omega

theorem kaB_len (c : Bool) (a : At) : (txt (kaB c a)).size ≤ 4 + a.val.size := by
  unfold kaB; rw [txt_len, atBytes_length]; split <;> omega

theorem keepAttributes_any (v : Int) (c : Bool) (w : World) (hv : inI64 v) :
    Calls Try.prog 19 #[.int .i64 v, .bool c] w fun e w' => e = .returned (.string (txt (kaW c (kaL v)))) ∧ Below w.heap.size w w' := by
  have nat : ∀ x n : Int, 0 < n → ((pickI x n).toNat : Int) = pickI x n := fun x n h => Int.toNat_of_nonneg (pickI_bounds x n h).1
  have pb := fun x n h => pickI_bounds x n h
  have d := fun k (h : (1 : Int) < k) => tdiv_in v k hv h
  have y1 := k1_size v
  have y2 := k2_size v
  have y3 := k3_size v
  have y4 := k4_size v
  have y8 := k8_size v
  have yx := kx_size v
  have b2 := pb v 2 (by omega)
  have b5 := pb v 5 (by omega)
  have bk := pb (v.tdiv 17) 200 (by omega)
  have hF : ((kF v : Nat) : Int) = 192 + 32 * pickI v 2 := by unfold kF; rw [← nat v 2 (by omega)]; omega
  have hK : ((kK v : Nat) : Int) = 9 + pickI (v.tdiv 17) 200 := by unfold kK; rw [← nat _ 200 (by omega)]; omega
  have hbytes : ∀ (x n : Int) (m : Nat), 0 < n → n ≤ 1000000000000 → m ≤ 8 → CallsStr 26 #[.int .i64 (pickI x n), .int .i64 m] (txt (be m (pickI x n).toNat)) := by
    intro x n m h h2 hm w
    have h3 := pb x n h
    rw [← nat x n h]
    exact keepBytes_any _ m w (by omega) hm
  have hat : ∀ (a : At), a.flags < 256 → a.kind < 256 → a.val.size ≤ 200 → CallsStr 24 #[.int .i64 a.flags, .int .i64 a.kind, .string a.val, .bool c] (txt (kaB c a)) := by
    intro a h1 h2 h3 w
    exact keepAttribute_any a.flags a.kind a.val c w h1 h2 h3
  have hpick : ∀ (x n : Int), inI64 x → 0 < n ∧ n ≤ 1000000000000 → CallsInt 23 #[.int .i64 x, .int .i64 n] (pickI x n) := fun x n h1 h2 w => pick_any x n w h1 h2
  have l1 := kaB_len c ⟨64, 1, k1 v⟩
  have l2 := kaB_len c ⟨64, 2, k2 v⟩
  have l3 := kaB_len c ⟨64, 3, k3 v⟩
  have l4 := kaB_len c ⟨128, 4, k4 v⟩
  have l8 := kaB_len c ⟨192, 8, k8 v⟩
  have lx := kaB_len c ⟨kF v, kK v, kx v⟩
  simp only at l1 l2 l3 l4 l8 lx
  have hb4 : CallsStr 26 #[.int .i64 v, .int .i64 (pickI v 5)] (kx v) := by
    intro w
    rw [← nat v 5 (by omega)]
    exact keepRaw_any v _ w hv (by omega)
  have r0 : txt (kaB c ⟨64, 1, k1 v⟩) ++ txt (kaB c ⟨64, 2, k2 v⟩) ++ txt (kaB c ⟨64, 3, k3 v⟩) = txt (kaW c [⟨64, 1, k1 v⟩, ⟨64, 2, k2 v⟩, ⟨64, 3, k3 v⟩]) := by
    rw [txt_app, txt_app]; simp [kaW]
  have step : ∀ (l m : List At) (p : Prop) [Decidable p] (a : At), txt (kaW c (l ++ if p then [a] else [])) = if p then txt (kaW c l) ++ txt (kaB c a) else txt (kaW c l) := by
    intro l m p _ a
    by_cases h : p
    · rw [if_pos h, if_pos h, kaW_app, kaW_one, txt_app]
    · rw [if_neg h, if_neg h, List.append_nil]
  have sz : ∀ (l m : List At) (p : Prop) [Decidable p] (a : At) (n : Nat), (txt (kaW c l)).size ≤ n → (txt (kaW c (l ++ if p then [a] else []))).size ≤ n + (4 + a.val.size) := by
    intro l m p _ a n h
    rw [step l m p a]
    have := kaB_len c a
    split
    · rw [ByteArray.size_append]; omega
    · omega
  have z0 : (txt (kaW c [⟨64, 1, k1 v⟩, ⟨64, 2, k2 v⟩, ⟨64, 3, k3 v⟩])).size ≤ 30 := by
    rw [← r0, ByteArray.size_append, ByteArray.size_append]; omega
  have z1 := sz _ [] (pickI (v.tdiv 7) 3 = 0) ⟨128, 4, k4 v⟩ _ z0
  have z2 := sz _ [] (pickI (v.tdiv 11) 3 = 0) ⟨192, 8, k8 v⟩ _ z1
  simp only at z1 z2
  unfold kaL
  refine keepAttrs_raw v c (v.tdiv 3) (v.tdiv 5) (v.tdiv 7) (v.tdiv 11) (v.tdiv 2) (v.tdiv 13) (v.tdiv 17) (pickI (v.tdiv 3) 3) (pickI (v.tdiv 7) 3) (pickI (v.tdiv 11) 3) (pickI (v.tdiv 13) 3) (pickI v 3) (pickI (v.tdiv 3) 1000) (pickI (v.tdiv 5) 100000) (pickI v 70000) (pickI (v.tdiv 2) 70000) (pickI v 2) (pickI (v.tdiv 17) 200) (kF v) (kK v) (pickI v 5)
    (k1 v) (txt (be 4 (pickI (v.tdiv 3) 1000).toNat)) (k3 v) (k4 v) (txt (be 4 (pickI (v.tdiv 2) 70000).toNat)) (kx v) (k2 v) (txt (kaB c ⟨64, 1, k1 v⟩)) (txt (kaB c ⟨64, 2, k2 v⟩)) (txt (kaB c ⟨64, 3, k3 v⟩)) (txt (kaB c ⟨128, 4, k4 v⟩)) (txt (kaB c ⟨192, 8, k8 v⟩)) (txt (kaB c ⟨kF v, kK v, kx v⟩)) _ _ _ _ w
    (d 3 (by omega)).2 (d 5 (by omega)).2 (d 7 (by omega)).2 (d 11 (by omega)).2 (d 2 (by omega)).2 (d 13 (by omega)).2 (d 17 (by omega)).2
    (hpick v 3 hv (by omega)) (hbytes v 3 1 (by omega) (by omega) (by omega)) (hat ⟨64, 1, k1 v⟩ (by simp) (by simp) (by simp only; omega))
    (hpick _ 3 (d 3 (by omega)).1 (by omega)) (hpick _ 1000 (d 3 (by omega)).1 (by omega)) (hbytes _ 1000 4 (by omega) (by omega) (by omega)) rfl (hat ⟨64, 2, k2 v⟩ (by simp) (by simp) (by simp only; omega))
    (hpick _ 100000 (d 5 (by omega)).1 (by omega)) (hbytes _ 100000 4 (by omega) (by omega) (by omega)) (hat ⟨64, 3, k3 v⟩ (by simp) (by simp) (by simp only; omega))
    (hpick _ 3 (d 7 (by omega)).1 (by omega)) (hpick v 70000 hv (by omega)) (hbytes _ 70000 4 (by omega) (by omega) (by omega)) (hat ⟨128, 4, k4 v⟩ (by simp) (by simp) (by simp only; omega))
    (hpick _ 3 (d 11 (by omega)).1 (by omega)) (hpick _ 70000 (d 2 (by omega)).1 (by omega)) (hbytes _ 70000 4 (by omega) (by omega) (by omega)) (hat ⟨192, 8, k8 v⟩ (by simp) (by simp) (by simp only; omega))
    (hpick _ 3 (d 13 (by omega)).1 (by omega)) (hpick v 2 hv (by omega)) (hpick _ 200 (d 17 (by omega)).1 (by omega)) (hpick v 5 hv (by omega)) hb4 (wrap64_in' _ (by omega) (by omega)) (by rw [hF]; exact wrap64_in' _ (by omega) (by omega)) (by rw [hK]; exact wrap64_in' _ (by omega) (by omega)) (hat ⟨kF v, kK v, kx v⟩ (by simp only; omega) (by simp only; omega) (by simp only; omega))
    r0.symm (step _ [] _ _) (step _ [] _ _) (step _ [] _ _) (by rw [txt_len, be_length]; omega) (by rw [txt_len, be_length]; omega) (by omega) (by omega) (by omega) (by omega) (by omega) (by omega) (by omega) (by omega) (by omega)

end Go.Proofs.Yteoacdkgicfomaa
