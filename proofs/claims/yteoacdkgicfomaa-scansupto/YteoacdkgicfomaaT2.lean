/-
  routelogkeep's pick and prefix, walked: what a raw number speaks of.
-/
import Derived.Test.YteoacdkgicfomaaRefPfx
import Derived.Test.YteoacdkgicfomaaPfxWalks
import Derived.Test.YteoacdkgicfomaaBeWalks
import Derived.Test.YteoacdkgicfomaaChange
import Derived.Test.YteoacdkgicfomaaT1
import Derived.Deep.CutBlock
namespace Go.Proofs.Yteoacdkgicfomaa
open Go.RowKit
open Rl

/-- which of n things the raw number c speaks of. -/
def pickI (c n : Int) : Int := (if c < 0 then -(c + 1) else c) % n

theorem pickI_bounds (c n : Int) (hn : 0 < n) : 0 ≤ pickI c n ∧ pickI c n < n := by
  unfold pickI
  exact ⟨Int.emod_nonneg _ (by omega), Int.emod_lt_of_pos _ hn⟩

def inI64 (c : Int) : Prop := -9223372036854775808 ≤ c ∧ c ≤ 9223372036854775807

set_option maxHeartbeats 800000 in
theorem pick_any (c n : Int) (w : World) (hc : inI64 c) (hn : 0 < n ∧ n ≤ 1000000000000) :
    Calls Try.prog 23 #[.int .i64 c, .int .i64 n] w fun e w' => e = .returned (.int .i64 (pickI c n)) ∧ w' = w := by
  have hb := pickI_bounds c n hn.1
  have hne : ¬ n = 0 := by omega
  obtain ⟨hc1, hc2⟩ := hc
  by_cases h : c < 0
  · have e : pickI c n = (-(c + 1)) % n := by unfold pickI; rw [if_pos h]
    rw [e] at hb ⊢
    have h1 : wrap64 (c + 1) = c + 1 := wrap64_in' _ (by omega) (by omega)
    have h2 : wrap64 (-(c + 1)) = -(c + 1) := wrap64_in' _ (by omega) (by omega)
    have h3 : (-(c + 1)).tmod n = (-(c + 1)) % n := Int.tmod_eq_emod_of_nonneg (by omega)
    have h4 : wrap64 ((-(c + 1)) % n) = (-(c + 1)) % n := wrap64_in' _ (by omega) (by omega)
    go_enter Try.func23, Try.ntmps23
    go_wp2
    go_ret
    exact ⟨rfl, rfl⟩
  · have e : pickI c n = c % n := by unfold pickI; rw [if_neg h]
    rw [e] at hb ⊢
    have h3 : c.tmod n = c % n := Int.tmod_eq_emod_of_nonneg (by omega)
    have h4 : wrap64 (c % n) = c % n := wrap64_in' _ (by omega) (by omega)
    go_enter Try.func23, Try.ntmps23
    go_wp2
    go_ret
    exact ⟨rfl, rfl⟩

/-- how many bits of the prefix matter. -/
def keepLen (v : Int) : Int := if pickI (v.tdiv 5) 4 = 0 then pickI (v.tdiv 20) 33 else 8 * pickI v 5
/-- its address, ahead of the cut. -/
def keepAddr (v : Int) : Int := 167772160 + 65536 * pickI (v.tdiv 7) 3 + 256 * pickI (v.tdiv 21) 3 + pickI (v.tdiv 63) 3
def keepP (v : Int) : Int × Int := (keepAddr v - keepAddr v % gap (keepLen v), keepLen v)

theorem keepLen_bounds (v : Int) : 0 ≤ keepLen v ∧ keepLen v ≤ 32 := by
  have h1 := pickI_bounds (v.tdiv 20) 33 (by omega)
  have h2 := pickI_bounds v 5 (by omega)
  unfold keepLen; split <;> omega

theorem keepAddr_bounds (v : Int) : 0 ≤ keepAddr v ∧ keepAddr v ≤ 167903746 := by
  have h1 := pickI_bounds (v.tdiv 7) 3 (by omega)
  have h2 := pickI_bounds (v.tdiv 21) 3 (by omega)
  have h3 := pickI_bounds (v.tdiv 63) 3 (by omega)
  unfold keepAddr; omega

theorem tdiv_in (v k : Int) (hv : inI64 v) (hk : 1 < k) : inI64 (v.tdiv k) ∧ wrap64 (v.tdiv k) = v.tdiv k := by
  obtain ⟨h1, h2⟩ := hv
  have hb : inI64 (v.tdiv k) := by
    unfold inI64
    by_cases h : 0 ≤ v
    · rw [Int.tdiv_eq_ediv_of_nonneg h]
      have h3 := Int.ediv_nonneg h (show 0 ≤ k by omega)
      have h4 : v / k ≤ v := Int.ediv_le_self k h
      omega
    · have e : v.tdiv k = -((-v).tdiv k) := by rw [Int.neg_tdiv]; omega
      rw [e, Int.tdiv_eq_ediv_of_nonneg (by omega)]
      have h3 := Int.ediv_nonneg (show 0 ≤ -v by omega) (show 0 ≤ k by omega)
      have h4 : (-v) / k ≤ -v := Int.ediv_le_self k (by omega)
      omega
  exact ⟨hb, wrap64_in' _ (by unfold inI64 at hb; omega) (by unfold inI64 at hb; omega)⟩

set_option maxRecDepth 20000 in
set_option maxHeartbeats 1600000 in
theorem keepPrefix_raw (v x5 x20 x7 x21 x63 q0 q1 q3 q4 q5 y : Int) (A n : Nat) (w : World) (e1 : wrap64 (v.tdiv 5) = x5) (e2 : wrap64 (v.tdiv 20) = x20) (e3 : wrap64 (v.tdiv 7) = x7) (e4 : wrap64 (v.tdiv 21) = x21) (e5 : wrap64 (v.tdiv 63) = x63)
    (p0 : ∀ w, Calls Try.prog 23 #[.int .i64 v, .int .i64 5] w fun e w' => e = .returned (.int .i64 q0) ∧ w' = w) (p1 : ∀ w, Calls Try.prog 23 #[.int .i64 x5, .int .i64 4] w fun e w' => e = .returned (.int .i64 q1) ∧ w' = w)
    (p2 : ∀ w, Calls Try.prog 23 #[.int .i64 x20, .int .i64 33] w fun e w' => e = .returned (.int .i64 (n : Int)) ∧ w' = w) (p3 : ∀ w, Calls Try.prog 23 #[.int .i64 x7, .int .i64 3] w fun e w' => e = .returned (.int .i64 q3) ∧ w' = w)
    (p4 : ∀ w, Calls Try.prog 23 #[.int .i64 x21, .int .i64 3] w fun e w' => e = .returned (.int .i64 q4) ∧ w' = w) (p5 : ∀ w, Calls Try.prog 23 #[.int .i64 x63, .int .i64 3] w fun e w' => e = .returned (.int .i64 q5) ∧ w' = w)
    (h1 : (q1 == 0) = true) (hn : n ≤ 32) (w1 : wrap64 (65536 * q3) = 65536 * q3) (w2 : wrap64 (167772160 + 65536 * q3) = 167772160 + 65536 * q3) (w3 : wrap64 (256 * q4) = 256 * q4) (w4 : wrap64 (167772160 + 65536 * q3 + 256 * q4) = 167772160 + 65536 * q3 + 256 * q4) (w5 : wrap64 (167772160 + 65536 * q3 + 256 * q4 + q5) = (A : Int)) (w7 : wrap64 (32 - (n : Int)) = 32 - (n : Int)) (hz : ¬ gap (n : Int) = 0) (hg2 : wrap64 ((2 : Int) ^ (32 - n)) = gap (n : Int)) (hy : wrap64 ((A : Int) - (A : Int) % gap n) = y) (_hgp : 0 < gap (n : Int)) (w6 : wrap64 (8 * q0) = 8 * q0) :
    Calls Try.prog 47 #[.int .i64 v] w fun e w' => e = .returned (.agg #[.int .i64 y, .int .i64 (n : Int)]) ∧ Below w.heap.size w w' := by
  go_enter Try.func47, Try.ntmps47
  go_wp2_with (first | (go_at_call_of 23 v; refine (p0 _).mono ?_; rintro e w' ⟨rfl, hw⟩; rw [hw]; clear hw w') | (go_at_call_of 23 x5; refine (p1 _).mono ?_; rintro e w' ⟨rfl, hw⟩; rw [hw]; clear hw w') | (go_at_call_of 23 x20; refine (p2 _).mono ?_; rintro e w' ⟨rfl, hw⟩; rw [hw]; clear hw w') | (go_at_call_of 23 x7; refine (p3 _).mono ?_; rintro e w' ⟨rfl, hw⟩; rw [hw]; clear hw w') | (go_at_call_of 23 x21; refine (p4 _).mono ?_; rintro e w' ⟨rfl, hw⟩; rw [hw]; clear hw w') | (go_at_call_of 23 x63; refine (p5 _).mono ?_; rintro e w' ⟨rfl, hw⟩; rw [hw]; clear hw w'))
  exact bodyPost_ret (v := .agg #[.int .i64 y, .int .i64 (n : Int)]) (by simp [results, Try.results47, go_sem]) rfl ⟨rfl, (Below.refl _ _).alloc (Nat.le_refl _) _⟩

set_option maxRecDepth 20000 in
set_option maxHeartbeats 1600000 in
theorem keepPrefix_raw8 (v x5 x20 x7 x21 x63 q0 q1 q2 q3 q4 q5 y : Int) (A n : Nat) (w : World) (e1 : wrap64 (v.tdiv 5) = x5) (_e2 : wrap64 (v.tdiv 20) = x20) (e3 : wrap64 (v.tdiv 7) = x7) (e4 : wrap64 (v.tdiv 21) = x21) (e5 : wrap64 (v.tdiv 63) = x63)
    (p0 : ∀ w, Calls Try.prog 23 #[.int .i64 v, .int .i64 5] w fun e w' => e = .returned (.int .i64 q0) ∧ w' = w) (p1 : ∀ w, Calls Try.prog 23 #[.int .i64 x5, .int .i64 4] w fun e w' => e = .returned (.int .i64 q1) ∧ w' = w)
    (_p2 : ∀ w, Calls Try.prog 23 #[.int .i64 x20, .int .i64 33] w fun e w' => e = .returned (.int .i64 q2) ∧ w' = w) (p3 : ∀ w, Calls Try.prog 23 #[.int .i64 x7, .int .i64 3] w fun e w' => e = .returned (.int .i64 q3) ∧ w' = w)
    (p4 : ∀ w, Calls Try.prog 23 #[.int .i64 x21, .int .i64 3] w fun e w' => e = .returned (.int .i64 q4) ∧ w' = w) (p5 : ∀ w, Calls Try.prog 23 #[.int .i64 x63, .int .i64 3] w fun e w' => e = .returned (.int .i64 q5) ∧ w' = w)
    (h1 : (q1 == 0) = false) (hn : n ≤ 32) (w1 : wrap64 (65536 * q3) = 65536 * q3) (w2 : wrap64 (167772160 + 65536 * q3) = 167772160 + 65536 * q3) (w3 : wrap64 (256 * q4) = 256 * q4) (w4 : wrap64 (167772160 + 65536 * q3 + 256 * q4) = 167772160 + 65536 * q3 + 256 * q4) (w5 : wrap64 (167772160 + 65536 * q3 + 256 * q4 + q5) = (A : Int)) (w7 : wrap64 (32 - (n : Int)) = 32 - (n : Int)) (hz : ¬ gap (n : Int) = 0) (hg2 : wrap64 ((2 : Int) ^ (32 - n)) = gap (n : Int)) (hy : wrap64 ((A : Int) - (A : Int) % gap n) = y) (_hgp : 0 < gap (n : Int)) (w6 : wrap64 (8 * q0) = (n : Int)) :
    Calls Try.prog 47 #[.int .i64 v] w fun e w' => e = .returned (.agg #[.int .i64 y, .int .i64 (n : Int)]) ∧ Below w.heap.size w w' := by
  go_enter Try.func47, Try.ntmps47
  go_wp2_with (first | (go_at_call_of 23 v; refine (p0 _).mono ?_; rintro e w' ⟨rfl, hw⟩; rw [hw]; clear hw w') | (go_at_call_of 23 x5; refine (p1 _).mono ?_; rintro e w' ⟨rfl, hw⟩; rw [hw]; clear hw w') | (go_at_call_of 23 x7; refine (p3 _).mono ?_; rintro e w' ⟨rfl, hw⟩; rw [hw]; clear hw w') | (go_at_call_of 23 x21; refine (p4 _).mono ?_; rintro e w' ⟨rfl, hw⟩; rw [hw]; clear hw w') | (go_at_call_of 23 x63; refine (p5 _).mono ?_; rintro e w' ⟨rfl, hw⟩; rw [hw]; clear hw w'))
  exact bodyPost_ret (v := .agg #[.int .i64 y, .int .i64 (n : Int)]) (by simp [results, Try.results47, go_sem]) rfl ⟨rfl, (Below.refl _ _).alloc (Nat.le_refl _) _⟩

theorem keepPrefix_any (v : Int) (w : World) (hv : inI64 v) :
    Calls Try.prog 47 #[.int .i64 v] w fun e w' => e = .returned (.agg #[.int .i64 (keepP v).1, .int .i64 (keepP v).2]) ∧ Below w.heap.size w w' := by
  have b0 := pickI_bounds v 5 (by omega)
  have b2 := pickI_bounds (v.tdiv 20) 33 (by omega)
  have b3 := pickI_bounds (v.tdiv 7) 3 (by omega)
  have b4 := pickI_bounds (v.tdiv 21) 3 (by omega)
  have b5 := pickI_bounds (v.tdiv 63) 3 (by omega)
  have hA := keepAddr_bounds v
  have hL := keepLen_bounds v
  obtain ⟨A, eA⟩ : ∃ A : Nat, keepAddr v = (A : Int) := ⟨(keepAddr v).toNat, by omega⟩
  obtain ⟨n, en⟩ : ∃ n : Nat, keepLen v = (n : Int) := ⟨(keepLen v).toNat, by omega⟩
  obtain ⟨hz, hg2⟩ := gap_facts n (by omega)
  have hgp := gap_pos (n : Int)
  have hy := cut_wrap A n (by omega)
  have hw7 : wrap64 (32 - (n : Int)) = 32 - (n : Int) := wrap64_in' _ (by omega) (by omega)
  have hsum : wrap64 (167772160 + 65536 * pickI (v.tdiv 7) 3 + 256 * pickI (v.tdiv 21) 3 + pickI (v.tdiv 63) 3) = (A : Int) := by
    have e : 167772160 + 65536 * pickI (v.tdiv 7) 3 + 256 * pickI (v.tdiv 21) 3 + pickI (v.tdiv 63) 3 = (A : Int) := by rw [← eA]; rfl
    rw [e]; exact wrap64_in' _ (by omega) (by omega)
  have hP : keepP v = ((A : Int) - (A : Int) % gap n, (n : Int)) := by unfold keepP; rw [eA, en]
  rw [hP]
  by_cases h1 : pickI (v.tdiv 5) 4 = 0
  · have e2 : pickI (v.tdiv 20) 33 = (n : Int) := by rw [← en]; unfold keepLen; rw [if_pos h1]
    exact keepPrefix_raw v _ _ _ _ _ _ _ _ _ _ _ A n w (tdiv_in v 5 hv (by omega)).2 (tdiv_in v 20 hv (by omega)).2 (tdiv_in v 7 hv (by omega)).2 (tdiv_in v 21 hv (by omega)).2 (tdiv_in v 63 hv (by omega)).2
      (fun w => pick_any v 5 w hv (by omega)) (fun w => pick_any (v.tdiv 5) 4 w (tdiv_in v 5 hv (by omega)).1 (by omega)) (fun w => by rw [← e2]; exact pick_any (v.tdiv 20) 33 w (tdiv_in v 20 hv (by omega)).1 (by omega)) (fun w => pick_any (v.tdiv 7) 3 w (tdiv_in v 7 hv (by omega)).1 (by omega)) (fun w => pick_any (v.tdiv 21) 3 w (tdiv_in v 21 hv (by omega)).1 (by omega)) (fun w => pick_any (v.tdiv 63) 3 w (tdiv_in v 63 hv (by omega)).1 (by omega))
      (by rw [h1]; rfl) (by omega) (wrap64_in' _ (by omega) (by omega)) (wrap64_in' _ (by omega) (by omega)) (wrap64_in' _ (by omega) (by omega)) (wrap64_in' _ (by omega) (by omega)) hsum hw7 hz hg2 hy hgp (wrap64_in' _ (by omega) (by omega))
  · have e8 : 8 * pickI v 5 = (n : Int) := by rw [← en]; unfold keepLen; rw [if_neg h1]
    exact keepPrefix_raw8 v _ _ _ _ _ _ _ _ _ _ _ _ A n w (tdiv_in v 5 hv (by omega)).2 (tdiv_in v 20 hv (by omega)).2 (tdiv_in v 7 hv (by omega)).2 (tdiv_in v 21 hv (by omega)).2 (tdiv_in v 63 hv (by omega)).2
      (fun w => pick_any v 5 w hv (by omega)) (fun w => pick_any (v.tdiv 5) 4 w (tdiv_in v 5 hv (by omega)).1 (by omega)) (fun w => pick_any (v.tdiv 20) 33 w (tdiv_in v 20 hv (by omega)).1 (by omega)) (fun w => pick_any (v.tdiv 7) 3 w (tdiv_in v 7 hv (by omega)).1 (by omega)) (fun w => pick_any (v.tdiv 21) 3 w (tdiv_in v 21 hv (by omega)).1 (by omega)) (fun w => pick_any (v.tdiv 63) 3 w (tdiv_in v 63 hv (by omega)).1 (by omega))
      (by rw [beq_eq_false_iff_ne]; exact h1) (by omega) (wrap64_in' _ (by omega) (by omega)) (wrap64_in' _ (by omega) (by omega)) (wrap64_in' _ (by omega) (by omega)) (wrap64_in' _ (by omega) (by omega)) hsum hw7 hz hg2 hy hgp (by rw [e8]; exact wrap64_in' _ (by omega) (by omega))

end Go.Proofs.Yteoacdkgicfomaa
/-
  routeloglaw.sameP, walked: of two lists of the same prefixes it answers true.
-/
namespace Go.Proofs.Yteoacdkgicfomaa
open Go.RowKit
open Rl

set_option maxRecDepth 20000 in
set_option maxHeartbeats 2000000 in
theorem sameP_any (va vb : Value) (l : List (Int × Int)) (a0 a1 : Option Addr) (c0 c1 : Nat) (w : World) (hl : l.length ≤ 1073741824) (ha : va = .slice a0 l.length c0) (hb : vb = .slice a1 l.length c1) (hra : RowAt w va l.length 2 (pfCells l)) (hrb : RowAt w vb l.length 2 (pfCells l)) :
    Calls Try.prog 14 #[va, vb] w fun e w' => e = .returned (.bool true) ∧ Below w.heap.size w w' := by
  rcases hra.2 with ⟨x, y, hv, hn⟩ | ⟨b, o, cap, hv, hn, hbk, hc⟩
  · have e0 : l = [] := List.eq_nil_of_length_eq_zero hn
    subst e0
    subst ha hb
    go_enter Try.func14, Try.ntmps14
    go_wp2
    refine wp_loop_rounds 1 ?_
    rw [rounds_succ]
    go_wp2
    go_ret
    exact ⟨rfl, Below.refl _ _⟩
  · rcases hrb.2 with ⟨x, y, hv2, hn2⟩ | ⟨b2, o2, cap2, hv2, hn2, hbk2, hc2⟩
    · omega
    · clear ha hb
      subst hv hv2
      have hne : ((l.length : Int) != (l.length : Int)) = false := by simp
      go_enter Try.func14, Try.ntmps14
      go_wp2
      go_loopw [5] (fun i wr => ∃ k : Nat, k ≤ l.length ∧ i = .int .i64 k ∧ Below w.heap.size w wr) (fun i _ => l.length - (intOf i).toNat)
      case atStart => exact ⟨0, Nat.zero_le _, rfl, Below.refl _ _⟩
      case round =>
        obtain ⟨k, hk, rfl, hbel⟩ := hrel
        by_cases hlt : k < l.length
        · obtain ⟨g1, g2⟩ := pfCells_get l k hlt
          have q1 := (hbel.cell (p := ⟨b, o + k * 2, none⟩) hbk).trans (hc _ _ g1)
          have q2 := (hbel.cell (p := ⟨b, o + k * 2 + 1, none⟩) hbk).trans (hc _ _ g2)
          have q3 := (hbel.cell (p := ⟨b2, o2 + k * 2, none⟩) hbk2).trans (hc2 _ _ g1)
          have q4 := (hbel.cell (p := ⟨b2, o2 + k * 2 + 1, none⟩) hbk2).trans (hc2 _ _ g2)
          clear hc hc2 g1 g2
          generalize l[k].1 = p at *
          generalize l[k].2 = q at *
          have hlt' : (k : Int) < (l.length : Int) := by omega
          have hk0 : (0 : Int) ≤ (k : Int) := by omega
          go_wp2
          go_quiet (fail)
          go_wp2
          exact ⟨⟨k + 1, by omega, by go_num, below_drewN hbel _⟩, by simp [intOf]; omega⟩
        · clear hc hc2
          go_wp2
          go_ret
          exact ⟨rfl, hbel⟩

end Go.Proofs.Yteoacdkgicfomaa
/-
  routelogkeep's bytes and same, walked: they are the document's own and the law's.
-/
namespace Go.Proofs.Yteoacdkgicfomaa
open Go.RowKit
open Rl

set_option maxHeartbeats 400000 in
theorem keepBytes_any (n m : Nat) (w : World) (hn : n < 9223372036854775808) (hm : m ≤ 8) :
    Calls Try.prog 26 #[.int .i64 n, .int .i64 m] w fun e w' => e = .returned (.string ⟨(be m n).toArray⟩) ∧ Below w.heap.size w w' := by
  obtain ⟨i0, hi, hz0, hz1, hz2⟩ := info_parts info_u8
  go_enter Try.func26, Try.ntmps26
  go_wp2_with (at_make; refine wpList_make_full _ rfl _ _ 59 rfl w.heap.size 5 i0 (.int .u8 0) 1 Try.underlying59 hi hz0 hz1 .i64 .i64 _ _ m rfl rfl rfl rfl (by rw [hz2]; omega) (by unfold maxLen; omega) (Nat.le_refl _) ?_; intro w1 hown hgrow)
  rw [zeros_u8] at hown
  go_loopw [0, 6] (fun x i wr => ∃ j : Nat, j ≤ m ∧ i = .int .i64 ((j : Int) - 1) ∧ x = .int .i64 ((n / 256 ^ (m - j) : Nat) : Int) ∧ wr.ownsRow w.heap.size 5 1 (.slice (some ⟨w.heap.size, 0, none⟩) m m) m (u8s (beRow m n j)) ∧ Below w.heap.size w wr) (fun _ i _ => (intOf i + 1).toNat)
  case atStart => exact ⟨m, Nat.le_refl _, rfl, by simp, by rw [beRow_all]; exact hown, (Below.refl _ _).grown hgrow (Nat.le_refl _) (by simp)⟩
  case round =>
    obtain ⟨j, hj, rfl, rfl, hr, hb⟩ := hrel
    cases j with
    | zero =>
      rw [beRow_zero] at hr
      have hconv : (convert 59 9 (.slice (some ⟨w.heap.size, 0, none⟩) m m)).run Try.prog wr = .ok (.string ⟨(be m n).toArray⟩) wr := by
        have h := run_convert_bytes_back (P := Try.prog) wr 59 9 5 ⟨w.heap.size, 0, none⟩ m (be m n) Try.underlying59 Try.underlying5 Try.underlying9 (by
          intro j hj
          have := hr.cellAt j (by rw [be_length] at hj; omega)
          rw [add_head, this, u8s_get _ _ hj])
        rwa [be_length] at h
      go_wp2
      go_ret
      exact ⟨rfl, hb⟩
    | succ j =>
      have hcell := hr.cellAt j (by omega)
      rw [u8s_get _ _ (by rw [beRow_length _ _ _ hj]; omega)] at hcell
      have hfrozen := hr.frozenAt j
      have hdiv := div_le' n (m - (j + 1))
      have H := hide (hr.stored j (.int .u8 (((n / 256 ^ (m - (j + 1)) : Nat) : Int) % 256)))
      have HS := hide (div_step n m j (by omega))
      have HR := hide (beRow_step m n j (by omega))
      generalize n / 256 ^ (m - (j + 1)) = q at *
      clear hr
      go_wp2
      go_roundw
      case rel => exact ⟨j, by omega, by go_num, by rw [← HS.out]; go_num, by have h := H.out.1; rw [set_u8s _ _ _ _ (toNat_mod q).symm, HR.out] at h; exact h, hb.setCell (by simp) _⟩
      case measure => simp [intOf]

set_option maxRecDepth 20000 in
set_option maxHeartbeats 2000000 in
theorem keepSame_any (va vb : Value) (l : List (Int × Int)) (a0 a1 : Option Addr) (c0 c1 : Nat) (w : World) (hl : l.length ≤ 1073741824) (ha : va = .slice a0 l.length c0) (hb : vb = .slice a1 l.length c1) (hra : RowAt w va l.length 2 (pfCells l)) (hrb : RowAt w vb l.length 2 (pfCells l)) :
    Calls Try.prog 22 #[va, vb] w fun e w' => e = .returned (.bool true) ∧ Below w.heap.size w w' := by
  rcases hra.2 with ⟨x, y, hv, hn⟩ | ⟨b, o, cap, hv, hn, hbk, hc⟩
  · have e0 : l = [] := List.eq_nil_of_length_eq_zero hn
    subst e0
    subst ha hb
    go_enter Try.func22, Try.ntmps22
    go_wp2
    refine wp_loop_rounds 1 ?_
    rw [rounds_succ]
    go_wp2
    go_ret
    exact ⟨rfl, Below.refl _ _⟩
  · rcases hrb.2 with ⟨x, y, hv2, hn2⟩ | ⟨b2, o2, cap2, hv2, hn2, hbk2, hc2⟩
    · omega
    · clear ha hb
      subst hv hv2
      have hne : ((l.length : Int) != (l.length : Int)) = false := by simp
      go_enter Try.func22, Try.ntmps22
      go_wp2
      go_loopw [5] (fun i wr => ∃ k : Nat, k ≤ l.length ∧ i = .int .i64 k ∧ Below w.heap.size w wr) (fun i _ => l.length - (intOf i).toNat)
      case atStart => exact ⟨0, Nat.zero_le _, rfl, Below.refl _ _⟩
      case round =>
        obtain ⟨k, hk, rfl, hbel⟩ := hrel
        by_cases hlt : k < l.length
        · obtain ⟨g1, g2⟩ := pfCells_get l k hlt
          have q1 := (hbel.cell (p := ⟨b, o + k * 2, none⟩) hbk).trans (hc _ _ g1)
          have q2 := (hbel.cell (p := ⟨b, o + k * 2 + 1, none⟩) hbk).trans (hc _ _ g2)
          have q3 := (hbel.cell (p := ⟨b2, o2 + k * 2, none⟩) hbk2).trans (hc2 _ _ g1)
          have q4 := (hbel.cell (p := ⟨b2, o2 + k * 2 + 1, none⟩) hbk2).trans (hc2 _ _ g2)
          clear hc hc2 g1 g2
          generalize l[k].1 = p at *
          generalize l[k].2 = q at *
          have hlt' : (k : Int) < (l.length : Int) := by omega
          have hk0 : (0 : Int) ≤ (k : Int) := by omega
          go_wp2
          go_quiet (fail)
          go_wp2
          exact ⟨⟨k + 1, by omega, by go_num, below_drewN hbel _⟩, by simp [intOf]; omega⟩
        · clear hc hc2
          go_wp2
          go_ret
          exact ⟨rfl, hbel⟩

end Go.Proofs.Yteoacdkgicfomaa
/-
  routelogkeep's prefixes, walked: as many as there are raw numbers, at most top.
-/
namespace Go.Proofs.Yteoacdkgicfomaa
open Go.RowKit
open Rl

/-- the cells of raw numbers. -/
def ints (l : List Int) : List Value := l.map (Value.int .i64)

def keepL (raw : List Int) (top : Nat) : List (Int × Int) := (raw.take top).map keepP

theorem keepL_length (raw : List Int) (top : Nat) : (keepL raw top).length = min top raw.length := by simp [keepL]

theorem keepL_step (raw : List Int) (k : Nat) (h : k < raw.length) : keepL raw (k + 1) = keepL raw k ++ [keepP raw[k]] := by
  unfold keepL
  rw [List.take_succ_eq_append_getElem h, List.map_append]
  rfl

theorem kp_two (p q : Int) : ∀ u ∈ [Value.int .i64 p, Value.int .i64 q], u.oneCell' = true := by
  intro u hu; simp at hu; rcases hu with rfl | rfl <;> rfl

set_option maxRecDepth 20000 in
set_option maxHeartbeats 2000000 in
theorem keepPrefixes_any (v : Value) (raw : List Int) (top : Nat) (w : World) (hr : RowAt w v raw.length 1 (ints raw)) (hi64 : ∀ c ∈ raw, inI64 c) (ht : top ≤ 1000) (_hlen : raw.length ≤ 9223372036854775807) :
    Calls Try.prog 20 #[v, .int .i64 top] w fun e w' => ∃ v', e = .returned v' ∧ w'.ownsRow w.heap.size 36 2 v' (keepL raw top).length (pfCells (keepL raw top)) ∧ Below w.heap.size w w' := by
  obtain ⟨i0, hi, hz0, hz1, hz2⟩ := info_parts info_pfx
  obtain ⟨a0, c0, ev⟩ : ∃ a c, v = .slice a raw.length c := by
    rcases hr.2 with ⟨a, c, e, h0⟩ | ⟨b, o, cap, e, _⟩
    · rw [h0]; exact ⟨a, c, e⟩
    · exact ⟨_, cap, e⟩
  subst ev
  go_enter Try.func20, Try.ntmps20
  go_wp2
  go_loopw [5, 6] (fun x i wr => ∃ (k : Nat) (lv : Value), lv = x ∧ k ≤ raw.length ∧ k ≤ top ∧ i = .int .i64 k ∧ wr.ownsRow w.heap.size 36 2 lv k (pfCells (keepL raw k)) ∧ Below w.heap.size w wr) (fun _ i _ => top - (intOf i).toNat)
  case atStart => exact ⟨0, _, rfl, Nat.zero_le _, Nat.zero_le _, rfl, World.ownsRow_nil _ _ _ _, Below.refl _ _⟩
  case round =>
    obtain ⟨k, lv, rfl, hk1, hk2, rfl, hown, hbel⟩ := hrel
    by_cases hlt : k < raw.length
    · by_cases hlt2 : k < top
      · rcases hr.2 with ⟨_, _, _, h0⟩ | ⟨b, o, cap, e, _, hb, hc⟩
        · omega
        · cases e
          have hcell := (hbel.cell (p := ⟨b, o + k, none⟩) hb).trans (hc k _ (by unfold ints; rw [List.getElem?_map, List.getElem?_eq_getElem hlt]; rfl))
          have hcall := fun w => keepPrefix_any raw[k] w (hi64 _ (List.getElem_mem hlt))
          have HT := hide (keepL_step raw k hlt)
          have hx : (k : Int) < (raw.length : Int) := by omega
          clear hr hc hi64
          generalize raw[k] = c at *
          generalize keepP c = p at *
          go_wp2_with (first | (go_at_call 47; refine (hcall _).mono ?_; rintro e w2 ⟨rfl, hb2⟩; have hown2 := owns_later hown hb2; have hbel2 := later_below hbel hb2 hbel.size) | (at_builtin; refine wpList_append_own _ rfl _ _ 26 rfl w.heap.size 36 i0 (.agg #[.int .i64 0, .int .i64 0]) 2 16 Try.underlying26 hi hz0 hz1 hz2 rfl (by decide) _ _ _ rfl ((hown2.alloc _).alloc _) ⟨w2.heap.size + 1, 0, none⟩ 1 1 [.int .i64 p.1, .int .i64 p.2] rfl rfl (cells_new2' _ _ _ _) (kp_two _ _) (by unfold maxLen; omega) (by omega) (by have := hbel2.size; simp; omega) ?_; intro v5 w5 hown5 hgrow5 _))
          refine ⟨⟨k + 1, v5, rfl, by omega, by omega, by go_num, by rw [HT.out, pf_app]; exact hown5, below_app2' hbel2 hbel2.size hown2 hgrow5⟩, by simp [intOf]; omega⟩
      · have hk : k = top := by omega
        have hl : (keepL raw top).length = top := by rw [keepL_length]; omega
        have hg : ¬ (k : Int) < (top : Int) := by omega
        subst hk
        clear hr hi64
        go_wp2
        go_ret
        exact ⟨lv, rfl, hown, hbel⟩
    · have hl : keepL raw k = keepL raw top := by
        unfold keepL
        rw [List.take_of_length_le (by omega), List.take_of_length_le (by omega)]
      have hn : k = (keepL raw top).length := by rw [← hl, keepL_length]; omega
      rw [hl, hn] at hown
      clear hr hi64 hl hn
      go_wp2
      go_ret
      exact ⟨lv, rfl, hown, hbel⟩

end Go.Proofs.Yteoacdkgicfomaa
/-
  Scan, walked, both: over what first hands back.
-/
namespace Go.Proofs.Yteoacdkgicfomaa
open Go.RowKit
open Rl

theorem info_rec : (Try.prog.info? 57).map (fun i => (i.zero, i.size, i.bytes)) = some (some (.agg #[.int .i64 0, .int .i64 0, .int .i64 0, .string ⟨#[]⟩]), 4, 40) := by kernel_rfl

theorem rec_four (t k p : Int) (b : ByteArray) : ∀ u ∈ [Value.int .i64 t, Value.int .i64 k, Value.int .i64 p, Value.string b], u.oneCell' = true := by
  intro u hu; simp at hu; rcases hu with rfl | rfl | rfl | rfl <;> rfl

/-- what Scan hands back. -/
def Scanned (b : ByteArray) (w : World) (e : Ending) (w' : World) : Prop :=
  ∃ v, e = .returned (.tuple #[v, .int .i64 (scanN b : Int)]) ∧ w'.ownsRow w.heap.size 57 4 v (scanR b).length (recCells (scanR b)) ∧ Below w.heap.size w w' ∧ (scanR b).length * 12 ≤ b.size ∧ scanN b ≤ b.size

def FirstOf (n : Nat) : Prop := ∀ (s : ByteArray) (w : World), s.size ≤ 2097152 → Calls Try.prog n #[.string s] w fun e w' => e = .returned (.tuple #[recAgg (frRec s), .int .i64 (frLen s : Int)]) ∧ Below w.heap.size w w'

set_option maxRecDepth 20000 in
set_option maxHeartbeats 4000000 in
theorem scan_of (HF : FirstOf 67) (b : ByteArray) (w : World) (hs : b.size ≤ 2097152) :
    Calls Try.prog 48 #[.string b] w fun e w' => Scanned b w e w' := by
  obtain ⟨i0, hi, hz0, hz1, hz2⟩ := info_parts info_rec
  go_enter Try.func48, Try.ntmps48
  go_wp2
  go_loopw [4, 5] (fun x i wr => ∃ (n : Nat) (xs : List Rec) (s : ByteArray) (lv : Value), lv = x ∧ i = .int .i64 n ∧ Hid (ScanMid b xs n s) ∧ wr.ownsRow w.heap.size 57 4 lv xs.length (recCells xs) ∧ Below w.heap.size w wr) (fun _ i _ => b.size - (intOf i).toNat)
  case atStart => exact ⟨0, [], b, _, rfl, rfl, scanMid_start b, World.ownsRow_nil _ _ _ _, Below.refl _ _⟩
  case round =>
    obtain ⟨n, xs, s, lv, rfl, rfl, HM, hown, hbel⟩ := hrel
    obtain ⟨av, cv, rfl⟩ := slice_of_owns hown
    have hm := HM.out
    obtain ⟨_, _, m3, m4, m5⟩ := hm
    have m4i : (n : Int) ≤ (b.size : Int) := by omega
    have hsz : s.size ≤ 2097152 := by rw [m3, ByteArray.size_extract]; omega
    have HS := hide m3
    have hcall := fun wx => HF s wx hsz
    clear m3 HF
    cases hf : firstR s with
    | false =>
      obtain ⟨e1, e2⟩ := frRec_no hf
      obtain ⟨r1, r2⟩ := scanMid_end HM.out hf
      have HA0 : recAgg ⟨0, 0, 0, ⟨#[]⟩⟩ = .agg #[.int .i64 0, .int .i64 0, .int .i64 0, .string ⟨#[]⟩] := rfl
      rw [e1, e2, HA0] at hcall
      clear e1 e2 HA0
      have HR : Hid (scanR b = xs ∧ scanN b = n) := ⟨r1, r2⟩
      clear r1 r2
      go_wp2_with fail
      rw [← HS.out]
      refine (hcall _).mono ?_
      rintro e w2 ⟨rfl, hb2⟩
      have hown2 := owns_later hown hb2
      have hbel2 := later_below hbel hb2 hbel.size
      go_wp2
      go_ret2
      refine ⟨.slice av xs.length cv, ?_, ?_, ?_, ?_, ?_⟩
      · rw [HR.out.2]; rfl
      · rw [HR.out.1]; exact hown2.alloc _
      · exact hbel2.alloc hbel2.size _
      · rw [HR.out.1]; omega
      · rw [HR.out.2]; omega
    | true =>
      obtain ⟨e1, e2⟩ := frRec_yes hf
      have HN := hide (scanMid_step HM.out hf)
      have hm2 := (scanMid_step HM.out hf).2.2.2.1
      rw [e1, e2] at hcall
      clear e1 e2 hf
      have HA : Hid (∀ r : Rec, recAgg r = .agg #[.int .i64 (r.time : Int), .int .i64 (r.kind : Int), .int .i64 (r.peer : Int), .string r.body]) := fun _ => rfl
      rw [HA.out] at hcall
      clear HA
      generalize headR s = r at *
      generalize bodyN s = N at *
      have hne : (((12 + N : Nat) : Int) == 0) = false := by rw [beq_eq_false_iff_ne]; omega
      obtain ⟨M, hM⟩ : ∃ M, M = n + (12 + N) := ⟨_, rfl⟩
      have hnn : (n : Int) + ((12 + N : Nat) : Int) = (M : Int) := by omega
      have hMn : (n : Int) < (M : Int) ∧ (M : Int) ≤ (b.size : Int) := by omega
      rw [← hM] at HN
      clear hM hm2
      generalize 12 + N = Z at *
      go_wp2_with fail
      rw [← HS.out]
      refine (hcall _).mono ?_
      rintro e w2 ⟨rfl, hb2⟩
      have hown2 := owns_later hown hb2
      have hbel2 := later_below hbel hb2 hbel.size
      have HT : Hid (recCells (xs ++ [r]) = recCells xs ++ [.int .i64 (r.time : Int), .int .i64 (r.kind : Int), .int .i64 (r.peer : Int), .string r.body]) := by rw [recCells_app]; rfl
      go_wp2_with (at_builtin; refine wpList_append_own _ rfl _ _ 52 rfl w.heap.size 57 i0 (.agg #[.int .i64 0, .int .i64 0, .int .i64 0, .string ⟨#[]⟩]) 4 40 Try.underlying52 hi hz0 hz1 hz2 rfl (by decide) _ _ _ rfl ((hown2.alloc _).alloc _) ⟨w2.heap.size + 1, 0, none⟩ 1 1 [.int .i64 (r.time : Int), .int .i64 (r.kind : Int), .int .i64 (r.peer : Int), .string r.body] rfl rfl (cells_new2' _ _ _ _) (rec_four _ _ _ _) (by unfold maxLen; omega) (by omega) (by have := hbel2.size; simp; omega) ?_; intro v5 w5 hown5 hgrow5 _)
      refine ⟨⟨M, xs ++ [r], restR s, v5, rfl, rfl, HN, ?_, below_app2' hbel2 hbel2.size hown2 hgrow5⟩, by simp [intOf]; omega⟩
      rw [HT.out]
      simpa using hown5

set_option maxRecDepth 20000 in
set_option maxHeartbeats 4000000 in
theorem scanRef_of (HF : FirstOf 49) (b : ByteArray) (w : World) (hs : b.size ≤ 2097152) :
    Calls Try.prog 29 #[.string b] w fun e w' => Scanned b w e w' := by
  obtain ⟨i0, hi, hz0, hz1, hz2⟩ := info_parts info_rec
  go_enter Try.func29, Try.ntmps29
  go_wp2
  go_loopw [4, 5] (fun x i wr => ∃ (n : Nat) (xs : List Rec) (s : ByteArray) (lv : Value), lv = x ∧ i = .int .i64 n ∧ Hid (ScanMid b xs n s) ∧ wr.ownsRow w.heap.size 57 4 lv xs.length (recCells xs) ∧ Below w.heap.size w wr) (fun _ i _ => b.size - (intOf i).toNat)
  case atStart => exact ⟨0, [], b, _, rfl, rfl, scanMid_start b, World.ownsRow_nil _ _ _ _, Below.refl _ _⟩
  case round =>
    obtain ⟨n, xs, s, lv, rfl, rfl, HM, hown, hbel⟩ := hrel
    obtain ⟨av, cv, rfl⟩ := slice_of_owns hown
    have hm := HM.out
    obtain ⟨_, _, m3, m4, m5⟩ := hm
    have m4i : (n : Int) ≤ (b.size : Int) := by omega
    have hsz : s.size ≤ 2097152 := by rw [m3, ByteArray.size_extract]; omega
    have HS := hide m3
    have hcall := fun wx => HF s wx hsz
    clear m3 HF
    cases hf : firstR s with
    | false =>
      obtain ⟨e1, e2⟩ := frRec_no hf
      obtain ⟨r1, r2⟩ := scanMid_end HM.out hf
      have HA0 : recAgg ⟨0, 0, 0, ⟨#[]⟩⟩ = .agg #[.int .i64 0, .int .i64 0, .int .i64 0, .string ⟨#[]⟩] := rfl
      rw [e1, e2, HA0] at hcall
      clear e1 e2 HA0
      have HR : Hid (scanR b = xs ∧ scanN b = n) := ⟨r1, r2⟩
      clear r1 r2
      go_wp2_with fail
      rw [← HS.out]
      refine (hcall _).mono ?_
      rintro e w2 ⟨rfl, hb2⟩
      have hown2 := owns_later hown hb2
      have hbel2 := later_below hbel hb2 hbel.size
      go_wp2
      go_ret2
      refine ⟨.slice av xs.length cv, ?_, ?_, ?_, ?_, ?_⟩
      · rw [HR.out.2]; rfl
      · rw [HR.out.1]; exact hown2.alloc _
      · exact hbel2.alloc hbel2.size _
      · rw [HR.out.1]; omega
      · rw [HR.out.2]; omega
    | true =>
      obtain ⟨e1, e2⟩ := frRec_yes hf
      have HN := hide (scanMid_step HM.out hf)
      have hm2 := (scanMid_step HM.out hf).2.2.2.1
      rw [e1, e2] at hcall
      clear e1 e2 hf
      have HA : Hid (∀ r : Rec, recAgg r = .agg #[.int .i64 (r.time : Int), .int .i64 (r.kind : Int), .int .i64 (r.peer : Int), .string r.body]) := fun _ => rfl
      rw [HA.out] at hcall
      clear HA
      generalize headR s = r at *
      generalize bodyN s = N at *
      have hne : (((12 + N : Nat) : Int) == 0) = false := by rw [beq_eq_false_iff_ne]; omega
      obtain ⟨M, hM⟩ : ∃ M, M = n + (12 + N) := ⟨_, rfl⟩
      have hnn : (n : Int) + ((12 + N : Nat) : Int) = (M : Int) := by omega
      have hMn : (n : Int) < (M : Int) ∧ (M : Int) ≤ (b.size : Int) := by omega
      rw [← hM] at HN
      clear hM hm2
      generalize 12 + N = Z at *
      go_wp2_with fail
      rw [← HS.out]
      refine (hcall _).mono ?_
      rintro e w2 ⟨rfl, hb2⟩
      have hown2 := owns_later hown hb2
      have hbel2 := later_below hbel hb2 hbel.size
      have HT : Hid (recCells (xs ++ [r]) = recCells xs ++ [.int .i64 (r.time : Int), .int .i64 (r.kind : Int), .int .i64 (r.peer : Int), .string r.body]) := by rw [recCells_app]; rfl
      go_wp2_with (at_builtin; refine wpList_append_own _ rfl _ _ 52 rfl w.heap.size 57 i0 (.agg #[.int .i64 0, .int .i64 0, .int .i64 0, .string ⟨#[]⟩]) 4 40 Try.underlying52 hi hz0 hz1 hz2 rfl (by decide) _ _ _ rfl ((hown2.alloc _).alloc _) ⟨w2.heap.size + 1, 0, none⟩ 1 1 [.int .i64 (r.time : Int), .int .i64 (r.kind : Int), .int .i64 (r.peer : Int), .string r.body] rfl rfl (cells_new2' _ _ _ _) (rec_four _ _ _ _) (by unfold maxLen; omega) (by omega) (by have := hbel2.size; simp; omega) ?_; intro v5 w5 hown5 hgrow5 _)
      refine ⟨⟨M, xs ++ [r], restR s, v5, rfl, rfl, HN, ?_, below_app2' hbel2 hbel2.size hown2 hgrow5⟩, by simp [intOf]; omega⟩
      rw [HT.out]
      simpa using hown5

end Go.Proofs.Yteoacdkgicfomaa
/-
  Two lists of the same records are the same, walked: routeloglaw.sameR, routelogkeep.alike.
-/
namespace Go.Proofs.Yteoacdkgicfomaa
open Go.RowKit
open Rl

set_option maxRecDepth 20000 in
set_option maxHeartbeats 4000000 in
theorem sameR_any (va vb : Value) (l : List Rec) (a0 a1 : Option Addr) (c0 c1 : Nat) (w : World) (hl : l.length ≤ 1073741824) (ha : va = .slice a0 l.length c0) (hb : vb = .slice a1 l.length c1) (hra : RowAt w va l.length 4 (recCells l)) (hrb : RowAt w vb l.length 4 (recCells l)) :
    Calls Try.prog 30 #[va, vb] w fun e w' => e = .returned (.bool true) ∧ Below w.heap.size w w' := by
  rcases hra.2 with ⟨x, y, hv, hn⟩ | ⟨b, o, cap, hv, hn, hbk, hc⟩
  · have e0 : l = [] := List.eq_nil_of_length_eq_zero hn
    subst e0
    subst ha hb
    go_enter Try.func30, Try.ntmps30
    go_wp2
    refine wp_loop_rounds 1 ?_
    rw [rounds_succ]
    go_wp2
    go_ret
    exact ⟨rfl, Below.refl _ _⟩
  · rcases hrb.2 with ⟨x, y, hv2, hn2⟩ | ⟨b2, o2, cap2, hv2, hn2, hbk2, hc2⟩
    · omega
    · clear ha hb
      subst hv hv2
      have hne : ((l.length : Int) != (l.length : Int)) = false := by simp
      go_enter Try.func30, Try.ntmps30
      go_wp2
      go_loopw [5] (fun i wr => ∃ k : Nat, k ≤ l.length ∧ i = .int .i64 k ∧ Below w.heap.size w wr) (fun i _ => l.length - (intOf i).toNat)
      case atStart => exact ⟨0, Nat.zero_le _, rfl, Below.refl _ _⟩
      case round =>
        obtain ⟨k, hk, rfl, hbel⟩ := hrel
        by_cases hlt : k < l.length
        · obtain ⟨g1, g2, g3, g4⟩ := recCells_get l k hlt
          have q1 := (hbel.cell (p := ⟨b, o + k * 4, none⟩) hbk).trans (hc _ _ g1)
          have q2 := (hbel.cell (p := ⟨b, o + k * 4 + 1, none⟩) hbk).trans (hc _ _ g2)
          have q3 := (hbel.cell (p := ⟨b, o + k * 4 + 2, none⟩) hbk).trans (hc _ _ g3)
          have q4 := (hbel.cell (p := ⟨b, o + k * 4 + 3, none⟩) hbk).trans (hc _ _ g4)
          have r1 := (hbel.cell (p := ⟨b2, o2 + k * 4, none⟩) hbk2).trans (hc2 _ _ g1)
          have r2 := (hbel.cell (p := ⟨b2, o2 + k * 4 + 1, none⟩) hbk2).trans (hc2 _ _ g2)
          have r3 := (hbel.cell (p := ⟨b2, o2 + k * 4 + 2, none⟩) hbk2).trans (hc2 _ _ g3)
          have r4 := (hbel.cell (p := ⟨b2, o2 + k * 4 + 3, none⟩) hbk2).trans (hc2 _ _ g4)
          clear hc hc2 g1 g2 g3 g4 hra hrb
          generalize l[k].time = p at *
          generalize l[k].kind = q at *
          generalize l[k].peer = s at *
          generalize l[k].body = t at *
          have hlt' : (k : Int) < (l.length : Int) := by omega
          have hk0 : (0 : Int) ≤ (k : Int) := by omega
          go_wp2
          go_quiet (fail)
          go_wp2
          exact ⟨⟨k + 1, by omega, by go_num, below_drewN hbel _⟩, by simp [intOf]; omega⟩
        · clear hc hc2 hra hrb
          go_wp2
          go_ret
          exact ⟨rfl, hbel⟩

set_option maxRecDepth 20000 in
set_option maxHeartbeats 4000000 in
theorem alike_any (va vb : Value) (l : List Rec) (a0 a1 : Option Addr) (c0 c1 : Nat) (w : World) (hl : l.length ≤ 1073741824) (ha : va = .slice a0 l.length c0) (hb : vb = .slice a1 l.length c1) (hra : RowAt w va l.length 4 (recCells l)) (hrb : RowAt w vb l.length 4 (recCells l)) :
    Calls Try.prog 32 #[va, vb] w fun e w' => e = .returned (.bool true) ∧ Below w.heap.size w w' := by
  rcases hra.2 with ⟨x, y, hv, hn⟩ | ⟨b, o, cap, hv, hn, hbk, hc⟩
  · have e0 : l = [] := List.eq_nil_of_length_eq_zero hn
    subst e0
    subst ha hb
    go_enter Try.func32, Try.ntmps32
    go_wp2
    refine wp_loop_rounds 1 ?_
    rw [rounds_succ]
    go_wp2
    go_ret
    exact ⟨rfl, Below.refl _ _⟩
  · rcases hrb.2 with ⟨x, y, hv2, hn2⟩ | ⟨b2, o2, cap2, hv2, hn2, hbk2, hc2⟩
    · omega
    · clear ha hb
      subst hv hv2
      have hne : ((l.length : Int) != (l.length : Int)) = false := by simp
      go_enter Try.func32, Try.ntmps32
      go_wp2
      go_loopw [5] (fun i wr => ∃ k : Nat, k ≤ l.length ∧ i = .int .i64 k ∧ Below w.heap.size w wr) (fun i _ => l.length - (intOf i).toNat)
      case atStart => exact ⟨0, Nat.zero_le _, rfl, Below.refl _ _⟩
      case round =>
        obtain ⟨k, hk, rfl, hbel⟩ := hrel
        by_cases hlt : k < l.length
        · obtain ⟨g1, g2, g3, g4⟩ := recCells_get l k hlt
          have q1 := (hbel.cell (p := ⟨b, o + k * 4, none⟩) hbk).trans (hc _ _ g1)
          have q2 := (hbel.cell (p := ⟨b, o + k * 4 + 1, none⟩) hbk).trans (hc _ _ g2)
          have q3 := (hbel.cell (p := ⟨b, o + k * 4 + 2, none⟩) hbk).trans (hc _ _ g3)
          have q4 := (hbel.cell (p := ⟨b, o + k * 4 + 3, none⟩) hbk).trans (hc _ _ g4)
          have r1 := (hbel.cell (p := ⟨b2, o2 + k * 4, none⟩) hbk2).trans (hc2 _ _ g1)
          have r2 := (hbel.cell (p := ⟨b2, o2 + k * 4 + 1, none⟩) hbk2).trans (hc2 _ _ g2)
          have r3 := (hbel.cell (p := ⟨b2, o2 + k * 4 + 2, none⟩) hbk2).trans (hc2 _ _ g3)
          have r4 := (hbel.cell (p := ⟨b2, o2 + k * 4 + 3, none⟩) hbk2).trans (hc2 _ _ g4)
          clear hc hc2 g1 g2 g3 g4 hra hrb
          generalize l[k].time = p at *
          generalize l[k].kind = q at *
          generalize l[k].peer = s at *
          generalize l[k].body = t at *
          have hlt' : (k : Int) < (l.length : Int) := by omega
          have hk0 : (0 : Int) ≤ (k : Int) := by omega
          go_wp2
          go_quiet (fail)
          go_wp2
          exact ⟨⟨k + 1, by omega, by go_num, below_drewN hbel _⟩, by simp [intOf]; omega⟩
        · clear hc hc2 hra hrb
          go_wp2
          go_ret
          exact ⟨rfl, hbel⟩

end Go.Proofs.Yteoacdkgicfomaa
/-
  routeloglaw.Scans, walked, over what the two Scans hand back.
-/
namespace Go.Proofs.Yteoacdkgicfomaa
open Go.RowKit
open Rl

theorem grown_refl (w : World) (row : Option Nat) : w.grownBy w row := ⟨rfl, rfl, rfl, Nat.le_refl _, fun _ _ _ => rfl⟩

/-- a row lies outside the blocks from lo to hi. -/
def AwayR (u : Value) (lo hi : Nat) : Prop := ∀ k, u.ownBlock = some k → k < lo ∨ hi ≤ k

theorem AwayR.laid {w w' : World} {v v' : Value} {lo hi : Nat} (h : AwayR v lo hi) (hl : Laid w w' v v') (hs : hi ≤ w.heap.size) : AwayR v' lo hi := by
  intro k hk
  rcases hl with hl | ⟨⟨j, hj, hjs⟩, _⟩
  · exact h k (by rw [← hl, hk])
  · rw [hk] at hj; injection hj with e; subst e; right; omega

theorem Box4.grown {w w' : World} {n : Nat} {a b c d : Value} {row : Option Nat} (h : Box4 w n a b c d) (hg : w.grownBy w' row) (hne : some n ≠ row) : Box4 w' n a b c d := by
  have hk := hg.block n h.lt hne
  exact ⟨(World.cell?_of_block (a := ⟨n, 0, none⟩) hk).trans h.c0, (World.cell?_of_block (a := ⟨n, 1, none⟩) hk).trans h.c1, (World.cell?_of_block (a := ⟨n, 2, none⟩) hk).trans h.c2, (World.cell?_of_block (a := ⟨n, 3, none⟩) hk).trans h.c3, (World.frozen?_of_block (a := ⟨n, 0, none⟩) hk).trans h.f0, (World.frozen?_of_block (a := ⟨n, 1, none⟩) hk).trans h.f1, (World.frozen?_of_block (a := ⟨n, 2, none⟩) hk).trans h.f2, (World.frozen?_of_block (a := ⟨n, 3, none⟩) hk).trans h.f3, Nat.lt_of_lt_of_le h.lt hg.size⟩

abbrev BoxM (w : World) (n : Nat) : Prop := Box4 w n (.int .i64 (-1)) (.int .i64 0) (.int .i64 0) (.string ⟨#[]⟩)

theorem mk_one : ∀ u ∈ [Value.int .i64 (-1), Value.int .i64 0, Value.int .i64 0, Value.string ⟨#[]⟩], u.oneCell' = true := by
  intro u hu; simp at hu; rcases hu with rfl | rfl | rfl | rfl <;> rfl

theorem AwayR.ne {u : Value} {lo hi n : Nat} (h : AwayR u lo hi) (h1 : lo ≤ n) (h2 : n < hi) : some n ≠ u.ownBlock := fun e => by rcases h n e.symm with h | h <;> omega

theorem owns_keeps {w w' : World} {B : Nat} {e : TypeId} {size : Nat} {v r : Value} {n : Nat} {xs : List Value} (h : w.ownsRow B e size v n xs) (hg : w.grownBy w' r.ownBlock) (hne : ∀ k, v.ownBlock = some k → r.ownBlock ≠ some k) : w'.ownsRow B e size v n xs := by
  refine h.kept hg ?_
  cases e : v.ownBlock with
  | none => exact .inl rfl
  | some k => right; intro e2; exact hne k e e2.symm

/-- how things stand ahead of an append of a mark. -/
structure StM (B lo n8 : Nat) (v2 : Value) (l : List Rec) (w0 : World) (v : Value) (n : Nat) (wx : World) : Prop where
  row : wx.ownsRow B 57 4 v n (mkCells n)
  away : AwayR v lo (n8 + 1)
  box : BoxM wx n8
  size : n8 + 1 ≤ wx.heap.size
  ref : wx.ownsRow lo 57 4 v2 l.length (recCells l)
  bel : Below B w0 wx

theorem StM.next {B lo n8 : Nat} {v2 v v' : Value} {l : List Rec} {w0 wx w' : World} {n : Nat} {o : Obj} (h : StM B lo n8 v2 l w0 v n wx) (hlo : lo ≤ n8) (hB : B ≤ lo) (in2 : ∀ k, v2.ownBlock = some k → lo ≤ k ∧ k < n8 + 1) (hown : w'.ownsRow B 57 4 v' (n + 1) (mkCells n ++ [.int .i64 (-1), .int .i64 0, .int .i64 0, .string ⟨#[]⟩])) (hg : (wx.alloc o).grownBy w' v.ownBlock) (hl : Laid (wx.alloc o) w' v v') :
    StM B lo n8 v2 l w0 v' (n + 1) w' := by
  have hs : n8 + 1 ≤ (wx.alloc o).heap.size := by simp; have := h.size; omega
  refine ⟨hown, h.away.laid hl hs, (h.box.later (below_new _ _)).grown hg (h.away.ne hlo (by omega)), Nat.le_trans hs hg.size, owns_keeps (h.ref.alloc o) hg (fun k hk e => ?_), below_app h.bel (by have := h.size; omega) h.row hg⟩
  obtain ⟨h1, h2⟩ := in2 k hk
  rcases h.away k e with h3 | h3 <;> omega

set_option maxRecDepth 20000 in
set_option maxHeartbeats 8000000 in
theorem scans_walk (b : ByteArray) (w : World) (hs : b.size ≤ 1048576) (H1 : ∀ wx, Calls Try.prog 28 #[.string b] wx fun e w' => Scanned b wx e w') (H2 : ∀ wx, Calls Try.prog 29 #[.string b] wx fun e w' => Scanned b wx e w') :
    Calls Try.prog 8 #[.string b] w fun e w' => e = .returned (.bool true) ∧ Below w.heap.size w w' := by
  obtain ⟨i0, hi, hz0, hz1, hz2⟩ := info_parts info_rec
  unfold Scanned at H1 H2
  generalize scanR b = l at *
  generalize scanN b = N at *
  go_enter Try.func8, Try.ntmps8
  go_wp2_with fail
  refine (H1 _).mono ?_
  rintro e w1 ⟨v1, rfl, ho1, hb1, hl, hn⟩
  obtain ⟨a1, c1, rfl⟩ := slice_of_owns ho1
  go_wp2_with fail
  refine (H2 _).mono ?_
  rintro e w2 ⟨v2, rfl, ho2, hb2, _, _⟩
  obtain ⟨a2, c2, rfl⟩ := slice_of_owns ho2
  have ho1' := owns_later ho1 hb2
  have B2 := below_on hb1 hb2
  have lt1 := ho1.lt
  have lt2 := ho2.lt
  have sz12 := hb2.size
  have hw1 := hb1.size
  go_wp2_with fail
  refine (sameR_any _ _ l a1 a2 c1 c2 _ (by omega) rfl rfl (rowAt_of_owns ho1') (rowAt_of_owns ho2)).mono ?_
  rintro e w3 ⟨rfl, hb3⟩
  have o1 := owns_later ho1' hb3
  have o2 := owns_later ho2 hb3
  have B3 := below_on B2 hb3
  have sz23 := hb3.size
  clear ho1 ho1' ho2 hb1 hb2 hb3 B2
  have bx := box4_new w3 (.int .i64 (-1)) (.int .i64 0) (.int .i64 0) (.string ⟨#[]⟩) 57
  have q1 := o1.alloc (.cells #[.int .i64 (-1), .int .i64 0, .int .i64 0, .string ⟨#[]⟩] 57)
  have q2 := o2.alloc (.cells #[.int .i64 (-1), .int .i64 0, .int .i64 0, .string ⟨#[]⟩] 57)
  have B4 := B3.alloc B3.size (.cells #[.int .i64 (-1), .int .i64 0, .int .i64 0, .string ⟨#[]⟩] 57)
  have sz34 : (w3.alloc (.cells #[.int .i64 (-1), .int .i64 0, .int .i64 0, .string ⟨#[]⟩] 57)).heap.size = w3.heap.size + 1 := by simp
  have aw1 : AwayR (.slice a1 l.length c1) w1.heap.size (w3.heap.size + 1) := fun k hk => .inl (lt1 k hk).2
  have in2 : ∀ k, (Value.slice a2 l.length c2).ownBlock = some k → w1.heap.size ≤ k ∧ k < w3.heap.size + 1 := fun k hk => by have := lt2 k hk; omega
  have h8 : w1.heap.size ≤ w3.heap.size := by omega
  go_upto_block 0 with fail
  generalize w3.alloc (.cells #[.int .i64 (-1), .int .i64 0, .int .i64 0, .string ⟨#[]⟩] 57) = wz at *
  generalize w3.heap.size = n8 at *
  clear o1 o2 B3 lt2
  go_cut [9] (fun _ wx => wx.ownsRow w.heap.size 57 4 (.slice a1 l.length c1) l.length (mkCells l.length) ∧ wz.grownBy wx (Value.slice a1 l.length c1).ownBlock)
  case first =>
    go_wp2_with fail
    go_loopw [9] (fun i wr => ∃ k : Nat, k ≤ l.length ∧ i = .int .i64 k ∧ wr.ownsRow w.heap.size 57 4 (.slice a1 l.length c1) l.length (fillC k l) ∧ wz.grownBy wr (Value.slice a1 l.length c1).ownBlock) (fun i _ => l.length - (intOf i).toNat)
    case atStart => exact ⟨0, Nat.zero_le _, rfl, by simpa [fillC, mkCells] using q1, grown_refl _ _⟩
    case round =>
      obtain ⟨k, hk, rfl, hr, hgw⟩ := hrel
      by_cases hlt : k < l.length
      · rcases hr.2 with ⟨e, _⟩ | ⟨g, cap, cur, e, _⟩
        · injection e with _ e; omega
        · cases e
          have hne : some n8 ≠ some g := fun e => by injection e with e; have := (lt1 g rfl).2; omega
          obtain ⟨d0, d1, d2, d3, _, _, _, _, dl⟩ := bx.grown hgw hne
          have hlen := fillC_length k l hk
          have t0 := hr.cellAt (k * 4) (by omega)
          have t1 := hr.cellAt (k * 4 + 1) (by omega)
          have t2 := hr.cellAt (k * 4 + 2) (by omega)
          have t3 := hr.cellAt (k * 4 + 3) (by omega)
          obtain ⟨x0, y0⟩ : ∃ x, wr.cell? ⟨g, k * 4, none⟩ = some x := ⟨_, t0.trans (List.getElem?_eq_getElem (by omega))⟩
          obtain ⟨x1, y1⟩ : ∃ x, wr.cell? ⟨g, k * 4 + 1, none⟩ = some x := ⟨_, t1.trans (List.getElem?_eq_getElem (by omega))⟩
          obtain ⟨x2, y2⟩ : ∃ x, wr.cell? ⟨g, k * 4 + 2, none⟩ = some x := ⟨_, t2.trans (List.getElem?_eq_getElem (by omega))⟩
          obtain ⟨x3, y3⟩ : ∃ x, wr.cell? ⟨g, k * 4 + 3, none⟩ = some x := ⟨_, t3.trans (List.getElem?_eq_getElem (by omega))⟩
          have f0 := hr.frozenAt (k * 4)
          have f1 := hr.frozenAt (k * 4 + 1)
          have f2 := hr.frozenAt (k * 4 + 2)
          have f3 := hr.frozenAt (k * 4 + 3)
          have H := hide (stored4 hr k (.int .i64 (-1)) (.int .i64 0) (.int .i64 0) (.string ⟨#[]⟩))
          have HS := hide (fillC_step k l hlt)
          have HG := hide (grown4 hgw (k * 4) (k * 4 + 1) (k * 4 + 2) (k * 4 + 3) (.int .i64 (-1)) (.int .i64 0) (.int .i64 0) (.string ⟨#[]⟩))
          have hx : (k : Int) < (l.length : Int) := by omega
          clear t0 t1 t2 t3 hr hgw hlen H1 H2 q1 q2 bx
          go_wp2
          exact ⟨⟨k + 1, by omega, by go_num, by rw [← HS.out]; exact H.out, HG.out⟩, by simp [intOf]; omega⟩
      · have e : k = l.length := by omega
        subst e
        have ef : fillC l.length l = mkCells l.length := by unfold fillC; rw [List.drop_of_length_le (Nat.le_refl _)]; simp [recCells]
        rw [ef] at hr
        go_wp2_with fail
        go_meet
        case rel => exact ⟨hr, hgw⟩
  case rest =>
    obtain ⟨r1, hg1⟩ := hcut
    have hB1 : w.heap.size ≤ w1.heap.size := hw1
    have st1 : StM w.heap.size w1.heap.size n8 (.slice a2 l.length c2) l w (.slice a1 l.length c1) l.length wc := by
      refine ⟨r1, aw1, bx.grown hg1 (aw1.ne h8 (by omega)), by have := hg1.size; omega, owns_keeps q2 hg1 (fun k hk e => ?_), B4.grown hg1 B4.size (fun k hk => (lt1 k hk).1)⟩
      obtain ⟨h1, h2⟩ := in2 k hk
      rcases aw1 k e with h3 | h3 <;> omega
    clear q1 q2 bx B4 aw1 hg1
    obtain ⟨d0, d1, d2, d3, _, _, _, _, dl⟩ := st1.box
    have z1 := st1.bel.size
    go_upto_block 1 with (first
      | (at_builtin; refine wpList_append_laid _ rfl _ _ 52 rfl w.heap.size 57 i0 (.agg #[.int .i64 0, .int .i64 0, .int .i64 0, .string ⟨#[]⟩]) 4 40 Try.underlying52 hi hz0 hz1 hz2 rfl (by decide) _ _ _ rfl (r1.alloc _) ⟨wc.heap.size, 0, none⟩ 1 1 [.int .i64 (-1), .int .i64 0, .int .i64 0, .string ⟨#[]⟩] rfl rfl (cells_new _ _ _) mk_one (by unfold maxLen; omega) (by omega) (Nat.le_trans z1 (by simp)) ?_; intro v3 w5 o5 hg5 hl5; obtain ⟨a3, c3, rfl⟩ := slice_of_owns o5; have st3 := st1.next h8 hB1 in2 o5 hg5 hl5; have z3 := st3.bel.size; obtain ⟨p0, p1, p2, p3, _, _, _, _, pl⟩ := st3.box)
      | (at_builtin; refine wpList_append_laid _ rfl _ _ 52 rfl w.heap.size 57 i0 (.agg #[.int .i64 0, .int .i64 0, .int .i64 0, .string ⟨#[]⟩]) 4 40 Try.underlying52 hi hz0 hz1 hz2 rfl (by decide) _ _ _ rfl (o5.alloc _) ⟨w5.heap.size, 0, none⟩ 1 1 [.int .i64 (-1), .int .i64 0, .int .i64 0, .string ⟨#[]⟩] rfl rfl (cells_new _ _ _) mk_one (by unfold maxLen; omega) (by omega) (Nat.le_trans z3 (by simp)) ?_; intro v4 w6 o6 hg6 hl6; obtain ⟨a4, c4, rfl⟩ := slice_of_owns o6; have st4 := st3.next h8 hB1 in2 o6 hg6 hl6; have z4 := st4.bel.size; obtain ⟨q0, q1, q2, q3, _, _, _, _, ql⟩ := st4.box)
      | (at_builtin; refine wpList_append_laid _ rfl _ _ 52 rfl w.heap.size 57 i0 (.agg #[.int .i64 0, .int .i64 0, .int .i64 0, .string ⟨#[]⟩]) 4 40 Try.underlying52 hi hz0 hz1 hz2 rfl (by decide) _ _ _ rfl (o6.alloc _) ⟨w6.heap.size, 0, none⟩ 1 1 [.int .i64 (-1), .int .i64 0, .int .i64 0, .string ⟨#[]⟩] rfl rfl (cells_new _ _ _) mk_one (by unfold maxLen; omega) (by omega) (Nat.le_trans z4 (by simp)) ?_; intro v5 w7 o7 hg7 hl7; obtain ⟨a5, c5, rfl⟩ := slice_of_owns o7; have st5 := st4.next h8 hB1 in2 o7 hg7 hl7; have z5 := st5.bel.size; obtain ⟨b0, b1, b2, b3, _, _, _, _, bl⟩ := st5.box))
    have F1 : FullR w7 l.length (.slice a1 l.length c1) := (((((fullR_of r1).later (below_new _ _)).append (Nat.le_succ _) o5 hg5 hl5).later (below_new _ _)).append (by omega) o6 hg6 hl6 |>.later (below_new _ _)).append (by omega) o7 hg7 hl7
    have F3 : FullR w7 (l.length + 1) (.slice a3 (l.length + 1) c3) := (((fullR_of st3.row).later (below_new _ _)).append (by omega) o6 hg6 hl6 |>.later (below_new _ _)).append (by omega) o7 hg7 hl7
    have F4 : FullR w7 (l.length + 2) (.slice a4 (l.length + 2) c4) := ((fullR_of st4.row).later (below_new _ _)).append (by omega) o7 hg7 hl7
    have F5 : FullR w7 (l.length + 3) (.slice a5 (l.length + 3) c5) := fullR_of st5.row
    have R7 := st5.ref
    have B7 := st5.bel
    have X7 := st5.box
    clear st1 st3 st4 st5 r1 o5 o6 o7 hg5 hg6 hg7 hl5 hl6 hl7 d0 d1 d2 d3 dl p0 p1 p2 p3 pl q0 q1 q2 q3 ql b0 b1 b2 b3 bl z1 z3 z4 z5 in2 H2 lt1
    refine (H1 _).mono ?_
    rintro e w8 ⟨v6, rfl, o8, hb8, _, _⟩
    obtain ⟨a6, c6, rfl⟩ := slice_of_owns o8
    have R8 := owns_later R7 hb8
    have B8 := below_on B7 hb8
    go_wp2_with fail
    refine (sameR_any _ _ l a6 a2 c6 c2 _ (by omega) rfl rfl (rowAt_of_owns o8) (rowAt_of_owns R8)).mono ?_
    rintro e w9 ⟨rfl, hb9⟩
    have B9 := below_on B8 hb9
    have X9 := (X7.later hb8).later hb9
    have G1 := (F1.later hb8).later hb9
    have G3 := (F3.later hb8).later hb9
    have G4 := (F4.later hb8).later hb9
    have G5 := (F5.later hb8).later hb9
    clear X7 F1 F3 F4 F5 B7 B8 R7 R8 o8 hb8 hb9 H1
    go_wp2_with fail
    go_loopw [16] (fun i wr => ∃ k : Nat, k ≤ l.length + 3 ∧ i = .int .i64 k ∧ Below w9.heap.size w9 wr) (fun i _ => l.length + 3 - (intOf i).toNat)
    case atStart => exact ⟨0, Nat.zero_le _, rfl, Below.refl _ _⟩
    case round =>
      obtain ⟨k, hk, rfl, hbel⟩ := hrel
      by_cases hlt : k < l.length + 3
      · obtain ⟨x0, x1, x2, x3, _, _, _, _, xl⟩ := X9.later hbel
        obtain ⟨g5, rfl, s0, s1, s2, s3⟩ := (G5.later hbel).cells k hlt
        have hk0 : (0 : Int) ≤ (k : Int) := by omega
        have i3 : (k : Int) < (l.length : Int) + 3 := by omega
        have HB := hide (below_drewN hbel)
        by_cases h2 : k < l.length + 2
        · obtain ⟨g4, rfl, t0, t1, t2, t3⟩ := (G4.later hbel).cells k h2
          by_cases h1 : k < l.length + 1
          · obtain ⟨g3, rfl, u0, u1, u2, u3⟩ := (G3.later hbel).cells k h1
            by_cases h0 : k < l.length
            · obtain ⟨g1, rfl, y0, y1, y2, y3⟩ := (G1.later hbel).cells k h0
              have j0 : decide ((k : Int) < (l.length : Int)) = true := decide_eq_true (by omega)
              have m0 : decide (k < l.length) = true := decide_eq_true (by omega)
              have j1 : decide ((k : Int) < (l.length : Int) + 1) = true := decide_eq_true (by omega)
              have m1 : decide (k < l.length + 1) = true := decide_eq_true (by omega)
              have j2 : decide ((k : Int) < (l.length : Int) + 1 + 1) = true := decide_eq_true (by omega)
              have m2 : decide (k < l.length + 1 + 1) = true := decide_eq_true (by omega)
              clear X9 G1 G3 G4 G5 B9
              go_wp2
              go_quiet (fail)
              go_wp2
              exact ⟨⟨k + 1, by omega, by go_num, HB.out _⟩, by simp [intOf]; omega⟩
            · have j0 : decide ((k : Int) < (l.length : Int)) = false := decide_eq_false (by omega)
              have m0 : decide (k < l.length) = false := decide_eq_false (by omega)
              have j1 : decide ((k : Int) < (l.length : Int) + 1) = true := decide_eq_true (by omega)
              have m1 : decide (k < l.length + 1) = true := decide_eq_true (by omega)
              have j2 : decide ((k : Int) < (l.length : Int) + 1 + 1) = true := decide_eq_true (by omega)
              have m2 : decide (k < l.length + 1 + 1) = true := decide_eq_true (by omega)
              clear X9 G1 G3 G4 G5 B9
              go_wp2
              go_quiet (fail)
              go_wp2
              exact ⟨⟨k + 1, by omega, by go_num, HB.out _⟩, by simp [intOf]; omega⟩
          · have j0 : decide ((k : Int) < (l.length : Int)) = false := decide_eq_false (by omega)
            have m0 : decide (k < l.length) = false := decide_eq_false (by omega)
            have j1 : decide ((k : Int) < (l.length : Int) + 1) = false := decide_eq_false (by omega)
            have m1 : decide (k < l.length + 1) = false := decide_eq_false (by omega)
            have j2 : decide ((k : Int) < (l.length : Int) + 1 + 1) = true := decide_eq_true (by omega)
            have m2 : decide (k < l.length + 1 + 1) = true := decide_eq_true (by omega)
            clear X9 G1 G3 G4 G5 B9
            go_wp2
            go_quiet (fail)
            go_wp2
            exact ⟨⟨k + 1, by omega, by go_num, HB.out _⟩, by simp [intOf]; omega⟩
        · have j0 : decide ((k : Int) < (l.length : Int)) = false := decide_eq_false (by omega)
          have m0 : decide (k < l.length) = false := decide_eq_false (by omega)
          have j1 : decide ((k : Int) < (l.length : Int) + 1) = false := decide_eq_false (by omega)
          have m1 : decide (k < l.length + 1) = false := decide_eq_false (by omega)
          have j2 : decide ((k : Int) < (l.length : Int) + 1 + 1) = false := decide_eq_false (by omega)
          have m2 : decide (k < l.length + 1 + 1) = false := decide_eq_false (by omega)
          clear X9 G1 G3 G4 G5 B9
          go_wp2
          go_quiet (fail)
          go_wp2
          exact ⟨⟨k + 1, by omega, by go_num, HB.out _⟩, by simp [intOf]; omega⟩
      · have B := below_on B9 hbel
        clear X9 G1 G3 G4 G5
        have ig : ¬ (k : Int) < (l.length : Int) + 3 := by omega
        go_wp2
        go_ret
        exact ⟨ret_bool (by simp), B⟩

end Go.Proofs.Yteoacdkgicfomaa
