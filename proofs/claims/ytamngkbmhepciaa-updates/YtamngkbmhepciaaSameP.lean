/-
  routeloglaw.sameP, walked: of two lists of the same prefixes it answers true.
-/
import Derived.Test.YtamngkbmhepciaaPfxWalks
namespace Go.Proofs.Ytamngkbmhepciaa
open Go.RowKit
open Rl

set_option maxRecDepth 20000 in
set_option maxHeartbeats 2000000 in
theorem sameP_any (va vb : Value) (l : List (Int × Int)) (a0 a1 : Option Addr) (c0 c1 : Nat) (w : World) (hl : l.length ≤ 1073741824) (ha : va = .slice a0 l.length c0) (hb : vb = .slice a1 l.length c1) (hra : RowAt w va l.length 2 (pfCells l)) (hrb : RowAt w vb l.length 2 (pfCells l)) :
    Calls Try.prog 13 #[va, vb] w fun e w' => e = .returned (.bool true) ∧ Below w.heap.size w w' := by
  rcases hra.2 with ⟨x, y, hv, hn⟩ | ⟨b, o, cap, hv, hn, hbk, hc⟩
  · have e0 : l = [] := List.eq_nil_of_length_eq_zero hn
    subst e0
    subst ha hb
    go_enter Try.func13, Try.ntmps13
    go_wp2
    refine wp_loop_rounds 1 ?_
    rw [rounds_succ]
    go_wp2
    go_ret
    exact ⟨rfl, Below.refl _ _⟩
  · rcases hrb.2 with ⟨x, y, hv2, hn2⟩ | ⟨b2, o2, cap2, hv2, hn2, hbk2, hc2⟩
    · omega
    · clear ha hb
      subst hv hv2
      have hne : ((l.length : Int) != (l.length : Int)) = false := by simp
      go_enter Try.func13, Try.ntmps13
      go_wp2
      go_loopw [5] (fun i wr => ∃ k : Nat, k ≤ l.length ∧ i = .int .i64 k ∧ Below w.heap.size w wr) (fun i _ => l.length - (intOf i).toNat)
      case atStart => exact ⟨0, Nat.zero_le _, rfl, Below.refl _ _⟩
      case round =>
        obtain ⟨k, hk, rfl, hbel⟩ := hrel
        by_cases hlt : k < l.length
        · obtain ⟨g1, g2⟩ := pfCells_get l k hlt
          have q1 := (hbel.cell (p := ⟨b, o + k * 2, none⟩) hbk).trans (hc _ _ g1)
          have q2 := (hbel.cell (p := ⟨b, o + k * 2 + 1, none⟩) hbk).trans (hc _ _ g2)
          have q3 := (hbel.cell (p := ⟨b2, o2 + k * 2, none⟩) hbk2).trans (hc2 _ _ g1)
          have q4 := (hbel.cell (p := ⟨b2, o2 + k * 2 + 1, none⟩) hbk2).trans (hc2 _ _ g2)
          clear hc hc2 g1 g2
          generalize l[k].1 = p at *
          generalize l[k].2 = q at *
          have hlt' : (k : Int) < (l.length : Int) := by omega
          have hk0 : (0 : Int) ≤ (k : Int) := by omega
          go_wp2
          go_quiet (fail)
          go_wp2
          exact ⟨⟨k + 1, by omega, by go_num, below_drewN hbel _⟩, by simp [intOf]; omega⟩
        · clear hc hc2
          go_wp2
          go_ret
          exact ⟨rfl, hbel⟩

end Go.Proofs.Ytamngkbmhepciaa
