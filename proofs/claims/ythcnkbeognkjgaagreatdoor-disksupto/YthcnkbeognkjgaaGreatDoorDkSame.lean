/-
  The law's small calls: pick, mark; two lists of the same texts held against each other; two empty lists.
-/
import Derived.Test.YthcnkbeognkjgaaGreatDoorDkTouch
import Derived.Test.YthcnkbeognkjgaaGreatDoorDkPlain
import Derived.Test.YthcnkbeognkjgaaGreatDoorRowAt
import Derived.Deep.QuietTactic
import Derived.BigQuiet
import Derived.Laws.IdiomStrings
import Derived.Below
namespace Go.Proofs.YthcnkbeognkjgaaGreatDoor
open Go.RowKit
open Rl

set_option maxRecDepth 20000 in
set_option maxHeartbeats 2000000 in
theorem sameT_any (va vb : Value) (l : List ByteArray) (w : World) (hl : l.length ≤ 1073741824) (hra : RowAt w va l.length 1 (nms l)) (hrb : RowAt w vb l.length 1 (nms l)) :
    Calls Tryz.prog 19 #[va, vb] w fun e w' => e = .returned (.bool true) ∧ Below w.heap.size w w' := by
  rcases hra.2 with ⟨x, y, hv, hn⟩ | ⟨b, o, cap, hv, hn, hbk, hc⟩
  · have e0 : l = [] := List.eq_nil_of_length_eq_zero hn
    subst e0
    rcases hrb.2 with ⟨x2, y2, hv2, hn2⟩ | ⟨b2, o2, cap2, hv2, hn2, hbk2, hc2⟩
    · subst hv hv2
      go_enter Tryz.func19, Tryz.ntmps19
      go_wp2
      refine wp_loop_rounds 1 ?_
      rw [rounds_succ]
      go_wp2
      go_ret
      exact ⟨rfl, Below.refl _ _⟩
    · subst hv hv2
      have hz : ((([] : List ByteArray).length : Nat) : Int) = 0 := rfl
      go_enter Tryz.func19, Tryz.ntmps19
      go_wp2
      refine wp_loop_rounds 1 ?_
      rw [rounds_succ]
      go_wp2
      go_ret
      exact ⟨rfl, Below.refl _ _⟩
  · rcases hrb.2 with ⟨x, y, hv2, hn2⟩ | ⟨b2, o2, cap2, hv2, hn2, hbk2, hc2⟩
    · subst hv hv2
      have e0 : l = [] := List.eq_nil_of_length_eq_zero hn2
      subst e0
      go_enter Tryz.func19, Tryz.ntmps19
      go_wp2
      refine wp_loop_rounds 1 ?_
      rw [rounds_succ]
      go_wp2
      go_ret
      exact ⟨rfl, Below.refl _ _⟩
    · subst hv hv2
      have hne : ((l.length : Int) != (l.length : Int)) = false := by simp
      go_enter Tryz.func19, Tryz.ntmps19
      go_wp2
      go_loopw [5] (fun i wr => ∃ k : Nat, k ≤ l.length ∧ i = .int .i64 k ∧ Below w.heap.size w wr) (fun i _ => l.length - (intOf i).toNat)
      case atStart => exact ⟨0, Nat.zero_le _, rfl, Below.refl _ _⟩
      case round =>
        obtain ⟨k, hk, rfl, hbel⟩ := hrel
        by_cases hlt : k < l.length
        · have g1 := nms_get l k hlt
          have q1 := (hbel.cell (p := ⟨b, o + k * 1, none⟩) hbk).trans (hc _ _ g1)
          have q3 := (hbel.cell (p := ⟨b2, o2 + k * 1, none⟩) hbk2).trans (hc2 _ _ g1)
          rw [Nat.mul_one] at q1 q3
          clear hc hc2 g1
          generalize l[k] = p at *
          have hlt' : (k : Int) < (l.length : Int) := by omega
          have hk0 : (0 : Int) ≤ (k : Int) := by omega
          go_wp2
          go_quiet (fail)
          go_wp2
          exact ⟨⟨k + 1, by omega, by go_num, below_drewN hbel _⟩, by simp [intOf]; omega⟩
        · clear hc hc2
          go_wp2
          go_ret
          exact ⟨rfl, hbel⟩

theorem sameE_nil (w : World) : Calls Tryz.prog 15 #[.slice none 0 0, .slice none 0 0] w fun e w' => e = .returned (.bool true) ∧ Below w.heap.size w w' := by
  go_enter Tryz.func15, Tryz.ntmps15
  go_wp2
  refine wp_loop_rounds 1 ?_
  rw [rounds_succ]
  go_wp2
  go_ret
  exact ⟨rfl, Below.refl _ _⟩

theorem sameS_nil (w : World) : Calls Tryz.prog 25 #[.slice none 0 0, .slice none 0 0] w fun e w' => e = .returned (.bool true) ∧ Below w.heap.size w w' := by
  go_enter Tryz.func25, Tryz.ntmps25
  go_wp2
  refine wp_loop_rounds 1 ?_
  rw [rounds_succ]
  go_wp2
  go_ret
  exact ⟨rfl, Below.refl _ _⟩

theorem pick_any (c : Int) (n : Nat) (hn : 0 < n) (hn2 : n ≤ 4194304) (hc0 : -9223372036854775808 ≤ c) (hc1 : c ≤ 9223372036854775807) (w : World) :
    Calls Tryz.prog 8 #[.int .i64 c, .int .i64 (n : Int)] w fun e w' => ∃ k : Nat, k < n ∧ e = .returned (.int .i64 (k : Int)) ∧ w' = w := by
  by_cases hneg : c < 0
  · have hd : decide (c < 0) = true := decide_eq_true hneg
    have hw1 : IntKind.i64.wrap (c + 1) = c + 1 := by rw [IntKind.wrap_i64]; omega
    have hw2 : IntKind.i64.wrap (-(c + 1)) = -(c + 1) := by rw [IntKind.wrap_i64]; omega
    have hm0 : 0 ≤ (-(c + 1)) % (n : Int) := Int.emod_nonneg _ (by omega)
    have hm1 : (-(c + 1)) % (n : Int) < (n : Int) := Int.emod_lt_of_pos _ (by omega)
    have hz : -(c + 1).tmod (n : Int) = (((-(c + 1)) % (n : Int)).toNat : Int) := by
      rw [← Int.neg_tmod, Int.tmod_eq_emod_of_nonneg (by omega)]; omega
    have HZ := hide hz
    have HM := hide hm1
    clear hz hm0 hm1
    go_enter Tryz.func8, Tryz.ntmps8
    go_wp2
    go_ret
    have := HM.out
    exact ⟨_, by omega, congrArg (fun z => Ending.returned (.int .i64 z)) HZ.out, rfl⟩
  · have hd : decide (c < 0) = false := decide_eq_false hneg
    have hm0 : 0 ≤ c % (n : Int) := Int.emod_nonneg _ (by omega)
    have HM := hide (Int.emod_lt_of_pos c (b := (n : Int)) (by omega))
    have HZ : Hid (c % (n : Int) = ((c % (n : Int)).toNat : Int)) := by unfold Hid; omega
    clear hm0
    go_enter Tryz.func8, Tryz.ntmps8
    go_wp2
    go_ret
    have := HM.out
    exact ⟨_, by omega, congrArg (fun z => Ending.returned (.int .i64 z)) HZ.out, rfl⟩

/-- the n-th mark. -/
def markS (n : Nat) : ByteArray := ⟨#[109, 97, 114, 107]⟩ ++ ⟨[UInt8.ofNat n, UInt8.ofNat (n / 256)].toArray⟩

set_option maxRecDepth 20000 in
theorem mark_any (n : Nat) (w : World) :
    Calls Tryz.prog 26 #[.int .i64 (n : Int)] w fun e w' => e = .returned (.string (markS n)) ∧ Below w.heap.size w w' := by
  have hconv : (convert 144 9 (.slice (some ⟨w.heap.size, 0, none⟩) 2 2)).run Tryz.prog (w.alloc (.cells #[.int .u8 ((n : Int) % 256), .int .u8 ((n : Int) / 256 % 256)] 5)) = .ok (.string ⟨[UInt8.ofNat n, UInt8.ofNat (n / 256)].toArray⟩) (w.alloc (.cells #[.int .u8 ((n : Int) % 256), .int .u8 ((n : Int) / 256 % 256)] 5)) := by
    refine run_convert_bytes_back (P := Tryz.prog) _ 144 9 5 ⟨w.heap.size, 0, none⟩ 2 [UInt8.ofNat n, UInt8.ofNat (n / 256)] Tryz.underlying144 Tryz.underlying5 Tryz.underlying9 ?_
    intro j hj
    have e1 : ((UInt8.ofNat n).toNat : Int) = (n : Int) % 256 := by rw [UInt8.toNat_ofNat']; omega
    have e2 : ((UInt8.ofNat (n / 256)).toNat : Int) = (n : Int) / 256 % 256 := by rw [UInt8.toNat_ofNat']; omega
    match j, hj with
    | 0, _ => rw [List.getElem_cons_zero, e1, add_head]; simp
    | 1, _ => rw [List.getElem_cons_succ, List.getElem_cons_zero, e2, add_head]; simp
  have hm : markS n = ⟨#[109, 97, 114, 107]⟩ ++ ⟨[UInt8.ofNat n, UInt8.ofNat (n / 256)].toArray⟩ := rfl
  rw [hm]
  have hlen : ¬ 9223372036854775807 < 4 + [UInt8.ofNat n, UInt8.ofNat (n / 256)].length := by simp
  generalize [UInt8.ofNat n, UInt8.ofNat (n / 256)] = l at *
  clear hm
  go_enter Tryz.func26, Tryz.ntmps26
  go_wp2
  go_ret
  exact ⟨rfl, (Below.refl _ _).alloc (Nat.le_refl _) _⟩

end Go.Proofs.YthcnkbeognkjgaaGreatDoor
