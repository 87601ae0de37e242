/-
  message.writePrefixes, walked: prefixes in bytes, one behind the other.
-/
import Derived.Test.YteoacdkgicfomaaToldWalks
import Derived.Test.YteoacdkgicfomaaStepLaws
namespace Go.Proofs.Yteoacdkgicfomaa
open Go.RowKit
open Rl

theorem info_pfx : (Try.prog.info? 36).map (fun i => (i.zero, i.size, i.bytes)) = some (some (.agg #[.int .i64 0, .int .i64 0]), 2, 16) := by kernel_rfl

set_option maxRecDepth 20000 in
set_option maxHeartbeats 4000000 in
theorem writePrefixes_any (v : Value) (l : List (Nat × Nat)) (w : World) (hx : l.length ≤ 1048576) (hl : ∀ p ∈ l, p.1 ≤ 4294967295 ∧ p.2 ≤ 32) (hr : RowAt w v l.length 2 (pfCells (pfInts l))) :
    Calls Try.prog 63 #[v] w fun e w' => e = .returned (.string ⟨(pfWire l).toArray⟩) ∧ Below w.heap.size w w' := by
  obtain ⟨i0, hi, hz0, hz1, hz2⟩ := info_parts info_u8
  obtain ⟨_, hr⟩ := hr
  rcases hr with ⟨a, c, rfl, hn⟩ | ⟨b, o, cap, rfl, hn, hb, hc⟩
  · have hn0 : l = [] := List.eq_nil_of_length_eq_zero hn
    subst hn0
    go_enter Try.func63, Try.ntmps63
    go_wp2
    refine wp_loop_rounds 1 ?_
    rw [rounds_succ]
    have hconv := fun w : World => Lib.run_convert_nil_bytes (P := Try.prog) w 59 9 5 0 Try.underlying59 Try.underlying5 Try.underlying9
    go_wp2
    go_ret
    exact ⟨rfl, Below.refl _ _⟩
  · go_enter Try.func63, Try.ntmps63
    go_wp2
    go_loopw [3, 8] (fun x i wr => ∃ (k : Nat) (lv : Value), lv = x ∧ k ≤ l.length ∧ i = .int .i64 k ∧ wr.ownsRow w.heap.size 5 1 lv (pfWire (l.take k)).length (u8s (pfWire (l.take k))) ∧ Below w.heap.size w wr) (fun _ i _ => l.length - (intOf i).toNat)
    case atStart => exact ⟨0, _, rfl, Nat.zero_le _, rfl, World.ownsRow_nil _ _ _ _, Below.refl _ _⟩
    case round =>
      obtain ⟨k, lv, rfl, hk, rfl, hown, hbel⟩ := hrel
      have hle := pfWire_le (l.take k) fun p hp => (hl p (List.mem_of_mem_take hp)).2
      rw [List.length_take] at hle
      by_cases hlt : k < l.length
      · obtain ⟨g1, g2⟩ := pfInts_get l k hlt
        have c1 := (hbel.cell (p := ⟨b, o + k * 2, none⟩) hb).trans (hc _ _ g1)
        have c2 := (hbel.cell (p := ⟨b, o + k * 2 + 1, none⟩) hb).trans (hc _ _ g2)
        obtain ⟨ha, hn'⟩ := hl l[k] (List.getElem_mem _)
        have HW := hide (pfWire_take l k hlt)
        clear hc g1 g2
        obtain ⟨p, ep⟩ : ∃ p, p = l[k] := ⟨_, rfl⟩
        rw [← ep] at c1 c2 ha hn' HW
        clear ep
        obtain ⟨a, n⟩ := p
        simp only at c1 c2 ha hn'
        generalize pfWire (l.take k) = xs at *
        have hne := own_ne hown wr.heap.size (Nat.le_refl _)
        go_wp2_with (at_builtin; refine wpList_append_own _ rfl _ _ 59 rfl w.heap.size 5 i0 (.int .u8 0) 1 1 Try.underlying59 hi hz0 hz1 hz2 rfl (by decide) _ _ _ rfl ((hown.alloc _).alloc _) ⟨wr.heap.size + 1, 0, none⟩ 1 1 [.int .u8 (n : Int)] rfl rfl (cells_new2' _ _ _ _) (one1 _ _) (by unfold maxLen; omega) (by omega) (by have := hbel.size; simp; omega) ?_; intro v3 w3 hown3 hgrow3 _; obtain ⟨k0, k1⟩ := two_cells hgrow3 hne; have ksz := grown_size hgrow3; have hbel3 := below_app2' hbel hbel.size hown hgrow3)
        have hwr := fun w => write_any a 4 w (by omega) (by omega)
        obtain ⟨S, eS⟩ : ∃ S : ByteArray, S = ⟨(be 4 a).toArray⟩ := ⟨_, rfl⟩
        have hS : S.size = 4 := by rw [eS]; show (be 4 a).toArray.size = 4; simp [be_length]
        rw [← eS] at hwr
        have HS := hide (wire_step xs a n S eS hn')
        have hm4 := many_le n hn'
        have hm8 : (many n : Int) ≤ (S.size : Int) := by omega
        have hx4 : (S.extract 0 (many n)).size ≤ 4 := by rw [ByteArray.size_extract]; omega
        have k4 : wr.heap.size < w3.heap.size := by omega
        clear eS hS hown hbel hgrow3 ksz c1 c2 hne
        go_region_law (first | (go_simp; go_at_call 62; refine (hwr _).mono ?_; rintro e w2 ⟨rfl, hb2⟩; have j1 := (hb2.cell (p := ⟨wr.heap.size, 1, none⟩) k4).trans k1; have hown2 := owns_later hown3.drew hb2; have hbel2 := later_below hbel3.drew hb2 hbel3.size) | (go_simp; go_at_call 72; refine (bytesFor_any n _ (by omega)).mono ?_; rintro e w' ⟨rfl, hw⟩; rw [hw]; clear hw w') | (refine step_append_string rfl (.tmp 18) (.tmp 25) 59 9 rfl w.heap.size 5 i0 Try.underlying59 Try.underlying9 hi hz0 hz1 hz2 v3 (xs.length + 1) (u8s xs ++ [Value.int .u8 (n : Int)]) rfl hown2 (S.extract 0 (many n)) rfl (by unfold maxLen; omega) (by omega) (by exact hbel2.size) ?_; intro v5 w5 hown5 hgrow5))
        all_goals
          have hbel5 := hbel2.grown hgrow5 hbel2.size (fun k hk => (hown2.lt k hk).1)
          rw [strCells_u8s, HS.out.1, HS.out.2] at hown5
          clear hgrow5 hown2 hbel2 hb2 hown3 hbel3 hwr k0 k1 k4
          go_wp2
          refine ⟨⟨k + 1, v5, rfl, by omega, by go_num, ?_, hbel5⟩, by simp [intOf]; omega⟩
          rw [HW.out]
          exact hown5
      · have HT : Hid (pfWire (l.take k) = pfWire l) := by rw [List.take_of_length_le (by omega)]; exact rfl
        rw [HT.out] at hown
        have hconv := run_convert_own (P := Try.prog) 59 9 Try.underlying59 Try.underlying5 Try.underlying9 hown
        clear hc hown
        go_wp2
        go_ret
        exact ⟨rfl, hbel⟩

end Go.Proofs.Yteoacdkgicfomaa
