/-
  message.writeCanonical, walked: attributes as canonical text.
-/
import Derived.Test.YteoacdkgicfomaaWriteAttr
import Derived.Test.YteoacdkgicfomaaAkSort
namespace Go.Proofs.Yteoacdkgicfomaa
open Go.RowKit
open Rl

def canPart (a : At) : ByteArray := ⟨(atCan a).toArray⟩

theorem flat_canParts (l : List At) : flat (l.map canPart) = l.flatMap atCan := by
  unfold flat
  rw [List.map_map]
  induction l with
  | nil => rfl
  | cons a l ih => simp only [List.map_cons, List.flatten_cons, List.flatMap_cons]; rw [ih]; rfl

set_option maxRecDepth 20000 in
set_option maxHeartbeats 4000000 in
theorem writeCanonical_any (v : Value) (l : List At) (w : World) (hx : l.length ≤ 1048576) (hl : ∀ a ∈ l, a.flags < 256 ∧ a.kind < 256 ∧ a.val.size ≤ 1048576) (hsum : (l.flatMap atCan).length ≤ 140737488355328) (hr : RowAt w v l.length 3 (atCells l)) :
    Calls Try.prog 82 #[v] w fun e w' => e = .returned (.string ⟨(l.flatMap atCan).toArray⟩) ∧ Below w.heap.size w w' := by
  obtain ⟨i0, hi, hz0, hz1, hz2⟩ := info_parts info_string
  obtain ⟨_, hr⟩ := hr
  rcases hr with ⟨a, c, rfl, hn⟩ | ⟨b, o, cap, rfl, hn, hb, hc⟩
  · have hn0 : l = [] := List.eq_nil_of_length_eq_zero hn
    subst hn0
    have hj := fun w => join_any (.slice none 0 0) [] w (RowAt.nil _ _ _ _) (cap_of (Nat.le_refl _)) (by simp) (by simp [flat])
    go_enter Try.func82, Try.ntmps82
    go_wp2
    refine wp_loop_rounds 1 ?_
    rw [rounds_succ]
    go_wp2_with (go_at_call 85; refine (hj _).mono ?_; rintro e w2 ⟨rfl, hb2⟩)
    go_ret
    exact ⟨rfl, hb2⟩
  · go_enter Try.func82, Try.ntmps82
    go_wp2
    go_loopw [3, 8] (fun x i wr => ∃ (k : Nat) (lv : Value), lv = x ∧ k ≤ l.length ∧ i = .int .i64 k ∧ wr.ownsRow w.heap.size 9 1 lv k (strs ((l.take k).map canPart)) ∧ Below w.heap.size w wr) (fun _ i _ => l.length - (intOf i).toNat)
    case atStart => exact ⟨0, _, rfl, Nat.zero_le _, rfl, World.ownsRow_nil _ _ _ _, Below.refl _ _⟩
    case round =>
      obtain ⟨k, lv, rfl, hk, rfl, hown, hbel⟩ := hrel
      by_cases hlt : k < l.length
      · obtain ⟨g1, g2, g3⟩ := atCells_get l k hlt
        have c1 := (hbel.cell (p := ⟨b, o + k * 3, none⟩) hb).trans (hc _ _ g1)
        have c2 := (hbel.cell (p := ⟨b, o + k * 3 + 1, none⟩) hb).trans (hc _ _ g2)
        have c3 := (hbel.cell (p := ⟨b, o + k * 3 + 2, none⟩) hb).trans (hc _ _ g3)
        obtain ⟨hf, hk', hv'⟩ := hl l[k] (List.getElem_mem _)
        have HW : Hid ((l.take (k + 1)).map canPart = (l.take k).map canPart ++ [canPart l[k]]) := by
          rw [List.take_succ_eq_append_getElem hlt, List.map_append]; exact rfl
        clear hc g1 g2 g3
        obtain ⟨p, ep⟩ : ∃ p, p = l[k] := ⟨_, rfl⟩
        rw [← ep] at c1 c2 c3 hf hk' hv' HW
        clear ep
        generalize (l.take k).map canPart = xs at *
        obtain ⟨f, kd, val⟩ := p
        simp only at c1 c2 c3 hf hk' hv'
        have HP : Hid (canPart ⟨f, kd, val⟩ = ⟨(atBytes f kd 2 val).toArray⟩) := rfl
        have hby := fun w => atBytes_any f kd 2 val w (by omega) hk' (by omega) hv'
        go_wp2_with (first | (go_at_call 84; refine (hby _).mono ?_; rintro e w2 ⟨rfl, hb2⟩; have hbs : w.heap.size ≤ w2.heap.size := Nat.le_trans (hbel.alloc hbel.size _).size hb2.size; have hown2 := owns_later (hown.alloc _) hb2; have hb3 : Below w.heap.size w w2 := later_below (hbel.alloc hbel.size _) hb2 (hbel.alloc hbel.size _).size) | (at_builtin; refine wpList_append_own _ rfl _ _ 45 rfl w.heap.size 9 i0 (.string ⟨#[]⟩) 1 16 Try.underlying45 hi hz0 hz1 hz2 rfl (by decide) _ _ _ rfl (hown2.alloc _) ⟨w2.heap.size, 0, none⟩ 1 1 [Value.string ⟨(atBytes f kd 2 val).toArray⟩] rfl rfl (cells_new _ _ _) (oneS _) (by unfold maxLen; omega) (by omega) (by simp; omega) ?_; intro v5 w5 hown5 hgrow5 _))
        refine ⟨⟨k + 1, v5, rfl, by omega, by go_num, ?_, below_app hb3 hb3.size hown2 hgrow5⟩, by simp [intOf]; omega⟩
        rw [HW.out, HP.out]
        unfold strs
        rw [List.map_append]
        exact hown5
      · have HT : Hid (l.take k = l) := List.take_of_length_le (by omega)
        rw [HT.out] at hown
        have hkl : k = l.length := by omega
        subst hkl
        have hj := join_any lv (l.map canPart) wr (by rw [List.length_map]; exact rowAt_of_owns hown) (own_cap hown) (by rw [List.length_map]; omega) (by rw [flat_canParts]; exact hsum)
        rw [flat_canParts] at hj
        clear hc hown
        go_wp2_with (go_at_call 85; refine hj.mono ?_; rintro e w2 ⟨rfl, hb2⟩)
        go_ret
        exact ⟨rfl, later_below hbel hb2 hbel.size⟩

end Go.Proofs.Yteoacdkgicfomaa
