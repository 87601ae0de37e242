/-
  message.writeAttributes, walked: attributes as the bytes of an update.
-/
import Derived.Test.YteoacdkgicfomaaJoinWalks
import Derived.Test.YteoacdkgicfomaaNeeded
import Derived.Deep.RegionHeldLaw
namespace Go.Proofs.Yteoacdkgicfomaa
open Go.RowKit
open Rl

def atPart (a : At) : ByteArray := ⟨(atWire a).toArray⟩

theorem flat_parts (l : List At) : flat (l.map atPart) = l.flatMap atWire := by
  unfold flat
  rw [List.map_map]
  induction l with
  | nil => rfl
  | cons a l ih => simp only [List.map_cons, List.flatten_cons, List.flatMap_cons]; rw [ih]; rfl

theorem or16 (f : Nat) (h : f < 256) (h0 : f / 16 % 2 = 0) : bits .or .i64 (f : Int) 16 = ((f + 16 : Nat) : Int) := by
  have e : (2 : Nat) ^ 63 = 9223372036854775808 := by decide
  have hb := (bits_nat .i64 63 (by decide) wrap_i64_in f 16 (by omega) (by omega)).2
  rw [show (16 : Int) = ((16 : Nat) : Int) from rfl, hb]
  congr 1
  have h2 : ∀ x : Fin 256, x.val / 16 % 2 = 0 → x.val ||| 16 = x.val + 16 := by decide +kernel
  exact h2 ⟨f, h⟩ h0

theorem keep3g {w wx w2 : World} {n : Nat} {a b c : Value} {row : Option Nat}
    (hS : wx.cell? ⟨n, 0, none⟩ = some a ∧ wx.cell? ⟨n, 1, none⟩ = some b ∧ wx.cell? ⟨n, 2, none⟩ = some c ∧ n < wx.heap.size ∧ Below w.heap.size w wx) (hg : wx.grownBy w2 row) (hne : some n ≠ row) (hrow : ∀ k, row = some k → w.heap.size ≤ k) :
    w2.cell? ⟨n, 0, none⟩ = some a ∧ w2.cell? ⟨n, 1, none⟩ = some b ∧ w2.cell? ⟨n, 2, none⟩ = some c ∧ n < w2.heap.size ∧ Below w.heap.size w w2 := by
  obtain ⟨h0, h1, h2, h3, h4⟩ := hS
  exact ⟨hg.cell h0 hne, hg.cell h1 hne, hg.cell h2 hne, Nat.lt_of_lt_of_le h3 hg.size, h4.grown hg h4.size hrow⟩

theorem own_cap {w : World} {base : Nat} {e : TypeId} {size : Nat} {v : Value} {m : Nat} {xs : List Value} (h : w.ownsRow base e size v m xs) : ∀ a n c, v = .slice a n c → n ≤ c := by
  intro a n c ev
  rcases h.2 with ⟨e1, _⟩ | ⟨g, cap, cur, e1, _, _, hnc, _⟩
  · rw [e1] at ev; cases ev; exact Nat.le_refl _
  · rw [e1] at ev; cases ev; exact hnc

theorem info_string : (Try.prog.info? 9).map (fun i => (i.zero, i.size, i.bytes)) = some (some (.string ⟨#[]⟩), 1, 16) := by kernel_rfl

theorem oneS (a : ByteArray) : ∀ u ∈ [Value.string a], u.oneCell' = true := by
  intro u hu; simp at hu; rcases hu with rfl; rfl

set_option maxRecDepth 20000 in
set_option maxHeartbeats 8000000 in
theorem writeAttributes_any (v : Value) (l : List At) (w : World) (hx : l.length ≤ 1048576) (hl : ∀ a ∈ l, a.flags < 240 ∧ a.flags / 16 % 2 = 0 ∧ a.kind < 256 ∧ a.val.size ≤ 1048576) (hsum : (l.flatMap atWire).length ≤ 140737488355328) (hr : RowAt w v l.length 3 (atCells l)) :
    Calls Try.prog 60 #[v] w fun e w' => e = .returned (.string ⟨(l.flatMap atWire).toArray⟩) ∧ Below w.heap.size w w' := by
  obtain ⟨i0, hi, hz0, hz1, hz2⟩ := info_parts info_string
  obtain ⟨_, hr⟩ := hr
  rcases hr with ⟨a, c, rfl, hn⟩ | ⟨b, o, cap, rfl, hn, hb, hc⟩
  · have hn0 : l = [] := List.eq_nil_of_length_eq_zero hn
    subst hn0
    have hj := fun w => join_any (.slice none 0 0) [] w (RowAt.nil _ _ _ _) (cap_of (Nat.le_refl _)) (by simp) (by simp [flat])
    go_enter Try.func60, Try.ntmps60
    go_wp2
    refine wp_loop_rounds 1 ?_
    rw [rounds_succ]
    go_wp2_with (go_at_call 85; refine (hj _).mono ?_; rintro e w2 ⟨rfl, hb2⟩)
    go_ret
    exact ⟨rfl, hb2⟩
  · go_enter Try.func60, Try.ntmps60
    go_wp2
    go_loopw [3, 8] (fun x i wr => ∃ (k : Nat) (lv : Value), lv = x ∧ k ≤ l.length ∧ i = .int .i64 k ∧ wr.ownsRow w.heap.size 9 1 lv k (strs ((l.take k).map atPart)) ∧ Below w.heap.size w wr) (fun _ i _ => l.length - (intOf i).toNat)
    case atStart => exact ⟨0, _, rfl, Nat.zero_le _, rfl, World.ownsRow_nil _ _ _ _, Below.refl _ _⟩
    case round =>
      obtain ⟨k, lv, rfl, hk, rfl, hown, hbel⟩ := hrel
      by_cases hlt : k < l.length
      · obtain ⟨g1, g2, g3⟩ := atCells_get l k hlt
        have c1 := (hbel.cell (p := ⟨b, o + k * 3, none⟩) hb).trans (hc _ _ g1)
        have c2 := (hbel.cell (p := ⟨b, o + k * 3 + 1, none⟩) hb).trans (hc _ _ g2)
        have c3 := (hbel.cell (p := ⟨b, o + k * 3 + 2, none⟩) hb).trans (hc _ _ g3)
        obtain ⟨hf, hf16, hk', hv'⟩ := hl l[k] (List.getElem_mem _)
        have HW : Hid ((l.take (k + 1)).map atPart = (l.take k).map atPart ++ [atPart l[k]]) := by
          rw [List.take_succ_eq_append_getElem hlt, List.map_append]; exact rfl
        clear hc g1 g2 g3
        obtain ⟨p, ep⟩ : ∃ p, p = l[k] := ⟨_, rfl⟩
        rw [← ep] at c1 c2 c3 hf hf16 hk' hv' HW
        clear ep
        generalize (l.take k).map atPart = xs at *
        obtain ⟨f, kd, val⟩ := p
        simp only at c1 c2 c3 hf hf16 hk' hv'
        by_cases hbig : val.size ≤ 255
        · have HP : Hid (atPart ⟨f, kd, val⟩ = ⟨(atBytes f kd 1 val).toArray⟩) := by unfold atPart atWire; rw [if_pos hbig]; exact rfl
          have hls : lenSize f = 1 := by unfold lenSize; rw [if_neg (by omega)]
          have hcall := fun w => lengthSize_any f w (by omega)
          rw [hls] at hcall
          have hby := fun w => atBytes_any f kd 1 val w (by omega) hk' (by omega) hv'
          clear hls
          have hne := own_ne hown wr.heap.size (Nat.le_refl _)
          have hrow := fun k hk => (hown.lt k hk).1
          go_wp2
          go_region_held_law (fun w' => w'.cell? ⟨wr.heap.size, 0, none⟩ = some (.int .i64 (f : Int)) ∧ w'.cell? ⟨wr.heap.size, 1, none⟩ = some (.int .i64 (kd : Int)) ∧ w'.cell? ⟨wr.heap.size, 2, none⟩ = some (.string val) ∧ wr.heap.size < w'.heap.size ∧ Below w.heap.size w w') (first | (refine ⟨by simp, by simp, by simp, by simp, (hbel.alloc hbel.size _).drew⟩) | (exact keep3 (by assumption) (by assumption)) | (exact keep3 (by assumption) ((Below.refl _ _).alloc (Nat.le_refl _) _)) | (exact keep3g (by assumption) (by assumption) hne hrow)) (first | (refine step_append_own rfl (.tmp 20) (.tmp 26) 45 rfl w.heap.size 9 i0 (.string ⟨#[]⟩) 1 16 Try.underlying45 hi hz0 hz1 hz2 rfl (by decide) lv k (strs xs) rfl (hown2.alloc _) ⟨w2.heap.size, 0, none⟩ 1 1 [Value.string ⟨(atBytes f kd 1 val).toArray⟩] rfl rfl (cells_new _ _ _) (oneS _) (by unfold maxLen; omega) (by omega) (by simp; omega) ?_; intro v5 w5 hown5 hgrow5) | (go_at_call 75; refine (hcall _).mono ?_; rintro e w' ⟨rfl, hw⟩; rw [hw]; clear hw w') | (go_at_call 84; refine (hby _).mono ?_; rintro e w2 ⟨rfl, hb2⟩; have hbs : w.heap.size ≤ w2.heap.size := Nat.le_trans (hbel.alloc hbel.size _).drew.size hb2.size; have hown2 := owns_later (hown.alloc _).drew hb2))
          have hS := ‹w5.cell? _ = some _ ∧ w5.cell? _ = some _ ∧ w5.cell? _ = some _ ∧ wr.heap.size < w5.heap.size ∧ Below w.heap.size w w5›
          go_wp2
          refine ⟨⟨k + 1, v5, rfl, by omega, by go_num, ?_, hS.2.2.2.2⟩, by simp [intOf]; omega⟩
          rw [HW.out, HP.out]
          unfold strs
          rw [List.map_append]
          exact hown5
        · have HP : Hid (atPart ⟨f, kd, val⟩ = ⟨(atBytes (f + 16) kd 2 val).toArray⟩) := by unfold atPart atWire; rw [if_neg hbig]; exact rfl
          have hls : lenSize (f + 16) = 2 := by unfold lenSize; rw [if_pos (by omega)]
          have hor := or16 f (by omega) hf16
          have hcall := fun w => lengthSize_any (f + 16) w (by omega)
          rw [hls] at hcall
          have hby := fun w => atBytes_any (f + 16) kd 2 val w (by omega) hk' (by omega) hv'
          generalize f + 16 = F at *
          clear hls
          have hne := own_ne hown wr.heap.size (Nat.le_refl _)
          have hrow := fun k hk => (hown.lt k hk).1
          go_wp2
          go_region_held_law (fun w' => w'.cell? ⟨wr.heap.size, 0, none⟩ = some (.int .i64 (F : Int)) ∧ w'.cell? ⟨wr.heap.size, 1, none⟩ = some (.int .i64 (kd : Int)) ∧ w'.cell? ⟨wr.heap.size, 2, none⟩ = some (.string val) ∧ wr.heap.size < w'.heap.size ∧ Below w.heap.size w w') (first | (refine ⟨by simp, by simp, by simp, by simp, (hbel.alloc hbel.size _).drew⟩) | (exact keep3 (by assumption) (by assumption)) | (exact keep3 (by assumption) ((Below.refl _ _).alloc (Nat.le_refl _) _)) | (exact keep3g (by assumption) (by assumption) hne hrow)) (first | (refine step_append_own rfl (.tmp 20) (.tmp 26) 45 rfl w.heap.size 9 i0 (.string ⟨#[]⟩) 1 16 Try.underlying45 hi hz0 hz1 hz2 rfl (by decide) lv k (strs xs) rfl (hown2.alloc _) ⟨w2.heap.size, 0, none⟩ 1 1 [Value.string ⟨(atBytes F kd 2 val).toArray⟩] rfl rfl (cells_new _ _ _) (oneS _) (by unfold maxLen; omega) (by omega) (by simp; omega) ?_; intro v5 w5 hown5 hgrow5) | (go_at_call 75; refine (hcall _).mono ?_; rintro e w' ⟨rfl, hw⟩; rw [hw]; clear hw w') | (go_at_call 84; refine (hby _).mono ?_; rintro e w2 ⟨rfl, hb2⟩; have hbs : w.heap.size ≤ w2.heap.size := Nat.le_trans (hbel.alloc hbel.size _).drew.size hb2.size; have hown2 := owns_later (hown.alloc _).drew hb2))
          have hS := ‹w5.cell? _ = some _ ∧ w5.cell? _ = some _ ∧ w5.cell? _ = some _ ∧ wr.heap.size < w5.heap.size ∧ Below w.heap.size w w5›
          go_wp2
          refine ⟨⟨k + 1, v5, rfl, by omega, by go_num, ?_, hS.2.2.2.2⟩, by simp [intOf]; omega⟩
          rw [HW.out, HP.out]
          unfold strs
          rw [List.map_append]
          exact hown5
      · have HT : Hid (l.take k = l) := List.take_of_length_le (by omega)
        rw [HT.out] at hown
        have hkl : k = l.length := by omega
        subst hkl
        have hj := join_any lv (l.map atPart) wr (by rw [List.length_map]; exact rowAt_of_owns hown) (own_cap hown) (by rw [List.length_map]; omega) (by rw [flat_parts]; exact hsum)
        rw [flat_parts] at hj
        clear hc hown
        go_wp2_with (go_at_call 85; refine hj.mono ?_; rintro e w2 ⟨rfl, hb2⟩)
        go_ret
        exact ⟨rfl, later_below hbel hb2 hbel.size⟩

end Go.Proofs.Yteoacdkgicfomaa
