/-
  Texts put together, walked: message.join, attribute.bytes, lengthSize.
-/
import Derived.Test.YtjjakgmjoplhoaaShelf
import Derived.Test.YtjjakgmjoplhoaaB01
import Derived.Test.YtjjakgmjoplhoaaB02
import Derived.Test.YtjjakgmjoplhoaaB03
import Derived.Lib.Join
import Derived.Deep.RegionHeld
import Derived.WalkSpells
import Derived.WalkLawsBesides
import Derived.Outline
import Derived.Deep.RegionHeldLaw
import Derived.Deep.RegionWith
import Derived.BigRegion
namespace Go.Proofs.Ytjjakgmjoplhoaa
open Go.RowKit
open Rl

theorem ret_se {a b : ByteArray} {c d : Int} (h1 : a = b) (h2 : c = d) : Ending.returned (.tuple #[.string a, .int .i64 c]) = .returned (.tuple #[.string b, .int .i64 d]) := by rw [h1, h2]

/-- the cells of a row of texts. -/
def strs (xs : List ByteArray) : List Value := xs.map Value.string

/-- texts, one behind the other. -/
def flat (xs : List ByteArray) : List UInt8 := (xs.map (·.data.toList)).flatten

theorem join_empty (l : List (List UInt8)) : Lib.join l [] = l.flatten := by
  unfold Lib.join
  induction l with
  | nil => rfl
  | cons a l ih =>
    cases l with
    | nil => simp [List.intercalate]
    | cons b l => simp [List.intercalate, List.intersperse] at ih ⊢; exact ih

theorem strs_get (xs : List ByteArray) (j : Nat) (x : ByteArray) (h : xs[j]? = some x) : (strs xs)[j]? = some (.string x) := by
  simp [strs, h]

theorem join_any (v : Value) (xs : List ByteArray) (w : World) (hr : RowAt w v xs.length 1 (strs xs)) (hcap : ∀ a n c, v = .slice a n c → n ≤ c) (hN : xs.length ≤ 1073741824) (hlen : (flat xs).length ≤ 140737488355328) :
    Calls Try.prog 85 #[v] w fun e w' => e = .returned (.string ⟨(flat xs).toArray⟩) ∧ Below w.heap.size w w' := by
  rcases hr.2 with ⟨a, c, rfl, hn⟩ | ⟨b, o, cap, rfl, hn, hb, hc⟩
  · have hn0 : xs = [] := List.eq_nil_of_length_eq_zero hn
    subst hn0
    go_enter Try.func85, Try.ntmps85
    go_wp2_with (go_at_call 95; refine (Try.strings_Join_none _ _ _ _).mono ?_; rintro e w' ⟨rfl, hw⟩; rw [hw]; clear hw w')
    go_ret
    exact ⟨rfl, Below.refl _ _⟩
  · have hj := Try.strings_Join b o cap xs ⟨#[]⟩ w (fun j x hx => hc j _ (strs_get xs j x hx)) hb (by omega) (hcap _ _ _ rfl) (by rw [join_empty]; exact hlen)
    have e : (Lib.join (xs.map (·.data.toList)) (ByteArray.mk #[]).data.toList) = flat xs := join_empty _
    rw [e] at hj
    go_enter Try.func85, Try.ntmps85
    go_wp2_with (go_at_call 95; refine hj.mono ?_; rintro e w' ⟨rfl, hb2⟩)
    go_ret
    exact ⟨rfl, hb2⟩

theorem wrap_i64_in (n : Int) (h0 : 0 ≤ n) (h1 : n < 2 ^ 63) : IntKind.i64.wrap n = n := by
  rw [IntKind.wrap_i64]
  have e : (2 : Int) ^ 63 = 9223372036854775808 := by decide
  omega

theorem and16 (f : Nat) (h : f < 256) : bits .and .i64 (f : Int) 16 = ((f / 16 % 2 * 16 : Nat) : Int) := by
  have e : (2 : Nat) ^ 63 = 9223372036854775808 := by decide
  have hb := (bits_nat .i64 63 (by decide) wrap_i64_in f 16 (by omega) (by omega)).1
  rw [show (16 : Int) = ((16 : Nat) : Int) from rfl, hb]
  congr 1
  have h2 : ∀ x : Fin 256, x.val &&& 16 = x.val / 16 % 2 * 16 := by decide +kernel
  exact h2 ⟨f, h⟩

/-- how many bytes tell a value's length, the flags being these. -/
def lenSize (f : Nat) : Nat := if f / 16 % 2 = 1 then 2 else 1

theorem lengthSize_any (f : Nat) (w : World) (h : f < 256) :
    Calls Try.prog 75 #[.int .i64 f] w fun e w' => e = .returned (.int .i64 (lenSize f : Int)) ∧ w' = w := by
  have ha := and16 f h
  by_cases h1 : f / 16 % 2 = 1
  · have e2 : lenSize f = 2 := by unfold lenSize; rw [if_pos h1]
    rw [h1] at ha
    rw [e2]
    clear h1 e2
    go_enter Try.func75, Try.ntmps75
    go_wp2
    go_ret
    exact ⟨rfl, rfl⟩
  · have e2 : lenSize f = 1 := by unfold lenSize; rw [if_neg h1]
    have h0 : f / 16 % 2 = 0 := by omega
    rw [h0] at ha
    rw [e2]
    clear h1 e2 h0
    go_enter Try.func75, Try.ntmps75
    go_wp2
    go_ret
    exact ⟨rfl, rfl⟩

theorem cap_of {A : Option Addr} {N C : Nat} (h : N ≤ C) : ∀ a n c, Value.slice A N C = .slice a n c → n ≤ c := by
  intro a n c e; cases e; exact h

theorem rowAt_new (w : World) (cs : Array Value) (T : TypeId) (n c : Nat) (h : cs.size = n) (hn : 0 < n) : RowAt (w.alloc (.cells cs T)) (.slice (some ⟨w.heap.size, 0, none⟩) n c) n 1 cs.toList := by
  refine ⟨by simp [h], .inr ⟨w.heap.size, 0, c, rfl, hn, by simp, fun j u hu => ?_⟩⟩
  have := cells_new w cs T j u hu
  rwa [add_head, ← Nat.zero_add j] at this

theorem flat_at (f k z : Nat) (v : ByteArray) : flat [⟨(be 1 f).toArray⟩, ⟨(be 1 k).toArray⟩, ⟨(be z v.size).toArray⟩, v] = atBytes f k z v := by
  simp [flat, atBytes]

theorem flat4 (f k z : Nat) (v : ByteArray) (hz : z ≤ 2) (hv : v.size ≤ 1048576) : (flat [⟨(be 1 f).toArray⟩, ⟨(be 1 k).toArray⟩, ⟨(be z v.size).toArray⟩, v]).length ≤ 140737488355328 := by
  rw [flat_at, atBytes_length]; omega

/-- a world that has grown since wx, and in which the block at n holds these three cells. -/
theorem keep3 {w wx w2 : World} {n : Nat} {a b c : Value} (hS : wx.cell? ⟨n, 0, none⟩ = some a ∧ wx.cell? ⟨n, 1, none⟩ = some b ∧ wx.cell? ⟨n, 2, none⟩ = some c ∧ n < wx.heap.size ∧ Below w.heap.size w wx) (hb : Below wx.heap.size wx w2) :
    w2.cell? ⟨n, 0, none⟩ = some a ∧ w2.cell? ⟨n, 1, none⟩ = some b ∧ w2.cell? ⟨n, 2, none⟩ = some c ∧ n < w2.heap.size ∧ Below w.heap.size w w2 := by
  obtain ⟨h0, h1, h2, h3, h4⟩ := hS
  exact ⟨(hb.cell (p := ⟨n, 0, none⟩) h3).trans h0, (hb.cell (p := ⟨n, 1, none⟩) h3).trans h1, (hb.cell (p := ⟨n, 2, none⟩) h3).trans h2, Nat.lt_of_lt_of_le h3 hb.size, later_below h4 hb h4.size⟩

set_option maxRecDepth 20000 in
set_option maxHeartbeats 4000000 in
theorem atBytes_any (f k z : Nat) (v : ByteArray) (w : World) (hf : f < 256) (hk : k < 256) (hz : z ≤ 2) (hv : v.size ≤ 1048576) :
    Calls Try.prog 84 #[.agg #[.int .i64 (f : Int), .int .i64 (k : Int), .string v], .int .i64 (z : Int)] w fun e w' => e = .returned (.string ⟨(atBytes f k z v).toArray⟩) ∧ Below w.heap.size w w' := by
  have h1 := fun w => write_any f 1 w (by omega) (by omega)
  have h2 := fun w => write_any k 1 w (by omega) (by omega)
  have h3 := fun w => write_any v.size z w (by omega) (by omega)
  go_enter Try.func84, Try.ntmps84
  go_wp2
  go_region_held (fun w' => w'.cell? ⟨w.heap.size, 0, none⟩ = some (.int .i64 (f : Int)) ∧ w'.cell? ⟨w.heap.size, 1, none⟩ = some (.int .i64 (k : Int)) ∧ w'.cell? ⟨w.heap.size, 2, none⟩ = some (.string v) ∧ w.heap.size < w'.heap.size ∧ Below w.heap.size w w') (first | (refine ⟨by simp, by simp, by simp, by simp, ((Below.refl _ _).alloc (Nat.le_refl _) _).drew⟩) | (exact keep3 (by assumption) (by assumption)) | (exact keep3 (by assumption) ((Below.refl _ _).alloc (Nat.le_refl _) _))) (first | (go_at_call_of 62 (f : Int); refine (h1 _).mono ?_; rintro e w2 ⟨rfl, hb2⟩) | (go_at_call_of 62 (k : Int); refine (h2 _).mono ?_; rintro e w2 ⟨rfl, hb2⟩) | (go_at_call_of 62 (v.size : Int); refine (h3 _).mono ?_; rintro e w2 ⟨rfl, hb2⟩) | (go_at_call 85; refine (join_any _ [⟨(be 1 f).toArray⟩, ⟨(be 1 k).toArray⟩, ⟨(be z v.size).toArray⟩, v] _ (rowAt_new _ _ _ 4 4 rfl (by omega)) (cap_of (Nat.le_refl _)) (by simp) (flat4 f k z v hz hv)).mono ?_; rintro e w2 ⟨rfl, hb2⟩))
  have hS := ‹w2.cell? _ = some _ ∧ w2.cell? _ = some _ ∧ w2.cell? _ = some _ ∧ w.heap.size < w2.heap.size ∧ Below w.heap.size w w2›
  go_wp2
  go_ret
  exact ⟨by rw [← flat_at]; rfl, hS.2.2.2.2⟩

end Go.Proofs.Ytjjakgmjoplhoaa
/-
  message.writeAttributes, walked: attributes as the bytes of an update.
-/
namespace Go.Proofs.Ytjjakgmjoplhoaa
open Go.RowKit
open Rl

def atPart (a : At) : ByteArray := ⟨(atWire a).toArray⟩

theorem flat_parts (l : List At) : flat (l.map atPart) = l.flatMap atWire := by
  unfold flat
  rw [List.map_map]
  induction l with
  | nil => rfl
  | cons a l ih => simp only [List.map_cons, List.flatten_cons, List.flatMap_cons]; rw [ih]; rfl

theorem or16 (f : Nat) (h : f < 256) (h0 : f / 16 % 2 = 0) : bits .or .i64 (f : Int) 16 = ((f + 16 : Nat) : Int) := by
  have e : (2 : Nat) ^ 63 = 9223372036854775808 := by decide
  have hb := (bits_nat .i64 63 (by decide) wrap_i64_in f 16 (by omega) (by omega)).2
  rw [show (16 : Int) = ((16 : Nat) : Int) from rfl, hb]
  congr 1
  have h2 : ∀ x : Fin 256, x.val / 16 % 2 = 0 → x.val ||| 16 = x.val + 16 := by decide +kernel
  exact h2 ⟨f, h⟩ h0

theorem keep3g {w wx w2 : World} {n : Nat} {a b c : Value} {row : Option Nat}
    (hS : wx.cell? ⟨n, 0, none⟩ = some a ∧ wx.cell? ⟨n, 1, none⟩ = some b ∧ wx.cell? ⟨n, 2, none⟩ = some c ∧ n < wx.heap.size ∧ Below w.heap.size w wx) (hg : wx.grownBy w2 row) (hne : some n ≠ row) (hrow : ∀ k, row = some k → w.heap.size ≤ k) :
    w2.cell? ⟨n, 0, none⟩ = some a ∧ w2.cell? ⟨n, 1, none⟩ = some b ∧ w2.cell? ⟨n, 2, none⟩ = some c ∧ n < w2.heap.size ∧ Below w.heap.size w w2 := by
  obtain ⟨h0, h1, h2, h3, h4⟩ := hS
  exact ⟨hg.cell h0 hne, hg.cell h1 hne, hg.cell h2 hne, Nat.lt_of_lt_of_le h3 hg.size, h4.grown hg h4.size hrow⟩

theorem own_cap {w : World} {base : Nat} {e : TypeId} {size : Nat} {v : Value} {m : Nat} {xs : List Value} (h : w.ownsRow base e size v m xs) : ∀ a n c, v = .slice a n c → n ≤ c := by
  intro a n c ev
  rcases h.2 with ⟨e1, _⟩ | ⟨g, cap, cur, e1, _, _, hnc, _⟩
  · rw [e1] at ev; cases ev; exact Nat.le_refl _
  · rw [e1] at ev; cases ev; exact hnc

theorem info_string : (Try.prog.info? 9).map (fun i => (i.zero, i.size, i.bytes)) = some (some (.string ⟨#[]⟩), 1, 16) := by kernel_rfl

theorem oneS (a : ByteArray) : ∀ u ∈ [Value.string a], u.oneCell' = true := by
  intro u hu; simp at hu; rcases hu with rfl; rfl

set_option maxRecDepth 20000 in
set_option maxHeartbeats 8000000 in
theorem writeAttributes_any (v : Value) (l : List At) (w : World) (hx : l.length ≤ 1048576) (hl : ∀ a ∈ l, a.flags < 240 ∧ a.flags / 16 % 2 = 0 ∧ a.kind < 256 ∧ a.val.size ≤ 1048576) (hsum : (l.flatMap atWire).length ≤ 140737488355328) (hr : RowAt w v l.length 3 (atCells l)) :
    Calls Try.prog 60 #[v] w fun e w' => e = .returned (.string ⟨(l.flatMap atWire).toArray⟩) ∧ Below w.heap.size w w' := by
  obtain ⟨i0, hi, hz0, hz1, hz2⟩ := info_parts info_string
  obtain ⟨_, hr⟩ := hr
  rcases hr with ⟨a, c, rfl, hn⟩ | ⟨b, o, cap, rfl, hn, hb, hc⟩
  · have hn0 : l = [] := List.eq_nil_of_length_eq_zero hn
    subst hn0
    have hj := fun w => join_any (.slice none 0 0) [] w (RowAt.nil _ _ _ _) (cap_of (Nat.le_refl _)) (by simp) (by simp [flat])
    go_enter Try.func60, Try.ntmps60
    go_wp2
    refine wp_loop_rounds 1 ?_
    rw [rounds_succ]
    go_wp2_with (go_at_call 85; refine (hj _).mono ?_; rintro e w2 ⟨rfl, hb2⟩)
    go_ret
    exact ⟨rfl, hb2⟩
  · go_enter Try.func60, Try.ntmps60
    go_wp2
    go_loopw [3, 8] (fun x i wr => ∃ (k : Nat) (lv : Value), lv = x ∧ k ≤ l.length ∧ i = .int .i64 k ∧ wr.ownsRow w.heap.size 9 1 lv k (strs ((l.take k).map atPart)) ∧ Below w.heap.size w wr) (fun _ i _ => l.length - (intOf i).toNat)
    case atStart => exact ⟨0, _, rfl, Nat.zero_le _, rfl, World.ownsRow_nil _ _ _ _, Below.refl _ _⟩
    case round =>
      obtain ⟨k, lv, rfl, hk, rfl, hown, hbel⟩ := hrel
      by_cases hlt : k < l.length
      · obtain ⟨g1, g2, g3⟩ := atCells_get l k hlt
        have c1 := (hbel.cell (p := ⟨b, o + k * 3, none⟩) hb).trans (hc _ _ g1)
        have c2 := (hbel.cell (p := ⟨b, o + k * 3 + 1, none⟩) hb).trans (hc _ _ g2)
        have c3 := (hbel.cell (p := ⟨b, o + k * 3 + 2, none⟩) hb).trans (hc _ _ g3)
        obtain ⟨hf, hf16, hk', hv'⟩ := hl l[k] (List.getElem_mem _)
        have HW : Hid ((l.take (k + 1)).map atPart = (l.take k).map atPart ++ [atPart l[k]]) := by
          rw [List.take_succ_eq_append_getElem hlt, List.map_append]; exact rfl
        clear hc g1 g2 g3
        obtain ⟨p, ep⟩ : ∃ p, p = l[k] := ⟨_, rfl⟩
        rw [← ep] at c1 c2 c3 hf hf16 hk' hv' HW
        clear ep
        generalize (l.take k).map atPart = xs at *
        obtain ⟨f, kd, val⟩ := p
        simp only at c1 c2 c3 hf hf16 hk' hv'
        by_cases hbig : val.size ≤ 255
        · have HP : Hid (atPart ⟨f, kd, val⟩ = ⟨(atBytes f kd 1 val).toArray⟩) := by unfold atPart atWire; rw [if_pos hbig]; exact rfl
          have hls : lenSize f = 1 := by unfold lenSize; rw [if_neg (by omega)]
          have hcall := fun w => lengthSize_any f w (by omega)
          rw [hls] at hcall
          have hby := fun w => atBytes_any f kd 1 val w (by omega) hk' (by omega) hv'
          clear hls
          have hne := own_ne hown wr.heap.size (Nat.le_refl _)
          have hrow := fun k hk => (hown.lt k hk).1
          go_wp2
          go_region_held_law (fun w' => w'.cell? ⟨wr.heap.size, 0, none⟩ = some (.int .i64 (f : Int)) ∧ w'.cell? ⟨wr.heap.size, 1, none⟩ = some (.int .i64 (kd : Int)) ∧ w'.cell? ⟨wr.heap.size, 2, none⟩ = some (.string val) ∧ wr.heap.size < w'.heap.size ∧ Below w.heap.size w w') (first | (refine ⟨by simp, by simp, by simp, by simp, (hbel.alloc hbel.size _).drew⟩) | (exact keep3 (by assumption) (by assumption)) | (exact keep3 (by assumption) ((Below.refl _ _).alloc (Nat.le_refl _) _)) | (exact keep3g (by assumption) (by assumption) hne hrow)) (first | (refine step_append_own rfl (.tmp 20) (.tmp 26) 45 rfl w.heap.size 9 i0 (.string ⟨#[]⟩) 1 16 Try.underlying45 hi hz0 hz1 hz2 rfl (by decide) lv k (strs xs) rfl (hown2.alloc _) ⟨w2.heap.size, 0, none⟩ 1 1 [Value.string ⟨(atBytes f kd 1 val).toArray⟩] rfl rfl (cells_new _ _ _) (oneS _) (by unfold maxLen; omega) (by omega) (by simp; omega) ?_; intro v5 w5 hown5 hgrow5) | (go_at_call 75; refine (hcall _).mono ?_; rintro e w' ⟨rfl, hw⟩; rw [hw]; clear hw w') | (go_at_call 84; refine (hby _).mono ?_; rintro e w2 ⟨rfl, hb2⟩; have hbs : w.heap.size ≤ w2.heap.size := Nat.le_trans (hbel.alloc hbel.size _).drew.size hb2.size; have hown2 := owns_later (hown.alloc _).drew hb2))
          have hS := ‹w5.cell? _ = some _ ∧ w5.cell? _ = some _ ∧ w5.cell? _ = some _ ∧ wr.heap.size < w5.heap.size ∧ Below w.heap.size w w5›
          go_wp2
          refine ⟨⟨k + 1, v5, rfl, by omega, by go_num, ?_, hS.2.2.2.2⟩, by simp [intOf]; omega⟩
          rw [HW.out, HP.out]
          unfold strs
          rw [List.map_append]
          exact hown5
        · have HP : Hid (atPart ⟨f, kd, val⟩ = ⟨(atBytes (f + 16) kd 2 val).toArray⟩) := by unfold atPart atWire; rw [if_neg hbig]; exact rfl
          have hls : lenSize (f + 16) = 2 := by unfold lenSize; rw [if_pos (by omega)]
          have hor := or16 f (by omega) hf16
          have hcall := fun w => lengthSize_any (f + 16) w (by omega)
          rw [hls] at hcall
          have hby := fun w => atBytes_any (f + 16) kd 2 val w (by omega) hk' (by omega) hv'
          generalize f + 16 = F at *
          clear hls
          have hne := own_ne hown wr.heap.size (Nat.le_refl _)
          have hrow := fun k hk => (hown.lt k hk).1
          go_wp2
          go_region_held_law (fun w' => w'.cell? ⟨wr.heap.size, 0, none⟩ = some (.int .i64 (F : Int)) ∧ w'.cell? ⟨wr.heap.size, 1, none⟩ = some (.int .i64 (kd : Int)) ∧ w'.cell? ⟨wr.heap.size, 2, none⟩ = some (.string val) ∧ wr.heap.size < w'.heap.size ∧ Below w.heap.size w w') (first | (refine ⟨by simp, by simp, by simp, by simp, (hbel.alloc hbel.size _).drew⟩) | (exact keep3 (by assumption) (by assumption)) | (exact keep3 (by assumption) ((Below.refl _ _).alloc (Nat.le_refl _) _)) | (exact keep3g (by assumption) (by assumption) hne hrow)) (first | (refine step_append_own rfl (.tmp 20) (.tmp 26) 45 rfl w.heap.size 9 i0 (.string ⟨#[]⟩) 1 16 Try.underlying45 hi hz0 hz1 hz2 rfl (by decide) lv k (strs xs) rfl (hown2.alloc _) ⟨w2.heap.size, 0, none⟩ 1 1 [Value.string ⟨(atBytes F kd 2 val).toArray⟩] rfl rfl (cells_new _ _ _) (oneS _) (by unfold maxLen; omega) (by omega) (by simp; omega) ?_; intro v5 w5 hown5 hgrow5) | (go_at_call 75; refine (hcall _).mono ?_; rintro e w' ⟨rfl, hw⟩; rw [hw]; clear hw w') | (go_at_call 84; refine (hby _).mono ?_; rintro e w2 ⟨rfl, hb2⟩; have hbs : w.heap.size ≤ w2.heap.size := Nat.le_trans (hbel.alloc hbel.size _).drew.size hb2.size; have hown2 := owns_later (hown.alloc _).drew hb2))
          have hS := ‹w5.cell? _ = some _ ∧ w5.cell? _ = some _ ∧ w5.cell? _ = some _ ∧ wr.heap.size < w5.heap.size ∧ Below w.heap.size w w5›
          go_wp2
          refine ⟨⟨k + 1, v5, rfl, by omega, by go_num, ?_, hS.2.2.2.2⟩, by simp [intOf]; omega⟩
          rw [HW.out, HP.out]
          unfold strs
          rw [List.map_append]
          exact hown5
      · have HT : Hid (l.take k = l) := List.take_of_length_le (by omega)
        rw [HT.out] at hown
        have hkl : k = l.length := by omega
        subst hkl
        have hj := join_any lv (l.map atPart) wr (by rw [List.length_map]; exact rowAt_of_owns hown) (own_cap hown) (by rw [List.length_map]; omega) (by rw [flat_parts]; exact hsum)
        rw [flat_parts] at hj
        clear hc hown
        go_wp2_with (go_at_call 85; refine hj.mono ?_; rintro e w2 ⟨rfl, hb2⟩)
        go_ret
        exact ⟨rfl, later_below hbel hb2 hbel.size⟩

end Go.Proofs.Ytjjakgmjoplhoaa
/-
  A prefix in bytes, walked: routelogref.told.
-/
namespace Go.Proofs.Ytjjakgmjoplhoaa
open Go.RowKit
open Rl

theorem ret_str {a b : ByteArray} (h : a = b) : Ending.returned (.string a) = .returned (.string b) := by rw [h]

theorem bytes_ext {a b : ByteArray} (h : a.data.toList = b.data.toList) : a = b := by
  apply ByteArray.ext
  exact Array.toList_inj.1 h

theorem append_data (a b : ByteArray) : (a ++ b).data.toList = a.data.toList ++ b.data.toList := by
  rw [ByteArray.data_append]; simp

theorem told_eq (a n : Nat) (hn : n ≤ 32) : (⟨(be 1 n).toArray⟩ : ByteArray) ++ (ByteArray.extract ⟨(be 4 a).toArray⟩ 0 (many n)) = ⟨(pfxBytes (a, n)).toArray⟩ := by
  apply bytes_ext
  rw [append_data, Lib.extract_data]
  show be 1 n ++ (List.drop 0 (be 4 a)).take (many n - 0) = pfxBytes (a, n)
  simp only [be, pfxBytes, List.drop_zero, Nat.sub_zero, Nat.pow_zero, Nat.div_one, List.cons_append, List.nil_append]
  congr 2
  omega

set_option maxHeartbeats 1600000 in
theorem told_any (a n : Nat) (w : World) (ha : a ≤ 4294967295) (hn : n ≤ 32) :
    Calls Try.prog 44 #[.agg #[.int .i64 a, .int .i64 n]] w fun e w' => e = .returned (.string ⟨(pfxBytes (a, n)).toArray⟩) ∧ Below w.heap.size w w' := by
  go_enter Try.func44, Try.ntmps44
  go_wp2_with fail
  refine (bytes_any a 4 _ (by omega) (by omega)).mono ?_
  rintro e w1 ⟨rfl, hb1⟩
  obtain ⟨k0, k1, k4⟩ : w1.cell? ⟨w.heap.size, 0, none⟩ = some (.int .i64 a) ∧ w1.cell? ⟨w.heap.size, 1, none⟩ = some (.int .i64 n) ∧ w.heap.size < w1.heap.size := by
    have hs : w.heap.size < (w.alloc (.cells #[.int .i64 a, .int .i64 n] 36)).heap.size := by simp
    refine ⟨?_, ?_, Nat.lt_of_lt_of_le hs hb1.size⟩
    · rw [hb1.cell (p := ⟨w.heap.size, 0, none⟩) hs]; simp
    · rw [hb1.cell (p := ⟨w.heap.size, 1, none⟩) hs]; simp
  have hbel : Below w.heap.size w w1 := later_below ((Below.refl _ _).alloc (Nat.le_refl _) _) hb1 (by simp)
  clear hb1
  have hcall := fun w => bytes_any n 1 w (by omega) (by omega)
  obtain ⟨S, eS⟩ : ∃ S : ByteArray, S = ⟨(be 4 a).toArray⟩ := ⟨_, rfl⟩
  obtain ⟨U, eU⟩ : ∃ U : ByteArray, U = ⟨(be 1 n).toArray⟩ := ⟨_, rfl⟩
  have hS : S.size = 4 := by rw [eS]; show (be 4 a).toArray.size = 4; simp [be_length]
  have hU : U.size = 1 := by rw [eU]; show (be 1 n).toArray.size = 1; simp [be_length]
  rw [← eS]
  rw [← eU] at hcall
  have HS := hide eS
  have HU := hide eU
  clear eS eU
  have hm0 : 0 ≤ ((n : Int) + 7) / 8 := by omega
  have hm4 : ((n : Int) + 7) / 8 ≤ (S.size : Int) := by omega
  have hS2 : S.size ≤ 4 := by omega
  have hU2 : U.size ≤ 1 := by omega
  clear hS hU
  have hw1 : IntKind.i64.wrap ((n : Int) + 7) = (n : Int) + 7 := by rw [IntKind.wrap_i64]; omega
  have hw2 : IntKind.i64.wrap (((n : Int) + 7).tdiv 8) = (many n : Int) := by rw [IntKind.wrap_i64, Int.tdiv_eq_ediv_of_nonneg (by omega)]; unfold many; omega
  have hm8 : (many n : Int) ≤ (S.size : Int) := by unfold many; omega
  go_wp2
  go_region_with (go_at_call 45; refine (hcall _).mono ?_; rintro e w2 ⟨rfl, hb2⟩; have j1 := (hb2.cell (p := ⟨w.heap.size, 1, none⟩) k4).trans k1; have j0 := (hb2.cell (p := ⟨w.heap.size, 0, none⟩) k4).trans k0)
  all_goals
    go_wp2
    go_ret
    refine ⟨ret_str ?_, later_below hbel.drew hb2 hbel.size⟩
    rw [HS.out, HU.out]
    exact told_eq a n hn

end Go.Proofs.Ytjjakgmjoplhoaa
/-
  message.writePrefixes, walked: prefixes in bytes, one behind the other.
-/
namespace Go.Proofs.Ytjjakgmjoplhoaa
open Go.RowKit
open Rl

theorem info_pfx : (Try.prog.info? 36).map (fun i => (i.zero, i.size, i.bytes)) = some (some (.agg #[.int .i64 0, .int .i64 0]), 2, 16) := by kernel_rfl

set_option maxRecDepth 20000 in
set_option maxHeartbeats 4000000 in
theorem writePrefixes_any (v : Value) (l : List (Nat × Nat)) (w : World) (hx : l.length ≤ 1048576) (hl : ∀ p ∈ l, p.1 ≤ 4294967295 ∧ p.2 ≤ 32) (hr : RowAt w v l.length 2 (pfCells (pfInts l))) :
    Calls Try.prog 63 #[v] w fun e w' => e = .returned (.string ⟨(pfWire l).toArray⟩) ∧ Below w.heap.size w w' := by
  obtain ⟨i0, hi, hz0, hz1, hz2⟩ := info_parts info_u8
  obtain ⟨_, hr⟩ := hr
  rcases hr with ⟨a, c, rfl, hn⟩ | ⟨b, o, cap, rfl, hn, hb, hc⟩
  · have hn0 : l = [] := List.eq_nil_of_length_eq_zero hn
    subst hn0
    go_enter Try.func63, Try.ntmps63
    go_wp2
    refine wp_loop_rounds 1 ?_
    rw [rounds_succ]
    have hconv := fun w : World => Lib.run_convert_nil_bytes (P := Try.prog) w 59 9 5 0 Try.underlying59 Try.underlying5 Try.underlying9
    go_wp2
    go_ret
    exact ⟨rfl, Below.refl _ _⟩
  · go_enter Try.func63, Try.ntmps63
    go_wp2
    go_loopw [3, 8] (fun x i wr => ∃ (k : Nat) (lv : Value), lv = x ∧ k ≤ l.length ∧ i = .int .i64 k ∧ wr.ownsRow w.heap.size 5 1 lv (pfWire (l.take k)).length (u8s (pfWire (l.take k))) ∧ Below w.heap.size w wr) (fun _ i _ => l.length - (intOf i).toNat)
    case atStart => exact ⟨0, _, rfl, Nat.zero_le _, rfl, World.ownsRow_nil _ _ _ _, Below.refl _ _⟩
    case round =>
      obtain ⟨k, lv, rfl, hk, rfl, hown, hbel⟩ := hrel
      have hle := pfWire_le (l.take k) fun p hp => (hl p (List.mem_of_mem_take hp)).2
      rw [List.length_take] at hle
      by_cases hlt : k < l.length
      · obtain ⟨g1, g2⟩ := pfInts_get l k hlt
        have c1 := (hbel.cell (p := ⟨b, o + k * 2, none⟩) hb).trans (hc _ _ g1)
        have c2 := (hbel.cell (p := ⟨b, o + k * 2 + 1, none⟩) hb).trans (hc _ _ g2)
        obtain ⟨ha, hn'⟩ := hl l[k] (List.getElem_mem _)
        have HW := hide (pfWire_take l k hlt)
        clear hc g1 g2
        obtain ⟨p, ep⟩ : ∃ p, p = l[k] := ⟨_, rfl⟩
        rw [← ep] at c1 c2 ha hn' HW
        clear ep
        obtain ⟨a, n⟩ := p
        simp only at c1 c2 ha hn'
        generalize pfWire (l.take k) = xs at *
        have hne := own_ne hown wr.heap.size (Nat.le_refl _)
        go_wp2_with (at_builtin; refine wpList_append_own _ rfl _ _ 59 rfl w.heap.size 5 i0 (.int .u8 0) 1 1 Try.underlying59 hi hz0 hz1 hz2 rfl (by decide) _ _ _ rfl ((hown.alloc _).alloc _) ⟨wr.heap.size + 1, 0, none⟩ 1 1 [.int .u8 (n : Int)] rfl rfl (cells_new2' _ _ _ _) (one1 _ _) (by unfold maxLen; omega) (by omega) (by have := hbel.size; simp; omega) ?_; intro v3 w3 hown3 hgrow3 _; obtain ⟨k0, k1⟩ := two_cells hgrow3 hne; have ksz := grown_size hgrow3; have hbel3 := below_app2' hbel hbel.size hown hgrow3)
        have hwr := fun w => write_any a 4 w (by omega) (by omega)
        obtain ⟨S, eS⟩ : ∃ S : ByteArray, S = ⟨(be 4 a).toArray⟩ := ⟨_, rfl⟩
        have hS : S.size = 4 := by rw [eS]; show (be 4 a).toArray.size = 4; simp [be_length]
        rw [← eS] at hwr
        have HS := hide (wire_step xs a n S eS hn')
        have hm4 := many_le n hn'
        have hm8 : (many n : Int) ≤ (S.size : Int) := by omega
        have hx4 : (S.extract 0 (many n)).size ≤ 4 := by rw [ByteArray.size_extract]; omega
        have k4 : wr.heap.size < w3.heap.size := by omega
        clear eS hS hown hbel hgrow3 ksz c1 c2 hne
        go_region_law (first | (go_simp; go_at_call 62; refine (hwr _).mono ?_; rintro e w2 ⟨rfl, hb2⟩; have j1 := (hb2.cell (p := ⟨wr.heap.size, 1, none⟩) k4).trans k1; have hown2 := owns_later hown3.drew hb2; have hbel2 := later_below hbel3.drew hb2 hbel3.size) | (go_simp; go_at_call 72; refine (bytesFor_any n _ (by omega)).mono ?_; rintro e w' ⟨rfl, hw⟩; rw [hw]; clear hw w') | (refine step_append_string rfl (.tmp 18) (.tmp 25) 59 9 rfl w.heap.size 5 i0 Try.underlying59 Try.underlying9 hi hz0 hz1 hz2 v3 (xs.length + 1) (u8s xs ++ [Value.int .u8 (n : Int)]) rfl hown2 (S.extract 0 (many n)) rfl (by unfold maxLen; omega) (by omega) (by exact hbel2.size) ?_; intro v5 w5 hown5 hgrow5))
        all_goals
          have hbel5 := hbel2.grown hgrow5 hbel2.size (fun k hk => (hown2.lt k hk).1)
          rw [strCells_u8s, HS.out.1, HS.out.2] at hown5
          clear hgrow5 hown2 hbel2 hb2 hown3 hbel3 hwr k0 k1 k4
          go_wp2
          refine ⟨⟨k + 1, v5, rfl, by omega, by go_num, ?_, hbel5⟩, by simp [intOf]; omega⟩
          rw [HW.out]
          exact hown5
      · have HT : Hid (pfWire (l.take k) = pfWire l) := by rw [List.take_of_length_le (by omega)]; exact rfl
        rw [HT.out] at hown
        have hconv := run_convert_own (P := Try.prog) 59 9 Try.underlying59 Try.underlying5 Try.underlying9 hown
        clear hc hown
        go_wp2
        go_ret
        exact ⟨rfl, hbel⟩

end Go.Proofs.Ytjjakgmjoplhoaa
/-
  The program's Announce, walked.
-/
namespace Go.Proofs.Ytjjakgmjoplhoaa
open Go.RowKit
open Rl

theorem flat_msg (k : Nat) (c : List UInt8) : flat [⟨#[255, 255, 255, 255, 255, 255, 255, 255, 255, 255, 255, 255, 255, 255, 255, 255]⟩, ⟨(be 2 (19 + c.length)).toArray⟩, ⟨(be 1 k).toArray⟩, ⟨c.toArray⟩] = msgOf k c := by
  simp [flat, msgOf, mark16, List.replicate]

set_option maxRecDepth 20000 in
set_option maxHeartbeats 2000000 in
theorem build_any (k : Nat) (v : Value) (xs : List ByteArray) (w : World) (hk : k < 256) (hr : RowAt w v xs.length 1 (strs xs)) (hcap : ∀ a n c, v = .slice a n c → n ≤ c) (hN : xs.length ≤ 1073741824) (hlen : (flat xs).length ≤ 1073741824) :
    Calls Try.prog 61 #[.int .i64 (k : Int), v] w fun e w' => e = .returned (.string ⟨(msgOf k (flat xs)).toArray⟩) ∧ Below w.heap.size w w' := by
  have hj := join_any v xs w hr hcap hN (by omega)
  have hs : (ByteArray.mk (flat xs).toArray).size = (flat xs).length := by show (flat xs).toArray.size = _; simp
  generalize flat xs = c at *
  have h1 := fun w => write_any (19 + c.length) 2 w (by omega) (by omega)
  have h2 := fun w => write_any k 1 w (by omega) (by omega)
  have H : Hid ((⟨c.toArray⟩ : ByteArray) = ⟨c.toArray⟩) := rfl
  have HF := hide (flat_msg k c)
  have hl4 : (flat [⟨#[255, 255, 255, 255, 255, 255, 255, 255, 255, 255, 255, 255, 255, 255, 255, 255]⟩, ⟨(be 2 (19 + c.length)).toArray⟩, ⟨(be 1 k).toArray⟩, ⟨c.toArray⟩]).length ≤ 140737488355328 := by rw [flat_msg, msgOf_length]; omega
  have hj2 := fun (w : World) (T : TypeId) => join_any (.slice (some ⟨w.heap.size, 0, none⟩) 4 4) [⟨#[255, 255, 255, 255, 255, 255, 255, 255, 255, 255, 255, 255, 255, 255, 255, 255]⟩, ⟨(be 2 (19 + c.length)).toArray⟩, ⟨(be 1 k).toArray⟩, ⟨c.toArray⟩] _ (rowAt_new w #[.string ⟨#[255, 255, 255, 255, 255, 255, 255, 255, 255, 255, 255, 255, 255, 255, 255, 255]⟩, .string ⟨(be 2 (19 + c.length)).toArray⟩, .string ⟨(be 1 k).toArray⟩, .string ⟨c.toArray⟩] T 4 4 rfl (by omega)) (cap_of (Nat.le_refl _)) (by simp) hl4
  rw [HF.out] at hj2
  clear hl4 HF
  obtain ⟨N, eN⟩ : ∃ N, N = 19 + c.length := ⟨_, rfl⟩
  have hlc : 19 + ((c.length : Nat) : Int) = (N : Int) := by omega
  rw [← eN] at h1 hj2
  clear eN
  obtain ⟨C, eC⟩ : ∃ C : ByteArray, C = ⟨c.toArray⟩ := ⟨_, rfl⟩
  rw [← eC] at hj hj2 hs
  have hsz : 19 + (C.size : Int) = (N : Int) := by rw [hs]; exact hlc
  clear eC hs H
  go_enter Try.func61, Try.ntmps61
  go_wp2_with (first | (go_at_call 85; refine hj.mono ?_; rintro e w1 ⟨rfl, hb1⟩))
  refine (h1 _).mono ?_
  rintro e w2 ⟨rfl, hb2⟩
  go_wp2_with fail
  refine (h2 _).mono ?_
  rintro e w3 ⟨rfl, hb3⟩
  go_wp2_with (first | (go_at_call 85; refine (hj2 w3 9).mono ?_; rintro e w4 ⟨rfl, hb4⟩))
  go_ret
  have b2 := later_below hb1 hb2 hb1.size
  have b3 := later_below b2 hb3 b2.size
  exact ⟨rfl, later_below (b3.alloc b3.size _) hb4 (by have := b3.size; simp; omega)⟩

theorem arr_nil : (⟨#[]⟩ : ByteArray) = ⟨([] : List UInt8).toArray⟩ := rfl

set_option maxRecDepth 20000 in
set_option maxHeartbeats 4000000 in
theorem announce_any (s : ByteArray) (v : Value) (l : List (Int × Int)) (a0 : Option Addr) (c0 : Nat) (w : World) (hs : s.size ≤ 1048576) (hl : l.length ≤ 1048576) (hv : v = .slice a0 l.length c0) (hr : RowAt w v l.length 2 (pfCells l)) :
    Calls Try.prog 41 #[.string s, v] w fun e w' => e = .returned (.tuple #[.string ⟨(annM s l).toArray⟩, .int .i64 (annE s l)]) ∧ Below w.heap.size w w' := by
  have hcan := fun w => readCanonical_any s w hs
  cases hb : canB s with
  | false =>
    have HB := hide (ann_bad s l (annOk_can s l hb))
    rw [hb] at hcan
    subst hv
    go_enter Try.func41, Try.ntmps41
    go_wp2_with (go_at_call 58; refine (hcan _).mono ?_; rintro e w1 ⟨lv, rfl, hb1, _⟩)
    go_ret2
    exact ⟨ret_se (by rw [HB.out.1]) HB.out.2.symm, hb1⟩
  | true =>
    rw [hb] at hcan
    by_cases h0 : l.length = 0
    · have e0 : l = [] := List.eq_nil_of_length_eq_zero h0
      subst e0
      have HB := hide (ann_bad s [] (annOk_nil s))
      subst hv
      go_enter Try.func41, Try.ntmps41
      go_wp2_with (go_at_call 58; refine (hcan _).mono ?_; rintro e w1 ⟨lv, rfl, hb1, _⟩)
      go_ret2
      exact ⟨ret_se (by rw [HB.out.1]) HB.out.2.symm, hb1⟩
    · have hz : ((l.length : Int) == 0) = false := by rw [beq_eq_false_iff_ne]; omega
      cases hp : pfAll l with
      | false =>
        have HB := hide (ann_bad s l (annOk_all s l hp))
        have hare := fun w' (hb : Below w.heap.size w w') => arePrefixes_any v l w' (by omega) (hr.later hb)
        rw [hp] at hare
        subst hv
        go_enter Try.func41, Try.ntmps41
        go_wp2_with (first | (go_at_call 58; refine (hcan _).mono ?_; rintro e w1 ⟨lv, rfl, hb1, _⟩) | (go_at_call 59; refine (hare _ hb1).mono ?_; rintro e w2 ⟨rfl, hb2⟩))
        go_ret2
        exact ⟨ret_se (by rw [HB.out.1]) HB.out.2.symm, later_below hb1 hb2 hb1.size⟩
      | true =>
        have hok := annOk_yes s l hb h0 hp
        obtain ⟨hfine, hsum⟩ := canL_fine s
        have hpw := pfWire_nats_le l hp
        have hcl := annC_length s l
        have hgood := ann_good s l hok
        have hlong := ann_long s l hok
        have hare := fun w' (hb : Below w.heap.size w w') => arePrefixes_any v l w' (by omega) (hr.later hb)
        have hwp := fun w' (hb : Below w.heap.size w w') => writePrefixes_any v (pfNats l) w' (by rw [pfNats_length]; exact hl) (pfNats_bounds l hp) (by rw [pfNats_length, pfNats_ints l hp]; exact hr.later hb)
        have hfl : flat [⟨(be 2 0).toArray⟩, ⟨(be 2 (annA s).length).toArray⟩, ⟨(annA s).toArray⟩, ⟨(pfWire (pfNats l)).toArray⟩] = annC s l := by simp [flat, annC]
        have hbd := fun (w : World) (T : TypeId) => build_any 2 (.slice (some ⟨w.heap.size, 0, none⟩) 4 4) [⟨(be 2 0).toArray⟩, ⟨(be 2 (annA s).length).toArray⟩, ⟨(annA s).toArray⟩, ⟨(pfWire (pfNats l)).toArray⟩] _ (by omega) (rowAt_new w #[.string ⟨(be 2 0).toArray⟩, .string ⟨(be 2 (annA s).length).toArray⟩, .string ⟨(annA s).toArray⟩, .string ⟨(pfWire (pfNats l)).toArray⟩] T 4 4 rfl (by omega)) (cap_of (Nat.le_refl _)) (by simp) (by rw [hfl, hcl]; unfold annA; omega)
        rw [hfl] at hbd
        have hwa := fun (w' : World) (lv : Value) (ho : w'.ownsRow w.heap.size 104 3 lv (canL s).length (atCells (canL s))) (hle : (canL s).length ≤ s.size) => writeAttributes_any lv (canL s) w' (by omega) (fun a ha => by obtain ⟨g1, g2, g3, g4⟩ := hfine a ha; exact ⟨g1, g2, g3, by omega⟩) (by omega) (rowAt_of_owns ho)
        change ∀ (w' : World) (lv : Value), _ → _ → Calls Try.prog 60 #[lv] w' fun e w'' => e = .returned (.string ⟨(annA s).toArray⟩) ∧ Below w'.heap.size w' w'' at hwa
        change (annA s).length ≤ s.size at hsum
        have hw0 := fun w => write_any 0 2 w (by omega) (by omega)
        have hw1 := fun w => write_any (annA s).length 2 w (by omega) (by omega)
        have hA : (ByteArray.mk (annA s).toArray).size = (annA s).length := by show (annA s).toArray.size = _; simp
        have hM : (ByteArray.mk (msgOf 2 (annC s l)).toArray).size = 19 + (annC s l).length := by rw [← msgOf_length 2]; show (msgOf 2 (annC s l)).toArray.size = _; simp
        rw [hp] at hare
        clear hfine hfl hok hb
        obtain ⟨M, eM⟩ : ∃ M : ByteArray, M = ⟨(msgOf 2 (annC s l)).toArray⟩ := ⟨_, rfl⟩
        obtain ⟨A, eA⟩ : ∃ A : ByteArray, A = ⟨(annA s).toArray⟩ := ⟨_, rfl⟩
        rw [← eM] at hbd hM
        rw [← eA] at hbd hA hwa
        rw [← hA] at hw1 hbd hsum
        have HM := hide eM
        clear eM eA hA
        generalize (annC s l).length = n at *
        have HG := hide hgood
        have HL := hide hlong
        clear hgood hlong
        subst hv
        go_enter Try.func41, Try.ntmps41
        go_wp2_with (first | (go_at_call 58; refine (hcan _).mono ?_; rintro e w1 ⟨lv, rfl, hb1, hown1⟩) | (go_at_call 59; refine (hare _ hb1).mono ?_; rintro e w2 ⟨rfl, hb2⟩))
        obtain ⟨ho1, hle1⟩ := hown1 trivial
        refine (hwa w2 lv (owns_later ho1 hb2) hle1).mono ?_
        rintro e w3 ⟨rfl, hb3⟩
        have b2 := later_below hb1 hb2 hb1.size
        have b3 := later_below b2 hb3 b2.size
        clear hcan hare hwa hown1 ho1 hb1 hb2 hb3 b2
        go_wp2_with fail
        refine (hw0 _).mono ?_
        rintro e w4 ⟨rfl, hb4⟩
        have b4 := later_below b3 hb4 b3.size
        go_wp2_with fail
        refine (hw1 _).mono ?_
        rintro e w5 ⟨rfl, hb5⟩
        have b5 := later_below b4 hb5 b4.size
        go_wp2_with fail
        refine (hwp w5 b5).mono ?_
        rintro e w6 ⟨rfl, hb6⟩
        have b6 := later_below b5 hb6 b5.size
        clear hw0 hw1 hwp hb4 hb5 hb6 b3 b4 b5
        go_wp2_with fail
        refine (hbd w6 9).mono ?_
        rintro e w7 ⟨rfl, hb7⟩
        have b7 := later_below (b6.alloc b6.size _) hb7 (by have := b6.size; simp; omega)
        clear hbd hb7 b6
        by_cases hn : 200 < 19 + n
        · have H := hide (HL.out hn)
          have hn' : (200 : Int) < (M.size : Int) := by omega
          clear hM HL HG hcl hn
          go_wp2
          go_ret2
          exact ⟨ret_se (by rw [H.out.1]) H.out.2.symm, b7⟩
        · have H := hide (HG.out hn)
          have hn' : ¬ (200 : Int) < (M.size : Int) := by omega
          clear hM HL HG hcl hn
          go_wp2
          go_ret2
          exact ⟨ret_se (by rw [H.out.1]; exact HM.out) H.out.2.symm, b7⟩

set_option maxRecDepth 20000 in
theorem announce_outer (s : ByteArray) (v : Value) (l : List (Int × Int)) (a0 : Option Addr) (c0 : Nat) (w : World) (hs : s.size ≤ 1048576) (hl : l.length ≤ 1048576) (hv : v = .slice a0 l.length c0) (hr : RowAt w v l.length 2 (pfCells l)) :
    Calls Try.prog 17 #[.string s, v] w fun e w' => e = .returned (.tuple #[.string ⟨(annM s l).toArray⟩, .int .i64 (annE s l)]) ∧ Below w.heap.size w w' := by
  subst hv
  have hcall := announce_any s _ l a0 c0 w hs hl rfl hr
  go_enter Try.func17, Try.ntmps17
  go_wp2_with (go_at_call 41; refine hcall.mono ?_; rintro e w2 ⟨rfl, hb⟩)
  go_ret2
  exact ⟨rfl, hb⟩

end Go.Proofs.Ytjjakgmjoplhoaa
