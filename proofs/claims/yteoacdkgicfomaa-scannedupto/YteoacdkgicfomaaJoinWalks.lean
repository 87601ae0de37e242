/-
  Texts put together, walked: message.join, attribute.bytes, lengthSize.
-/
import Derived.Test.YteoacdkgicfomaaShelf
import Derived.Test.YteoacdkgicfomaaBeWalks
import Derived.Test.YteoacdkgicfomaaRowAt
import Derived.Test.YteoacdkgicfomaaAttrMath
import Derived.Test.YteoacdkgicfomaaAnnMath
import Derived.Test.YteoacdkgicfomaaStepLaws
import Derived.Lib.Join
import Derived.Deep.RegionHeld
import Derived.WalkSpells
import Derived.WalkLawsBesides
import Derived.Outline
namespace Go.Proofs.Yteoacdkgicfomaa
open Go.RowKit
open Rl

theorem ret_se {a b : ByteArray} {c d : Int} (h1 : a = b) (h2 : c = d) : Ending.returned (.tuple #[.string a, .int .i64 c]) = .returned (.tuple #[.string b, .int .i64 d]) := by rw [h1, h2]

/-- the cells of a row of texts. -/
def strs (xs : List ByteArray) : List Value := xs.map Value.string

/-- texts, one behind the other. -/
def flat (xs : List ByteArray) : List UInt8 := (xs.map (·.data.toList)).flatten

theorem join_empty (l : List (List UInt8)) : Lib.join l [] = l.flatten := by
  unfold Lib.join
  induction l with
  | nil => rfl
  | cons a l ih =>
    cases l with
    | nil => simp [List.intercalate]
    | cons b l => simp [List.intercalate, List.intersperse] at ih ⊢; exact ih

theorem strs_get (xs : List ByteArray) (j : Nat) (x : ByteArray) (h : xs[j]? = some x) : (strs xs)[j]? = some (.string x) := by
  simp [strs, h]

theorem join_any (v : Value) (xs : List ByteArray) (w : World) (hr : RowAt w v xs.length 1 (strs xs)) (hcap : ∀ a n c, v = .slice a n c → n ≤ c) (hN : xs.length ≤ 1073741824) (hlen : (flat xs).length ≤ 140737488355328) :
    Calls Try.prog 85 #[v] w fun e w' => e = .returned (.string ⟨(flat xs).toArray⟩) ∧ Below w.heap.size w w' := by
  rcases hr.2 with ⟨a, c, rfl, hn⟩ | ⟨b, o, cap, rfl, hn, hb, hc⟩
  · have hn0 : xs = [] := List.eq_nil_of_length_eq_zero hn
    subst hn0
    go_enter Try.func85, Try.ntmps85
    go_wp2_with (go_at_call 95; refine (Try.strings_Join_none _ _ _ _).mono ?_; rintro e w' ⟨rfl, hw⟩; rw [hw]; clear hw w')
    go_ret
    exact ⟨rfl, Below.refl _ _⟩
  · have hj := Try.strings_Join b o cap xs ⟨#[]⟩ w (fun j x hx => hc j _ (strs_get xs j x hx)) hb (by omega) (hcap _ _ _ rfl) (by rw [join_empty]; exact hlen)
    have e : (Lib.join (xs.map (·.data.toList)) (ByteArray.mk #[]).data.toList) = flat xs := join_empty _
    rw [e] at hj
    go_enter Try.func85, Try.ntmps85
    go_wp2_with (go_at_call 95; refine hj.mono ?_; rintro e w' ⟨rfl, hb2⟩)
    go_ret
    exact ⟨rfl, hb2⟩

theorem wrap_i64_in (n : Int) (h0 : 0 ≤ n) (h1 : n < 2 ^ 63) : IntKind.i64.wrap n = n := by
  rw [IntKind.wrap_i64]
  have e : (2 : Int) ^ 63 = 9223372036854775808 := by decide
  omega

theorem and16 (f : Nat) (h : f < 256) : bits .and .i64 (f : Int) 16 = ((f / 16 % 2 * 16 : Nat) : Int) := by
  have e : (2 : Nat) ^ 63 = 9223372036854775808 := by decide
  have hb := (bits_nat .i64 63 (by decide) wrap_i64_in f 16 (by omega) (by omega)).1
  rw [show (16 : Int) = ((16 : Nat) : Int) from rfl, hb]
  congr 1
  have h2 : ∀ x : Fin 256, x.val &&& 16 = x.val / 16 % 2 * 16 := by decide +kernel
  exact h2 ⟨f, h⟩

/-- how many bytes tell a value's length, the flags being these. -/
def lenSize (f : Nat) : Nat := if f / 16 % 2 = 1 then 2 else 1

theorem lengthSize_any (f : Nat) (w : World) (h : f < 256) :
    Calls Try.prog 75 #[.int .i64 f] w fun e w' => e = .returned (.int .i64 (lenSize f : Int)) ∧ w' = w := by
  have ha := and16 f h
  by_cases h1 : f / 16 % 2 = 1
  · have e2 : lenSize f = 2 := by unfold lenSize; rw [if_pos h1]
    rw [h1] at ha
    rw [e2]
    clear h1 e2
    go_enter Try.func75, Try.ntmps75
    go_wp2
    go_ret
    exact ⟨rfl, rfl⟩
  · have e2 : lenSize f = 1 := by unfold lenSize; rw [if_neg h1]
    have h0 : f / 16 % 2 = 0 := by omega
    rw [h0] at ha
    rw [e2]
    clear h1 e2 h0
    go_enter Try.func75, Try.ntmps75
    go_wp2
    go_ret
    exact ⟨rfl, rfl⟩

theorem cap_of {A : Option Addr} {N C : Nat} (h : N ≤ C) : ∀ a n c, Value.slice A N C = .slice a n c → n ≤ c := by
  intro a n c e; cases e; exact h

theorem rowAt_new (w : World) (cs : Array Value) (T : TypeId) (n c : Nat) (h : cs.size = n) (hn : 0 < n) : RowAt (w.alloc (.cells cs T)) (.slice (some ⟨w.heap.size, 0, none⟩) n c) n 1 cs.toList := by
  refine ⟨by simp [h], .inr ⟨w.heap.size, 0, c, rfl, hn, by simp, fun j u hu => ?_⟩⟩
  have := cells_new w cs T j u hu
  rwa [add_head, ← Nat.zero_add j] at this

theorem flat_at (f k z : Nat) (v : ByteArray) : flat [⟨(be 1 f).toArray⟩, ⟨(be 1 k).toArray⟩, ⟨(be z v.size).toArray⟩, v] = atBytes f k z v := by
  simp [flat, atBytes]

theorem flat4 (f k z : Nat) (v : ByteArray) (hz : z ≤ 2) (hv : v.size ≤ 1048576) : (flat [⟨(be 1 f).toArray⟩, ⟨(be 1 k).toArray⟩, ⟨(be z v.size).toArray⟩, v]).length ≤ 140737488355328 := by
  rw [flat_at, atBytes_length]; omega

/-- a world that has grown since wx, and in which the block at n holds these three cells. -/
theorem keep3 {w wx w2 : World} {n : Nat} {a b c : Value} (hS : wx.cell? ⟨n, 0, none⟩ = some a ∧ wx.cell? ⟨n, 1, none⟩ = some b ∧ wx.cell? ⟨n, 2, none⟩ = some c ∧ n < wx.heap.size ∧ Below w.heap.size w wx) (hb : Below wx.heap.size wx w2) :
    w2.cell? ⟨n, 0, none⟩ = some a ∧ w2.cell? ⟨n, 1, none⟩ = some b ∧ w2.cell? ⟨n, 2, none⟩ = some c ∧ n < w2.heap.size ∧ Below w.heap.size w w2 := by
  obtain ⟨h0, h1, h2, h3, h4⟩ := hS
  exact ⟨(hb.cell (p := ⟨n, 0, none⟩) h3).trans h0, (hb.cell (p := ⟨n, 1, none⟩) h3).trans h1, (hb.cell (p := ⟨n, 2, none⟩) h3).trans h2, Nat.lt_of_lt_of_le h3 hb.size, later_below h4 hb h4.size⟩

set_option maxRecDepth 20000 in
set_option maxHeartbeats 4000000 in
theorem atBytes_any (f k z : Nat) (v : ByteArray) (w : World) (hf : f < 256) (hk : k < 256) (hz : z ≤ 2) (hv : v.size ≤ 1048576) :
    Calls Try.prog 84 #[.agg #[.int .i64 (f : Int), .int .i64 (k : Int), .string v], .int .i64 (z : Int)] w fun e w' => e = .returned (.string ⟨(atBytes f k z v).toArray⟩) ∧ Below w.heap.size w w' := by
  have h1 := fun w => write_any f 1 w (by omega) (by omega)
  have h2 := fun w => write_any k 1 w (by omega) (by omega)
  have h3 := fun w => write_any v.size z w (by omega) (by omega)
  go_enter Try.func84, Try.ntmps84
  go_wp2
  go_region_held (fun w' => w'.cell? ⟨w.heap.size, 0, none⟩ = some (.int .i64 (f : Int)) ∧ w'.cell? ⟨w.heap.size, 1, none⟩ = some (.int .i64 (k : Int)) ∧ w'.cell? ⟨w.heap.size, 2, none⟩ = some (.string v) ∧ w.heap.size < w'.heap.size ∧ Below w.heap.size w w') (first | (refine ⟨by simp, by simp, by simp, by simp, ((Below.refl _ _).alloc (Nat.le_refl _) _).drew⟩) | (exact keep3 (by assumption) (by assumption)) | (exact keep3 (by assumption) ((Below.refl _ _).alloc (Nat.le_refl _) _))) (first | (go_at_call_of 62 (f : Int); refine (h1 _).mono ?_; rintro e w2 ⟨rfl, hb2⟩) | (go_at_call_of 62 (k : Int); refine (h2 _).mono ?_; rintro e w2 ⟨rfl, hb2⟩) | (go_at_call_of 62 (v.size : Int); refine (h3 _).mono ?_; rintro e w2 ⟨rfl, hb2⟩) | (go_at_call 85; refine (join_any _ [⟨(be 1 f).toArray⟩, ⟨(be 1 k).toArray⟩, ⟨(be z v.size).toArray⟩, v] _ (rowAt_new _ _ _ 4 4 rfl (by omega)) (cap_of (Nat.le_refl _)) (by simp) (flat4 f k z v hz hv)).mono ?_; rintro e w2 ⟨rfl, hb2⟩))
  have hS := ‹w2.cell? _ = some _ ∧ w2.cell? _ = some _ ∧ w2.cell? _ = some _ ∧ w.heap.size < w2.heap.size ∧ Below w.heap.size w w2›
  go_wp2
  go_ret
  exact ⟨by rw [← flat_at]; rfl, hS.2.2.2.2⟩

end Go.Proofs.Yteoacdkgicfomaa
