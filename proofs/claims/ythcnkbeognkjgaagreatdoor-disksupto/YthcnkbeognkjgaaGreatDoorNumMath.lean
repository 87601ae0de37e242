/-
  Plain arithmetic of numbers in bytes: what the two readers and the two writers of numbers answer. Nothing of the program is named here.
-/
import Derived.WalkKit
import Derived.Laws.BitsLemmas
namespace Go.Proofs.YthcnkbeognkjgaaGreatDoor
open Go.RowKit
namespace Rl

theorem add_head (b j : Nat) : (⟨b, 0, none⟩ : Addr).add j = ⟨b, j, none⟩ := by
  unfold Addr.add; split <;> simp_all

/-- the length of a text. -/
def strLen : Value → Nat
  | .string t => t.size
  | _ => 0

theorem strLen_string (t : ByteArray) : strLen (.string t) = t.size := rfl

theorem hide {p : Prop} (h : p) : Hid p := h

/-- bytes as a number, the greatest first. -/
def num (l : List UInt8) : Int := l.foldl (fun n c => 256 * n + (c.toNat : Int)) 0

theorem num_nil : num [] = 0 := rfl

theorem num_snoc (l : List UInt8) (c : UInt8) : num (l ++ [c]) = 256 * num l + (c.toNat : Int) := by
  simp [num]

theorem num_nonneg : ∀ (l : List UInt8), 0 ≤ num l := by
  intro l
  suffices h : ∀ (l : List UInt8) (a : Int), 0 ≤ a → 0 ≤ l.foldl (fun n c => 256 * n + (c.toNat : Int)) a from h l 0 (by omega)
  intro l
  induction l with
  | nil => intro a h; simpa using h
  | cons c l ih => intro a h; simp only [List.foldl_cons]; exact ih _ (by omega)

theorem num_take_succ (s : ByteArray) (k : Nat) (h : k < s.size) :
    num (s.data.toList.take (k + 1)) = 256 * num (s.data.toList.take k) + (s[k].toNat : Int) := by
  rw [List.take_succ_eq_append_getElem (by simpa using h), num_snoc]; rfl

theorem num_lt : ∀ (k : Nat) (l : List UInt8), l.length ≤ k → num l < 256 ^ k := by
  intro k
  induction k with
  | zero =>
    intro l h
    have e : l = [] := List.eq_nil_of_length_eq_zero (by omega)
    subst e; simp [num]
  | succ k ih =>
    intro l h
    rcases List.eq_nil_or_concat l with rfl | ⟨m, c, rfl⟩
    · simp only [num_nil]; exact Int.pow_pos (by omega)
    · rw [List.concat_eq_append, num_snoc]
      have hm : m.length ≤ k := by simp at h; omega
      have h1 := ih m hm
      have h2 : (c.toNat : Int) < 256 := by have := c.toNat_lt; omega
      rw [Int.pow_succ]; omega

theorem num_bound (s : ByteArray) (k : Nat) (hk : k ≤ 7) : 0 ≤ num (s.data.toList.take k) ∧ num (s.data.toList.take k) < 72057594037927936 := by
  refine ⟨num_nonneg _, ?_⟩
  have h := num_lt 7 (s.data.toList.take k) (by rw [List.length_take]; omega)
  have e : (256 : Int) ^ 7 = 72057594037927936 := by decide
  omega

theorem num_bound6 (s : ByteArray) (k : Nat) (hk : k ≤ 6) : 0 ≤ num (s.data.toList.take k) ∧ num (s.data.toList.take k) < 281474976710656 := by
  refine ⟨num_nonneg _, ?_⟩
  have h := num_lt 6 (s.data.toList.take k) (by rw [List.length_take]; omega)
  have e : (256 : Int) ^ 6 = 281474976710656 := by decide
  omega

theorem byte_lt (c : UInt8) : 0 ≤ (c.toNat : Int) ∧ (c.toNat : Int) < 256 := by
  have := c.toNat_lt; omega

theorem wrap64_byte (c : UInt8) : wrap64 (c.toNat : Int) = (c.toNat : Int) := by
  have := byte_lt c
  unfold wrap64; omega

theorem wrap64_in' (n : Int) (h0 : -9223372036854775808 ≤ n) (h1 : n ≤ 9223372036854775807) : wrap64 n = n := by unfold wrap64; omega

/-- a number times 256 and a byte share no bit. -/
theorem or_byte (a c : Int) (ha : 0 ≤ a) (ha' : a < 36028797018963968) (hc : 0 ≤ c) (hc' : c < 256) : bits .or .i64 (a * 256) c = 256 * a + c := by
  have h := bits_join .i64 63 (by decide) (fun n h0 h1 => by rw [IntKind.wrap_i64]; have e : (2 : Int) ^ 63 = 9223372036854775808 := by decide
                                                             omega) 8 (a * 256) c (by omega) (by have e : (2 : Int) ^ 8 = 256 := by decide
                                                                                                 omega) (by have e : (2 : Int) ^ 63 = 9223372036854775808 := by decide
                                                                                                            omega) hc (by have e : (2 : Int) ^ 8 = 256 := by decide
                                                                                                                          omega) (by have e : (2 : Int) ^ 63 = 9223372036854775808 := by decide
                                                                                                                                     omega)
  rw [h]; omega

end Rl
end Go.Proofs.YthcnkbeognkjgaaGreatDoor
