/-
  The sum of 32 bits, bit by bit, as plain numbers; a byte that is changed changes it.
-/
import Derived.Test.YteoacdkgicfomaaBeMath
namespace Go.Proofs.Yteoacdkgicfomaa
open Go.RowKit
open Rl

/-- one bit. -/
def stepC (c : Nat) : Nat := if c % 2 = 1 then c / 2 ^^^ 3988292384 else c / 2
def itC : Nat → Nat → Nat
  | 0, c => c
  | k + 1, c => stepC (itC k c)
def byteC (c b : Nat) : Nat := itC 8 (c ^^^ b)
def crcTo (c : Nat) (l : List UInt8) : Nat := l.foldl (fun c b => byteC c b.toNat) c
def crcAll (l : List UInt8) : Nat := crcTo 4294967295 l
def crc (l : List UInt8) : Nat := 4294967295 - crcAll l

theorem xor_lt {a b : Nat} (ha : a < 4294967296) (hb : b < 4294967296) : a ^^^ b < 4294967296 := Nat.xor_lt_two_pow (n := 32) ha hb

theorem stepC_lt {c : Nat} (h : c < 4294967296) : stepC c < 4294967296 := by
  unfold stepC
  split
  · exact xor_lt (by omega) (by omega)
  · omega
theorem itC_lt {c : Nat} (h : c < 4294967296) : ∀ k, itC k c < 4294967296 := by
  intro k; induction k with
  | zero => exact h
  | succ k ih => exact stepC_lt ih
theorem byteC_lt {c b : Nat} (h : c < 4294967296) (hb : b < 256) : byteC c b < 4294967296 := itC_lt (xor_lt h (by omega)) 8
theorem crcTo_lt (l : List UInt8) : ∀ c, c < 4294967296 → crcTo c l < 4294967296 := by
  induction l with
  | nil => intro c h; exact h
  | cons b l ih => intro c h; exact ih _ (byteC_lt h b.toNat_lt)
theorem crcAll_lt (l : List UInt8) : crcAll l < 4294967296 := crcTo_lt l _ (by omega)
theorem crc_lt (l : List UInt8) : crc l < 4294967296 := by unfold crc; omega

theorem crcAll_snoc (l : List UInt8) (b : UInt8) : crcAll (l ++ [b]) = byteC (crcAll l) b.toNat := by
  unfold crcAll crcTo; rw [List.foldl_append]; rfl

theorem crcAll_take (s : ByteArray) (k : Nat) (h : k < s.size) : crcAll (s.data.toList.take (k + 1)) = byteC (crcAll (s.data.toList.take k)) s[k].toNat := by
  rw [List.take_succ_eq_append_getElem (by simpa using h), crcAll_snoc]; rfl

/-! the way that looks at each bit of the byte. -/

def bitC (c b k : Nat) : Nat := itC k (c ^^^ b) ^^^ b / 2 ^ k

theorem xor_self_r (a b : Nat) : a ^^^ b ^^^ b = a := by rw [Nat.xor_assoc, Nat.xor_self, Nat.xor_zero]

theorem bitC_zero (c b : Nat) : bitC c b 0 = c := by
  unfold bitC itC; rw [Nat.pow_zero, Nat.div_one, xor_self_r]

theorem bitC_lt {c b : Nat} (h : c < 4294967296) (hb : b < 256) (k : Nat) : bitC c b k < 4294967296 :=
  xor_lt (itC_lt (xor_lt h (by omega)) k) (Nat.lt_of_le_of_lt (Nat.div_le_self _ _) (by omega))

theorem bitC_last (c b : Nat) (hb : b < 256) : bitC c b 8 = byteC c b := by
  unfold bitC byteC
  rw [Nat.div_eq_of_lt (by omega), Nat.xor_zero]

theorem xor_two (x z : Nat) : (x ^^^ z) % 2 = (x % 2 + z % 2) % 2 := by
  have h := (Nat.xor_mod_two_eq_one : (x ^^^ z) % 2 = 1 ↔ _)
  omega

theorem xor_half (x z : Nat) : (x ^^^ z) / 2 = x / 2 ^^^ z / 2 := Nat.xor_div_two

theorem bitC_step (c b k : Nat) : bitC c b (k + 1) = if b / 2 ^ k % 2 ≠ bitC c b k % 2 then bitC c b k / 2 ^^^ 3988292384 else bitC c b k / 2 := by
  have e : b / 2 ^ (k + 1) = b / 2 ^ k / 2 := by rw [Nat.pow_succ, Nat.div_div_eq_div_mul]
  unfold bitC
  rw [e, show itC (k + 1) (c ^^^ b) = stepC (itC k (c ^^^ b)) from rfl]
  generalize itC k (c ^^^ b) = x
  generalize b / 2 ^ k = z
  have h2 := xor_two x z
  rw [xor_half]
  unfold stepC
  by_cases hx : x % 2 = 1
  · rw [if_pos hx, if_pos (by omega), Nat.xor_assoc, Nat.xor_comm 3988292384, ← Nat.xor_assoc]
  · rw [if_neg hx, if_neg (by omega)]

/-! the way that masks. -/

theorem mask_one (c : Nat) : c / 2 ^^^ (if c % 2 = 1 then 3988292384 else 0) = stepC c := by
  unfold stepC
  by_cases h : c % 2 = 1
  · rw [if_pos h, if_pos h]
  · rw [if_neg h, if_neg h, Nat.xor_zero]

/-! other bytes, other sums. -/

theorem xor_inj {a b c : Nat} (h : a ^^^ c = b ^^^ c) : a = b := by
  have := congrArg (· ^^^ c) h
  simpa [xor_self_r] using this

theorem high_step {x y : Nat} (hx : x < 2147483648) : (x ^^^ 3988292384) ≠ y ∨ 2147483648 ≤ y := by
  by_cases hy : y < 2147483648
  · left
    intro e
    have h1 : x ^^^ y < 2147483648 := Nat.xor_lt_two_pow (n := 31) hx hy
    have h2 : x ^^^ y = 3988292384 := by
      rw [← e, ← Nat.xor_assoc, Nat.xor_self, Nat.zero_xor]
    omega
  · right; omega

theorem stepC_inj {c d : Nat} (hc : c < 4294967296) (hd : d < 4294967296) (h : stepC c = stepC d) : c = d := by
  unfold stepC at h
  by_cases h1 : c % 2 = 1
  · by_cases h2 : d % 2 = 1
    · rw [if_pos h1, if_pos h2] at h
      have := xor_inj h
      omega
    · rw [if_pos h1, if_neg h2] at h
      rcases high_step (x := c / 2) (y := d / 2) (by omega) with h3 | h3
      · exact absurd h h3
      · omega
  · by_cases h2 : d % 2 = 1
    · rw [if_neg h1, if_pos h2] at h
      rcases high_step (x := d / 2) (y := c / 2) (by omega) with h3 | h3
      · exact absurd h.symm h3
      · omega
    · rw [if_neg h1, if_neg h2] at h
      omega

theorem itC_inj {c d : Nat} (hc : c < 4294967296) (hd : d < 4294967296) : ∀ k, itC k c = itC k d → c = d := by
  intro k; induction k with
  | zero => intro h; exact h
  | succ k ih => intro h; exact ih (stepC_inj (itC_lt hc k) (itC_lt hd k) h)

theorem byteC_inj {c d b : Nat} (hc : c < 4294967296) (hd : d < 4294967296) (hb : b < 256) (h : byteC c b = byteC d b) : c = d :=
  xor_inj (itC_inj (xor_lt hc (by omega)) (xor_lt hd (by omega)) 8 h)

theorem byteC_other {c a b : Nat} (hc : c < 4294967296) (ha : a < 256) (hb : b < 256) (h : byteC c a = byteC c b) : a = b := by
  have := itC_inj (xor_lt hc (by omega)) (xor_lt hc (by omega)) 8 h
  rw [Nat.xor_comm c a, Nat.xor_comm c b] at this
  exact xor_inj this

theorem crcTo_inj (l : List UInt8) : ∀ c d, c < 4294967296 → d < 4294967296 → crcTo c l = crcTo d l → c = d := by
  induction l with
  | nil => intro c d _ _ h; exact h
  | cons b l ih =>
    intro c d hc hd h
    exact byteC_inj hc hd b.toNat_lt (ih _ _ (byteC_lt hc b.toNat_lt) (byteC_lt hd b.toNat_lt) h)

/-- one byte changed. -/
theorem crc_changed (p q : List UInt8) (a b : UInt8) (h : a ≠ b) : crc (p ++ a :: q) ≠ crc (p ++ b :: q) := by
  intro e
  have h1 := crcAll_lt (p ++ a :: q)
  have h2 := crcAll_lt (p ++ b :: q)
  have e2 : crcAll (p ++ a :: q) = crcAll (p ++ b :: q) := by unfold crc at e; omega
  have cut : ∀ x : UInt8, crcAll (p ++ x :: q) = crcTo (byteC (crcAll p) x.toNat) q := by
    intro x; unfold crcAll crcTo; rw [List.foldl_append]; rfl
  rw [cut, cut] at e2
  have h3 := crcTo_inj q _ _ (byteC_lt (crcAll_lt p) a.toNat_lt) (byteC_lt (crcAll_lt p) b.toNat_lt) e2
  exact h (UInt8.toNat.inj (byteC_other (crcAll_lt p) a.toNat_lt b.toNat_lt h3))

end Go.Proofs.Yteoacdkgicfomaa
