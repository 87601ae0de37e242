/-
  Prefixes read out of bytes: the list that both readers answer.
-/
import Derived.Test.YteoacdkgicfomaaPfxMath
import Derived.Test.YteoacdkgicfomaaAttrMath
namespace Go.Proofs.Yteoacdkgicfomaa
open Go.RowKit
open Rl

/-- the length that begins s, in bits. -/
def rdN (s : ByteArray) : Nat := at8 s.data.toList 0

/-- the number behind it, of as many bytes as that needs. -/
def rdNum (s : ByteArray) : Nat := (num ((s.extract 1 (1 + many (rdN s))).data.toList)).toNat

/-- the address, ahead of the cut to its first bits. -/
def rdA (s : ByteArray) : Nat := rdNum s * 256 ^ (4 - many (rdN s))

def rdBad (s : ByteArray) : Prop := 32 < rdN s ∨ s.size < 1 + many (rdN s)
instance (s : ByteArray) : Decidable (rdBad s) := by unfold rdBad; infer_instance

def rdHead (s : ByteArray) : Int × Int := ((rdA s : Int) - (rdA s : Int) % gap (rdN s), (rdN s : Int))
def rdTail (s : ByteArray) : ByteArray := s.extract (1 + many (rdN s)) s.size

theorem rdTail_size (s : ByteArray) : (rdTail s).size = s.size - (1 + many (rdN s)) := by
  unfold rdTail; rw [ByteArray.size_extract]; omega

theorem rdN_lt (s : ByteArray) : rdN s < 256 := at8_lt _ 0

theorem rdNum_cast (s : ByteArray) : (rdNum s : Int) = num ((s.extract 1 (1 + many (rdN s))).data.toList) := by
  unfold rdNum; have := num_nonneg ((s.extract 1 (1 + many (rdN s))).data.toList); omega

theorem rdNum_lt (s : ByteArray) : rdNum s < 256 ^ many (rdN s) := by
  have h := num_lt (many (rdN s)) ((s.extract 1 (1 + many (rdN s))).data.toList) (by rw [len_data, ByteArray.size_extract]; omega)
  have := rdNum_cast s
  rw [← this] at h
  have e : ((256 ^ many (rdN s) : Nat) : Int) = (256 : Int) ^ many (rdN s) := Int.natCast_pow 256 _
  rw [← e] at h
  exact Int.ofNat_lt.1 h

theorem rdA_le (s : ByteArray) (h : rdN s ≤ 32) : rdA s ≤ 4294967295 := by
  have h1 := rdNum_lt s
  have hm := many_le _ h
  unfold rdA
  generalize rdNum s = x at *
  generalize many (rdN s) = m at *
  have e : m = 0 ∨ m = 1 ∨ m = 2 ∨ m = 3 ∨ m = 4 := by omega
  rcases e with rfl | rfl | rfl | rfl | rfl <;> simp at h1 ⊢ <;> omega

/-- all prefixes of s; none: it ends too early, or a length is too great. -/
def rdAll (s : ByteArray) : Option (List (Int × Int)) :=
  if s.size = 0 then some []
  else if rdBad s then none
  else (rdAll (rdTail s)).map (rdHead s :: ·)
termination_by s.size
decreasing_by rw [rdTail_size]; omega

theorem rdAll_end (s : ByteArray) (h : s.size = 0) : rdAll s = some [] := by rw [rdAll, if_pos h]
theorem rdAll_bad (s : ByteArray) (h : s.size ≠ 0) (hb : rdBad s) : rdAll s = none := by rw [rdAll, if_neg h, if_pos hb]
theorem rdAll_step (s : ByteArray) (h : s.size ≠ 0) (hb : ¬ rdBad s) : rdAll s = (rdAll (rdTail s)).map (rdHead s :: ·) := by rw [rdAll, if_neg h, if_neg hb]

/-- what a reader has behind it: the list l is read of t, s is left. -/
def rdMid (t : ByteArray) (l : List (Int × Int)) (s : ByteArray) : Prop := rdAll t = (rdAll s).map (l ++ ·)

theorem rdMid_start (t : ByteArray) : rdMid t [] t := by
  unfold rdMid; cases rdAll t <;> simp

theorem rdMid_step (t : ByteArray) (l : List (Int × Int)) (s : ByteArray) (h : s.size ≠ 0) (hb : ¬ rdBad s) (hm : rdMid t l s) : rdMid t (l ++ [rdHead s]) (rdTail s) := by
  unfold rdMid at *
  rw [hm, rdAll_step s h hb]
  cases rdAll (rdTail s) <;> simp

theorem rdMid_end (t : ByteArray) (l : List (Int × Int)) (s : ByteArray) (h : s.size = 0) (hm : rdMid t l s) : rdAll t = some l := by
  unfold rdMid at hm
  rw [hm, rdAll_end s h]; simp

theorem rdMid_bad (t : ByteArray) (l : List (Int × Int)) (s : ByteArray) (h : s.size ≠ 0) (hb : rdBad s) (hm : rdMid t l s) : rdAll t = none := by
  unfold rdMid at hm
  rw [hm, rdAll_bad s h hb]; rfl

end Go.Proofs.Yteoacdkgicfomaa
