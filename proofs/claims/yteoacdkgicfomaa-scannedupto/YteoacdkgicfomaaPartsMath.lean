/-
  An update's three parts: what begins a text behind the two bytes that tell its length.
-/
import Derived.Test.YteoacdkgicfomaaAttrMath
namespace Go.Proofs.Yteoacdkgicfomaa
open Go.RowKit
open Rl

/-- the number in the first two bytes. -/
def n2 (s : ByteArray) : Nat := (num ((s.extract 0 2).data.toList)).toNat

theorem n2_cast (s : ByteArray) : (n2 s : Int) = num ((s.extract 0 2).data.toList) := by
  unfold n2; have := num_nonneg ((s.extract 0 2).data.toList); omega

theorem n2_lt (s : ByteArray) : n2 s < 65536 := by
  have h := num_lt 2 ((s.extract 0 2).data.toList) (by rw [len_data, ByteArray.size_extract]; omega)
  have e : (256 : Int) ^ 2 = 65536 := by decide
  have := n2_cast s
  omega

/-- a whole part begins s. -/
def cutOk (s : ByteArray) : Bool := decide (2 ≤ s.size ∧ 2 + n2 s ≤ s.size)
def cutHead (s : ByteArray) : ByteArray := s.extract 2 (2 + n2 s)
def cutTail (s : ByteArray) : ByteArray := s.extract (2 + n2 s) s.size

theorem cutTail_size (s : ByteArray) : (cutTail s).size = s.size - (2 + n2 s) := by
  unfold cutTail; rw [ByteArray.size_extract]; omega

theorem cutTail_le (s : ByteArray) : (cutTail s).size ≤ s.size := by rw [cutTail_size]; omega

/-- the part behind, by the places of the whole. -/
theorem n2_tail (s : ByteArray) (h : 4 + n2 s ≤ s.size) : (n2 (cutTail s) : Int) = num ((s.extract (2 + n2 s) (4 + n2 s)).data.toList) := by
  rw [n2_cast, cutTail, ByteArray.extract_extract]
  have e : min (2 + n2 s + 2) s.size = 4 + n2 s := by omega
  rw [e]; rfl

theorem tailHead (s : ByteArray) (h : 4 + n2 s + n2 (cutTail s) ≤ s.size) : cutHead (cutTail s) = s.extract (4 + n2 s) (4 + n2 s + n2 (cutTail s)) := by
  unfold cutHead
  generalize n2 (cutTail s) = n at *
  unfold cutTail
  rw [ByteArray.extract_extract]
  have e : min (2 + n2 s + (2 + n)) s.size = 4 + n2 s + n := by omega
  have e1 : 2 + n2 s + 2 = 4 + n2 s := by omega
  rw [e, e1]

theorem tailTail (s : ByteArray) : cutTail (cutTail s) = s.extract (4 + n2 s + n2 (cutTail s)) s.size := by
  have hz := cutTail_size s
  rw [cutTail, hz]
  generalize n2 (cutTail s) = n at *
  unfold cutTail
  rw [ByteArray.extract_extract]
  have e : min (2 + n2 s + (s.size - (2 + n2 s))) s.size = s.size := by omega
  have e1 : 2 + n2 s + (2 + n) = 4 + n2 s + n := by omega
  rw [e, e1]

/-- both parts are whole. -/
def partsOk (s : ByteArray) : Bool := cutOk s && cutOk (cutTail s)

theorem partsOk_iff (s : ByteArray) : partsOk s = true ↔ 4 + n2 s ≤ s.size ∧ 4 + n2 s + n2 (cutTail s) ≤ s.size := by
  unfold partsOk cutOk
  rw [Bool.and_eq_true, decide_eq_true_iff, decide_eq_true_iff, cutTail_size]
  omega

end Go.Proofs.Yteoacdkgicfomaa
