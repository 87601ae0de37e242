/-
  What a value of the second type is: segments, as plain lists.
-/
import Derived.Test.YteoacdkgicfomaaNumMath
import Derived.Lib.Strings
import Derived.Lib.IndexBytes
namespace Go.Proofs.Yteoacdkgicfomaa
open Go.RowKit
namespace Rl

/-- the i-th byte; 0, if there is none. -/
def at8 (l : List UInt8) (i : Nat) : Nat := (l.getD i 0).toNat

theorem at8_lt (l : List UInt8) (i : Nat) : at8 l i < 256 := (l.getD i 0).toNat_lt

theorem at8_bytes (s : ByteArray) (i : Nat) (h : i < s.size) : (s[i].toNat : Int) = (at8 s.data.toList i : Int) := by
  unfold at8
  have e : s.data.toList.getD i 0 = s[i] := by
    rw [List.getD_eq_getElem?_getD, List.getElem?_eq_getElem (by simpa using h)]; rfl
  rw [e]

/-- does a segment begin here, whole? -/
def segOk (l : List UInt8) : Bool := decide (2 ≤ l.length ∧ 1 ≤ at8 l 0 ∧ at8 l 0 ≤ 2 ∧ 1 ≤ at8 l 1 ∧ 2 + 4 * at8 l 1 ≤ l.length)

def pathF : Nat → List UInt8 → Bool
  | 0, _ => false
  | f + 1, l => if l = [] then true else if segOk l = true then pathF f (l.drop (2 + 4 * at8 l 1)) else false

theorem pathF_more : ∀ (f g : Nat) (l : List UInt8), l.length < f → l.length < g → pathF f l = pathF g l := by
  intro f; induction f with
  | zero => intro g l h; omega
  | succ f ih =>
    intro g l h h2
    cases g with
    | zero => omega
    | succ g =>
      simp only [pathF]
      by_cases e : l = []
      · simp [e]
      · rw [if_neg e, if_neg e]
        by_cases o : segOk l = true
        · rw [if_pos o, if_pos o]
          have : 2 ≤ l.length := by have := of_decide_eq_true o; omega
          exact ih g _ (by simp; omega) (by simp; omega)
        · rw [if_neg o, if_neg o]

def pathB (l : List UInt8) : Bool := pathF (l.length + 1) l

theorem pathB_nil : pathB [] = true := rfl

theorem pathB_bad (l : List UInt8) (h : l ≠ []) (o : segOk l = false) : pathB l = false := by
  unfold pathB pathF; rw [if_neg h, if_neg (by simp [o])]

theorem pathB_step (l : List UInt8) (o : segOk l = true) : pathB l = pathB (l.drop (2 + 4 * at8 l 1)) := by
  have h2 : 2 ≤ l.length := by have := of_decide_eq_true o; omega
  have h : l ≠ [] := by intro e; subst e; simp at h2
  unfold pathB
  rw [pathF, if_neg h, if_pos o]
  exact pathF_more _ _ _ (by simp; omega) (by simp)

theorem segOk_false {l : List UInt8} (h : l.length < 2 ∨ at8 l 0 < 1 ∨ 2 < at8 l 0 ∨ at8 l 1 < 1 ∨ l.length < 2 + 4 * at8 l 1) : segOk l = false := by
  unfold segOk; rw [decide_eq_false_iff_not]; omega

theorem segOk_true {l : List UInt8} (h : ¬ (l.length < 2 ∨ at8 l 0 < 1 ∨ 2 < at8 l 0 ∨ at8 l 1 < 1 ∨ l.length < 2 + 4 * at8 l 1)) : segOk l = true := by
  unfold segOk; rw [decide_eq_true_iff]; omega

theorem ne_nil_of_size (s : ByteArray) (h : 0 < s.size) : s.data.toList ≠ [] := by
  intro e
  have : s.data.toList.length = s.size := by simp
  rw [e] at this; simp at this; omega

theorem nil_of_size (s : ByteArray) (h : s.size = 0) : s.data.toList = [] := by
  apply List.eq_nil_of_length_eq_zero; simpa using h

theorem len_data (s : ByteArray) : s.data.toList.length = s.size := by simp

end Rl
end Go.Proofs.Yteoacdkgicfomaa
