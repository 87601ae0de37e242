/-
  A number as so many bytes, the greatest first: plain lists.
-/
import Derived.Test.YthcnkbeognkjgaaGreatDoorNumMath
namespace Go.Proofs.YthcnkbeognkjgaaGreatDoor
open Go.RowKit
namespace Rl

/-- the lowest k bytes of n, the greatest first. -/
def be : Nat → Nat → List UInt8
  | 0, _ => []
  | k + 1, n => UInt8.ofNat (n / 256 ^ k % 256) :: be k n

theorem be_length : ∀ (k n : Nat), (be k n).length = k := by
  intro k; induction k with
  | zero => intro n; rfl
  | succ k ih => intro n; simp [be, ih]

/-- the cells of a row of bytes. -/
def u8s (l : List UInt8) : List Value := l.map fun b => Value.int .u8 (b.toNat : Int)

theorem u8s_length (l : List UInt8) : (u8s l).length = l.length := by simp [u8s]
theorem u8s_append (a b : List UInt8) : u8s (a ++ b) = u8s a ++ u8s b := by simp [u8s]
theorem u8s_get (l : List UInt8) (j : Nat) (h : j < l.length) : (u8s l)[j]? = some (.int .u8 (l[j].toNat : Int)) := by
  simp [u8s, List.getElem?_eq_getElem h]

/-- what the row holds when the last m - j bytes are written. -/
def beRow (m n j : Nat) : List UInt8 := List.replicate j 0 ++ be (m - j) n

theorem beRow_length (m n j : Nat) (h : j ≤ m) : (beRow m n j).length = m := by simp [beRow, be_length]; omega

theorem beRow_zero (m n : Nat) : beRow m n 0 = be m n := by simp [beRow]

theorem beRow_all (m n : Nat) : beRow m n m = List.replicate m 0 := by simp [beRow, be]

theorem beRow_step (m n j : Nat) (h : j < m) : (beRow m n (j + 1)).set j (UInt8.ofNat (n / 256 ^ (m - (j + 1)) % 256)) = beRow m n j := by
  have e : m - j = (m - (j + 1)) + 1 := by omega
  unfold beRow
  rw [e, List.set_append]
  simp only [List.length_replicate, Nat.lt_succ_self, if_true]
  rw [List.replicate_succ', List.set_append]
  simp [be]

theorem set_u8s (l : List UInt8) (j : Nat) (b : UInt8) (v : Int) (hv : v = (b.toNat : Int)) : (u8s l).set j (.int .u8 v) = u8s (l.set j b) := by
  subst hv; simp [u8s, List.map_set]

theorem div_step (n m j : Nat) (h : j < m) : n / 256 ^ (m - (j + 1)) / 256 = n / 256 ^ (m - j) := by
  have e : m - j = (m - (j + 1)) + 1 := by omega
  rw [e, Nat.pow_succ, Nat.div_div_eq_div_mul]

theorem div_le' (n k : Nat) : n / 256 ^ k ≤ n := Nat.div_le_self _ _

theorem toNat_mod (x : Nat) : ((UInt8.ofNat (x % 256)).toNat : Int) = (x : Int) % 256 := by
  rw [UInt8.toNat_ofNat']; omega

end Rl
end Go.Proofs.YthcnkbeognkjgaaGreatDoor
