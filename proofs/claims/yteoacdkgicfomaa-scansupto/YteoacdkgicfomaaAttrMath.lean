/-
  Attributes: the table of known types, and canonical texts, as plain functions of the bytes.
-/
import Derived.Test.YteoacdkgicfomaaPathMath
import Derived.Test.YteoacdkgicfomaaBeMath
namespace Go.Proofs.Yteoacdkgicfomaa
open Go.RowKit
namespace Rl

/-- the flags of a known type; -1: it is unknown. -/
def flagsI (k : Int) : Int :=
  if k = 1 ∨ k = 2 ∨ k = 3 ∨ k = 6 then 64 else if k = 4 then 128 else if k = 7 ∨ k = 8 then 192 else -1

def knownB (k : Int) : Bool := decide (k = 1 ∨ k = 2 ∨ k = 3 ∨ k = 4 ∨ k = 6 ∨ k = 7 ∨ k = 8)

theorem known_cases (k : Int) (h : knownB k = true) : k = 1 ∨ k = 2 ∨ k = 3 ∨ k = 4 ∨ k = 6 ∨ k = 7 ∨ k = 8 := of_decide_eq_true h
theorem unknown_cases (k : Int) (h : knownB k = false) : ¬ (k = 1 ∨ k = 2 ∨ k = 3 ∨ k = 4 ∨ k = 6 ∨ k = 7 ∨ k = 8) := of_decide_eq_false h
theorem flagsI_unknown (k : Int) (h : knownB k = false) : flagsI k = -1 := by
  have := unknown_cases k h
  unfold flagsI; rw [if_neg (by omega), if_neg (by omega), if_neg (by omega)]
theorem flagsI_known (k : Int) (h : knownB k = true) : flagsI k = 64 ∨ flagsI k = 128 ∨ flagsI k = 192 := by
  rcases known_cases k h with rfl | rfl | rfl | rfl | rfl | rfl | rfl <;> simp [flagsI]
theorem flagsI_lt (k : Int) : (flagsI k < 0) ↔ knownB k = false := by
  cases h : knownB k with
  | false => simp [flagsI_unknown k h]
  | true => rcases flagsI_known k h with e | e | e <;> simp [e]

/-- is v a value of the known type k? -/
def rightB (k : Int) (v : ByteArray) : Bool :=
  if k = 1 then decide (v.size = 1 ∧ at8 v.data.toList 0 ≤ 2)
  else if k = 2 then pathB v.data.toList
  else if k = 3 ∨ k = 4 then decide (v.size = 4)
  else if k = 6 then decide (v.size = 0)
  else if k = 7 then decide (v.size = 8)
  else decide (4 ≤ v.size ∧ v.size % 4 = 0)

/-- an attribute. -/
structure At where
  flags : Nat
  kind : Nat
  val : ByteArray

/-- may that attribute stand in a canonical text? -/
def atOk (f k : Int) (v : ByteArray) : Bool :=
  if knownB k = true then decide (f = flagsI k) && rightB k v else decide (f = 192 ∨ f = 224)

/-- the length of a value that is told by z bytes behind the first two. -/
def lenZ (z : Nat) (t : ByteArray) : Nat := (num ((t.extract 2 (2 + z)).data.toList)).toNat

/-- a whole attribute begins t. -/
def wholeZ (z : Nat) (t : ByteArray) : Bool := decide (2 + z ≤ t.size ∧ 2 + z + lenZ z t ≤ t.size)

theorem lenZ_cast (z : Nat) (t : ByteArray) : (lenZ z t : Int) = num ((t.extract 2 (2 + z)).data.toList) := by
  unfold lenZ; have := num_nonneg ((t.extract 2 (2 + z)).data.toList); omega

theorem lenZ_lt (z : Nat) (t : ByteArray) (hz : z ≤ 2) : lenZ z t < 65536 := by
  have h := num_lt 2 ((t.extract 2 (2 + z)).data.toList) (by rw [len_data, ByteArray.size_extract]; omega)
  have e : (256 : Int) ^ 2 = 65536 := by decide
  have := lenZ_cast z t
  omega

def headZ (z : Nat) (t : ByteArray) : At := ⟨at8 t.data.toList 0, at8 t.data.toList 1, t.extract (2 + z) (2 + z + lenZ z t)⟩
def restZ (z : Nat) (t : ByteArray) : ByteArray := t.extract (2 + z + lenZ z t) t.size

/-- the length of a value that is told by two bytes behind the first two. -/
def lenC (t : ByteArray) : Nat := lenZ 2 t

def headC (t : ByteArray) : At := headZ 2 t
def restC (t : ByteArray) : ByteArray := restZ 2 t

def canOk (t : ByteArray) (last : Int) : Bool :=
  wholeZ 2 t && decide (last < ((headC t).kind : Int)) && atOk (headC t).flags (headC t).kind (headC t).val

def canF : Nat → ByteArray → Int → Option (List At)
  | 0, _, _ => none
  | f + 1, t, last => if t.size = 0 then some [] else if canOk t last = true then (canF f (restC t) (headC t).kind).map (headC t :: ·) else none

theorem canF_more : ∀ (f g : Nat) (t : ByteArray) (last : Int), t.size < f → t.size < g → canF f t last = canF g t last := by
  intro f; induction f with
  | zero => intro g t last h; omega
  | succ f ih =>
    intro g t last h h2
    cases g with
    | zero => omega
    | succ g =>
      simp only [canF]
      by_cases e : t.size = 0
      · rw [if_pos e, if_pos e]
      · rw [if_neg e, if_neg e]
        have hs : (restC t).size < t.size := by unfold restC restZ; rw [ByteArray.size_extract]; omega
        rw [ih g _ _ (by omega) (by omega)]

def canR (t : ByteArray) (last : Int) : Option (List At) := canF (t.size + 1) t last

theorem canR_nil (t : ByteArray) (last : Int) (h : t.size = 0) : canR t last = some [] := by
  unfold canR canF; rw [if_pos h]

theorem canR_bad (t : ByteArray) (last : Int) (h : ¬ t.size = 0) (o : canOk t last = false) : canR t last = none := by
  unfold canR canF; rw [if_neg h, if_neg (by simp [o])]

theorem canR_step (t : ByteArray) (last : Int) (o : canOk t last = true) : canR t last = (canR (restC t) (headC t).kind).map (headC t :: ·) := by
  have h4 : 4 ≤ t.size := by
    unfold canOk at o; rw [Bool.and_eq_true, Bool.and_eq_true] at o; have := (of_decide_eq_true o.1.1).1; omega
  have hs : (restC t).size < t.size := by unfold restC restZ; rw [ByteArray.size_extract]; omega
  unfold canR
  rw [canF, if_neg (by omega), if_pos o, canF_more _ ((restC t).size + 1) _ _ (by omega) (by omega)]

/-- how many of the needed types are in a list. -/
def needN (l : List At) : Nat := (l.filter fun a => decide (1 ≤ a.kind ∧ a.kind ≤ 3)).length

theorem needN_le (l : List At) : needN l ≤ l.length := List.length_filter_le _ _

theorem needN_snoc (l : List At) (a : At) : needN (l ++ [a]) = needN l + if 1 ≤ a.kind ∧ a.kind ≤ 3 then 1 else 0 := by
  unfold needN; rw [List.filter_append]
  by_cases h : 1 ≤ a.kind ∧ a.kind ≤ 3 <;> simp [h]

/-- is s a canonical text? its attributes. -/
def canB (s : ByteArray) : Bool := match canR s (-1) with
  | some l => needN l == 3
  | none => false
def canL (s : ByteArray) : List At := (canR s (-1)).getD []

theorem canB_none {s : ByteArray} (h : canR s (-1) = none) : canB s = false := by unfold canB; rw [h]
theorem canB_some {s : ByteArray} {l : List At} (h : canR s (-1) = some l) : canB s = (needN l == 3) := by unfold canB; rw [h]
theorem canL_some {s : ByteArray} {l : List At} (h : canR s (-1) = some l) : canL s = l := by unfold canL; rw [h]; rfl

/-- the cells of a row of attributes. -/
def atCells (l : List At) : List Value := l.flatMap fun a => [.int .i64 (a.flags : Int), .int .i64 (a.kind : Int), .string a.val]

theorem atCells_length (l : List At) : (atCells l).length = l.length * 3 := by
  induction l with
  | nil => rfl
  | cons a l ih => simp only [atCells, List.flatMap_cons, List.length_append, List.length_cons, List.length_nil] at *; omega

theorem atCells_snoc (l : List At) (a : At) : atCells (l ++ [a]) = atCells l ++ [.int .i64 (a.flags : Int), .int .i64 (a.kind : Int), .string a.val] := by
  simp [atCells]

theorem atCells_get : ∀ (l : List At) (j : Nat) (h : j < l.length), (atCells l)[j * 3]? = some (.int .i64 (l[j].flags : Int)) ∧ (atCells l)[j * 3 + 1]? = some (.int .i64 (l[j].kind : Int)) ∧ (atCells l)[j * 3 + 2]? = some (.string l[j].val) := by
  intro l; induction l with
  | nil => intro j h; simp at h
  | cons a l ih =>
    intro j h
    cases j with
    | zero => simp [atCells]
    | succ j =>
      have := ih j (by simpa using h)
      have e : atCells (a :: l) = .int .i64 (a.flags : Int) :: .int .i64 (a.kind : Int) :: .string a.val :: atCells l := rfl
      rw [e, show (j + 1) * 3 = j * 3 + 1 + 1 + 1 from by omega, show j * 3 + 1 + 1 + 1 + 2 = j * 3 + 2 + 1 + 1 + 1 from by omega]
      simpa using this

theorem needN_take (l : List At) (k : Nat) (h : k < l.length) : needN (l.take (k + 1)) = needN (l.take k) + if 1 ≤ l[k].kind ∧ l[k].kind ≤ 3 then 1 else 0 := by
  rw [List.take_succ_eq_append_getElem h, needN_snoc]

theorem needN_yes (l : List At) (f k : Nat) (v : ByteArray) (h : 1 ≤ k ∧ k ≤ 3) : Value.int .i64 ((needN l : Int) + 1) = Value.int .i64 (needN (l ++ [⟨f, k, v⟩]) : Int) := by
  rw [needN_snoc, if_pos h]; rfl
theorem needN_no (l : List At) (f k : Nat) (v : ByteArray) (h : ¬ (1 ≤ k ∧ k ≤ 3)) : Value.int .i64 (needN l : Int) = Value.int .i64 (needN (l ++ [⟨f, k, v⟩]) : Int) := by
  rw [needN_snoc, if_neg h]; rfl

end Rl
end Go.Proofs.Yteoacdkgicfomaa
