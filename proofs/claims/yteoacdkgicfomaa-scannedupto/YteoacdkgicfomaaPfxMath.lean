/-
  Prefixes: which are right, and their bytes; plain arithmetic.
-/
import Derived.Test.YteoacdkgicfomaaBeMath
import Derived.Test.YteoacdkgicfomaaPathMath
namespace Go.Proofs.Yteoacdkgicfomaa
open Go.RowKit
namespace Rl

/-- 2 to the number of bits behind the first n of 32. -/
def gap (n : Int) : Int := 2 ^ (32 - n).toNat

/-- is a, of which n bits matter, a prefix? -/
def pfxOk (a n : Int) : Bool := decide (0 ≤ n ∧ n ≤ 32 ∧ 0 ≤ a ∧ a ≤ 4294967295 ∧ a % gap n = 0)

theorem gap_pos (n : Int) : 0 < gap n := Int.pow_pos (by omega)

theorem gap_le (n : Int) (h0 : 0 ≤ n) : gap n ≤ 4294967296 := by
  unfold gap
  have h : (32 - n).toNat ≤ 32 := by omega
  have e : ((2 : Int) ^ (32 - n).toNat) = ((2 ^ (32 - n).toNat : Nat) : Int) := by simp
  have hp : 2 ^ (32 - n).toNat ≤ 2 ^ 32 := Nat.pow_le_pow_right (by omega) h
  rw [e]; have e2 : (2 : Nat) ^ 32 = 4294967296 := by decide
  omega

theorem wrap_gap (n : Int) (h0 : 0 ≤ n) : wrap64 (2 ^ (32 - n).toNat) = gap n := by
  have h1 := gap_pos n
  have h2 := gap_le n h0
  unfold gap at *
  exact wrap64_in' _ (by omega) (by omega)

theorem wrap_gap' (n : Int) (h0 : 0 ≤ n) : IntKind.i64.wrap (2 ^ (32 - n).toNat) = gap n := by
  have h1 := gap_pos n
  have h2 := gap_le n h0
  unfold gap at *
  rw [IntKind.wrap_i64]; omega

theorem div_gap (a n : Int) (_h0 : 0 ≤ n) (ha : 0 ≤ a) (ha' : a ≤ 4294967295) : wrap64 (a / 2 ^ (32 - n).toNat * 2 ^ (32 - n).toNat) = a - a % gap n := by
  have h1 := gap_pos n
  have e := Int.emod_add_mul_ediv a (gap n)
  have hm := Int.emod_nonneg a (Int.ne_of_gt h1)
  have hm2 : a % gap n ≤ a := by
    have hd : 0 ≤ a / gap n := Int.ediv_nonneg ha (by omega)
    have : 0 ≤ gap n * (a / gap n) := Int.mul_nonneg (by omega) hd
    omega
  show wrap64 (a / gap n * gap n) = a - a % gap n
  have e2 : a / gap n * gap n = a - a % gap n := by rw [Int.mul_comm]; omega
  rw [e2]
  exact wrap64_in' _ (by omega) (by omega)

theorem rem_gap (a n : Int) (ha : 0 ≤ a) : a.tmod (gap n) = a % gap n := Int.tmod_eq_emod_of_nonneg ha

/-- how many bytes n bits need. -/
def many (n : Nat) : Nat := (n + 7) / 8

/-- a prefix in bytes. -/
def pfxBytes (p : Nat × Nat) : List UInt8 := UInt8.ofNat p.2 :: (be 4 p.1).take (many p.2)

theorem pfxBytes_length (p : Nat × Nat) (h : p.2 ≤ 32) : (pfxBytes p).length = 1 + many p.2 := by
  unfold pfxBytes many; simp [be_length]; omega

theorem many_le (n : Nat) (h : n ≤ 32) : many n ≤ 4 := by unfold many; omega

theorem pfxOk_in (a n : Int) (h0 : 0 ≤ n) (h1 : n ≤ 32) (ha : 0 ≤ a) (ha' : a ≤ 4294967295) : pfxOk a n = (a % gap n == 0) := by
  unfold pfxOk; rw [Bool.eq_iff_iff]; simp [h0, h1, ha, ha']

theorem pfxOk_out (a n : Int) (h : n < 0 ∨ 32 < n ∨ a < 0 ∨ 4294967295 < a) : pfxOk a n = false := by
  unfold pfxOk; rw [decide_eq_false_iff_not]; omega

theorem pfxOk_bounds (a n : Int) (h : pfxOk a n = true) : 0 ≤ n ∧ n ≤ 32 ∧ 0 ≤ a ∧ a ≤ 4294967295 := by
  have := of_decide_eq_true h; omega

/-- the cells of a row of prefixes. -/
def pfCells (l : List (Int × Int)) : List Value := l.flatMap fun p => [.int .i64 p.1, .int .i64 p.2]

theorem pfCells_length (l : List (Int × Int)) : (pfCells l).length = l.length * 2 := by
  induction l with
  | nil => rfl
  | cons a l ih => simp only [pfCells, List.flatMap_cons, List.length_append, List.length_cons, List.length_nil] at *; omega

theorem pfCells_snoc (l : List (Int × Int)) (p : Int × Int) : pfCells (l ++ [p]) = pfCells l ++ [.int .i64 p.1, .int .i64 p.2] := by
  simp [pfCells]

theorem pfCells_get : ∀ (l : List (Int × Int)) (j : Nat) (h : j < l.length), (pfCells l)[j * 2]? = some (.int .i64 l[j].1) ∧ (pfCells l)[j * 2 + 1]? = some (.int .i64 l[j].2) := by
  intro l; induction l with
  | nil => intro j h; simp at h
  | cons a l ih =>
    intro j h
    cases j with
    | zero => simp [pfCells]
    | succ j =>
      have := ih j (by simpa using h)
      have e : pfCells (a :: l) = .int .i64 a.1 :: .int .i64 a.2 :: pfCells l := rfl
      rw [e, show (j + 1) * 2 = j * 2 + 1 + 1 from by omega]
      simpa using this

/-- are all of them prefixes? -/
def pfAll (l : List (Int × Int)) : Bool := l.all fun p => pfxOk p.1 p.2

theorem pfAll_take_bad (l : List (Int × Int)) (k : Nat) (h : k < l.length) (hb : pfxOk l[k].1 l[k].2 = false) : pfAll l = false := by
  unfold pfAll; rw [List.all_eq_false]; exact ⟨l[k], List.getElem_mem _, by simp [hb]⟩

theorem pfAll_take (l : List (Int × Int)) (k : Nat) (h : k < l.length) (hp : pfAll (l.take k) = true) (hb : pfxOk l[k].1 l[k].2 = true) : pfAll (l.take (k + 1)) = true := by
  rw [List.take_succ_eq_append_getElem h]; unfold pfAll at *; rw [List.all_append, hp]; simp [hb]

/-- prefixes as the program has them. -/
def pfInts (l : List (Nat × Nat)) : List (Int × Int) := l.map fun p => ((p.1 : Int), (p.2 : Int))

theorem pfInts_length (l : List (Nat × Nat)) : (pfInts l).length = l.length := by simp [pfInts]

theorem pfInts_get (l : List (Nat × Nat)) (k : Nat) (h : k < l.length) : (pfCells (pfInts l))[k * 2]? = some (.int .i64 (l[k].1 : Int)) ∧ (pfCells (pfInts l))[k * 2 + 1]? = some (.int .i64 (l[k].2 : Int)) := by
  have := pfCells_get (pfInts l) k (by rw [pfInts_length]; exact h)
  simpa [pfInts] using this

/-- the bytes of prefixes, one behind the other. -/
def pfWire (l : List (Nat × Nat)) : List UInt8 := l.flatMap pfxBytes

theorem pfWire_take (l : List (Nat × Nat)) (k : Nat) (h : k < l.length) : pfWire (l.take (k + 1)) = pfWire (l.take k) ++ pfxBytes l[k] := by
  unfold pfWire; rw [List.take_succ_eq_append_getElem h, List.flatMap_append, List.flatMap_cons, List.flatMap_nil, List.append_nil]

theorem pfWire_le : ∀ (l : List (Nat × Nat)), (∀ p ∈ l, p.2 ≤ 32) → (pfWire l).length ≤ 5 * l.length := by
  intro l; induction l with
  | nil => intro _; simp [pfWire]
  | cons p l ih =>
    intro h
    have h1 := ih fun q hq => h q (List.mem_cons_of_mem _ hq)
    have h2 := pfxBytes_length p (h p List.mem_cons_self)
    have h3 := many_le p.2 (h p List.mem_cons_self)
    have e : pfWire (p :: l) = pfxBytes p ++ pfWire l := by simp [pfWire]
    rw [e, List.length_append, List.length_cons]; omega

theorem u8s_one (n : Nat) (h : n < 256) : [Value.int .u8 (n : Int)] = u8s [UInt8.ofNat n] := by
  have e : ((UInt8.ofNat n).toNat : Int) = (n : Int) := by rw [UInt8.toNat_ofNat']; omega
  unfold u8s; rw [List.map_cons, List.map_nil, e]

theorem take_be (a m : Nat) (S : ByteArray) (hS : S = ⟨(be 4 a).toArray⟩) : (S.extract 0 m).data.toList = (be 4 a).take m := by
  subst hS; rw [Lib.extract_data]; simp

theorem wire_step (xs : List UInt8) (a n : Nat) (S : ByteArray) (hS : S = ⟨(be 4 a).toArray⟩) (hn : n ≤ 32) :
    (u8s xs ++ [Value.int .u8 (n : Int)]) ++ u8s (S.extract 0 (many n)).data.toList = u8s (xs ++ pfxBytes (a, n)) ∧ xs.length + 1 + (S.extract 0 (many n)).size = (xs ++ pfxBytes (a, n)).length := by
  have h1 : pfxBytes (a, n) = [UInt8.ofNat n] ++ (be 4 a).take (many n) := rfl
  have h2 := take_be a (many n) S hS
  have h3 : (S.extract 0 (many n)).size = ((be 4 a).take (many n)).length := by rw [← h2, len_data]
  refine ⟨?_, ?_⟩
  · rw [h2, h1, u8s_append, u8s_append, ← u8s_one n (by omega), List.append_assoc]
  · rw [h3, h1]; simp; omega

end Rl
end Go.Proofs.Yteoacdkgicfomaa
