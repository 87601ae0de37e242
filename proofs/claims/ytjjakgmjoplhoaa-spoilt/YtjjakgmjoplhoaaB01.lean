/-
  Plain arithmetic of numbers in bytes: what the two readers and the two writers of numbers answer. Nothing of the program is named here.
-/
import Derived.WalkKit
import Derived.Laws.BitsLemmas
import Derived.Lib.Strings
import Derived.Lib.IndexBytes
import Derived.Test.YtjjakgmjoplhoaaProg
import Derived.WalkSpells
import Derived.WalkLawsBesides
import Derived.Outline
import Derived.Laws.IdiomStrings
import Derived.Laws.OwnMore
import Derived.OwnWalk
import Derived.Below
namespace Go.Proofs.Ytjjakgmjoplhoaa
open Go.RowKit
namespace Rl

theorem add_head (b j : Nat) : (⟨b, 0, none⟩ : Addr).add j = ⟨b, j, none⟩ := by
  unfold Addr.add; split <;> simp_all

/-- the length of a text. -/
def strLen : Value → Nat
  | .string t => t.size
  | _ => 0

theorem strLen_string (t : ByteArray) : strLen (.string t) = t.size := rfl

theorem hide {p : Prop} (h : p) : Hid p := h

/-- bytes as a number, the greatest first. -/
def num (l : List UInt8) : Int := l.foldl (fun n c => 256 * n + (c.toNat : Int)) 0

theorem num_nil : num [] = 0 := rfl

theorem num_snoc (l : List UInt8) (c : UInt8) : num (l ++ [c]) = 256 * num l + (c.toNat : Int) := by
  simp [num]

theorem num_nonneg : ∀ (l : List UInt8), 0 ≤ num l := by
  intro l
  suffices h : ∀ (l : List UInt8) (a : Int), 0 ≤ a → 0 ≤ l.foldl (fun n c => 256 * n + (c.toNat : Int)) a from h l 0 (by omega)
  intro l
  induction l with
  | nil => intro a h; simpa using h
  | cons c l ih => intro a h; simp only [List.foldl_cons]; exact ih _ (by omega)

theorem num_take_succ (s : ByteArray) (k : Nat) (h : k < s.size) :
    num (s.data.toList.take (k + 1)) = 256 * num (s.data.toList.take k) + (s[k].toNat : Int) := by
  rw [List.take_succ_eq_append_getElem (by simpa using h), num_snoc]; rfl

theorem num_lt : ∀ (k : Nat) (l : List UInt8), l.length ≤ k → num l < 256 ^ k := by
  intro k
  induction k with
  | zero =>
    intro l h
    have e : l = [] := List.eq_nil_of_length_eq_zero (by omega)
    subst e; simp [num]
  | succ k ih =>
    intro l h
    rcases List.eq_nil_or_concat l with rfl | ⟨m, c, rfl⟩
    · simp only [num_nil]; exact Int.pow_pos (by omega)
    · rw [List.concat_eq_append, num_snoc]
      have hm : m.length ≤ k := by simp at h; omega
      have h1 := ih m hm
      have h2 : (c.toNat : Int) < 256 := by have := c.toNat_lt; omega
      rw [Int.pow_succ]; omega

theorem num_bound (s : ByteArray) (k : Nat) (hk : k ≤ 7) : 0 ≤ num (s.data.toList.take k) ∧ num (s.data.toList.take k) < 72057594037927936 := by
  refine ⟨num_nonneg _, ?_⟩
  have h := num_lt 7 (s.data.toList.take k) (by rw [List.length_take]; omega)
  have e : (256 : Int) ^ 7 = 72057594037927936 := by decide
  omega

theorem num_bound6 (s : ByteArray) (k : Nat) (hk : k ≤ 6) : 0 ≤ num (s.data.toList.take k) ∧ num (s.data.toList.take k) < 281474976710656 := by
  refine ⟨num_nonneg _, ?_⟩
  have h := num_lt 6 (s.data.toList.take k) (by rw [List.length_take]; omega)
  have e : (256 : Int) ^ 6 = 281474976710656 := by decide
  omega

theorem byte_lt (c : UInt8) : 0 ≤ (c.toNat : Int) ∧ (c.toNat : Int) < 256 := by
  have := c.toNat_lt; omega

theorem wrap64_byte (c : UInt8) : wrap64 (c.toNat : Int) = (c.toNat : Int) := by
  have := byte_lt c
  unfold wrap64; omega

theorem wrap64_in' (n : Int) (h0 : -9223372036854775808 ≤ n) (h1 : n ≤ 9223372036854775807) : wrap64 n = n := by unfold wrap64; omega

/-- a number times 256 and a byte share no bit. -/
theorem or_byte (a c : Int) (ha : 0 ≤ a) (ha' : a < 36028797018963968) (hc : 0 ≤ c) (hc' : c < 256) : bits .or .i64 (a * 256) c = 256 * a + c := by
  have h := bits_join .i64 63 (by decide) (fun n h0 h1 => by rw [IntKind.wrap_i64]; have e : (2 : Int) ^ 63 = 9223372036854775808 := by decide
                                                             omega) 8 (a * 256) c (by omega) (by have e : (2 : Int) ^ 8 = 256 := by decide
                                                                                                 omega) (by have e : (2 : Int) ^ 63 = 9223372036854775808 := by decide
                                                                                                            omega) hc (by have e : (2 : Int) ^ 8 = 256 := by decide
                                                                                                                          omega) (by have e : (2 : Int) ^ 63 = 9223372036854775808 := by decide
                                                                                                                                     omega)
  rw [h]; omega

end Rl
end Go.Proofs.Ytjjakgmjoplhoaa
/-
  A number as so many bytes, the greatest first: plain lists.
-/
namespace Go.Proofs.Ytjjakgmjoplhoaa
open Go.RowKit
namespace Rl

/-- the lowest k bytes of n, the greatest first. -/
def be : Nat → Nat → List UInt8
  | 0, _ => []
  | k + 1, n => UInt8.ofNat (n / 256 ^ k % 256) :: be k n

theorem be_length : ∀ (k n : Nat), (be k n).length = k := by
  intro k; induction k with
  | zero => intro n; rfl
  | succ k ih => intro n; simp [be, ih]

/-- the cells of a row of bytes. -/
def u8s (l : List UInt8) : List Value := l.map fun b => Value.int .u8 (b.toNat : Int)

theorem u8s_length (l : List UInt8) : (u8s l).length = l.length := by simp [u8s]
theorem u8s_append (a b : List UInt8) : u8s (a ++ b) = u8s a ++ u8s b := by simp [u8s]
theorem u8s_get (l : List UInt8) (j : Nat) (h : j < l.length) : (u8s l)[j]? = some (.int .u8 (l[j].toNat : Int)) := by
  simp [u8s, List.getElem?_eq_getElem h]

/-- what the row holds when the last m - j bytes are written. -/
def beRow (m n j : Nat) : List UInt8 := List.replicate j 0 ++ be (m - j) n

theorem beRow_length (m n j : Nat) (h : j ≤ m) : (beRow m n j).length = m := by simp [beRow, be_length]; omega

theorem beRow_zero (m n : Nat) : beRow m n 0 = be m n := by simp [beRow]

theorem beRow_all (m n : Nat) : beRow m n m = List.replicate m 0 := by simp [beRow, be]

theorem beRow_step (m n j : Nat) (h : j < m) : (beRow m n (j + 1)).set j (UInt8.ofNat (n / 256 ^ (m - (j + 1)) % 256)) = beRow m n j := by
  have e : m - j = (m - (j + 1)) + 1 := by omega
  unfold beRow
  rw [e, List.set_append]
  simp only [List.length_replicate, Nat.lt_succ_self, if_true]
  rw [List.replicate_succ', List.set_append]
  simp [be]

theorem set_u8s (l : List UInt8) (j : Nat) (b : UInt8) (v : Int) (hv : v = (b.toNat : Int)) : (u8s l).set j (.int .u8 v) = u8s (l.set j b) := by
  subst hv; simp [u8s, List.map_set]

theorem div_step (n m j : Nat) (h : j < m) : n / 256 ^ (m - (j + 1)) / 256 = n / 256 ^ (m - j) := by
  have e : m - j = (m - (j + 1)) + 1 := by omega
  rw [e, Nat.pow_succ, Nat.div_div_eq_div_mul]

theorem div_le' (n k : Nat) : n / 256 ^ k ≤ n := Nat.div_le_self _ _

theorem toNat_mod (x : Nat) : ((UInt8.ofNat (x % 256)).toNat : Int) = (x : Int) % 256 := by
  rw [UInt8.toNat_ofNat']; omega

end Rl
end Go.Proofs.Ytjjakgmjoplhoaa
/-
  What a value of the second type is: segments, as plain lists.
-/
namespace Go.Proofs.Ytjjakgmjoplhoaa
open Go.RowKit
namespace Rl

/-- the i-th byte; 0, if there is none. -/
def at8 (l : List UInt8) (i : Nat) : Nat := (l.getD i 0).toNat

theorem at8_lt (l : List UInt8) (i : Nat) : at8 l i < 256 := (l.getD i 0).toNat_lt

theorem at8_bytes (s : ByteArray) (i : Nat) (h : i < s.size) : (s[i].toNat : Int) = (at8 s.data.toList i : Int) := by
  unfold at8
  have e : s.data.toList.getD i 0 = s[i] := by
    rw [List.getD_eq_getElem?_getD, List.getElem?_eq_getElem (by simpa using h)]; rfl
  rw [e]

/-- does a segment begin here, whole? -/
def segOk (l : List UInt8) : Bool := decide (2 ≤ l.length ∧ 1 ≤ at8 l 0 ∧ at8 l 0 ≤ 2 ∧ 1 ≤ at8 l 1 ∧ 2 + 4 * at8 l 1 ≤ l.length)

def pathF : Nat → List UInt8 → Bool
  | 0, _ => false
  | f + 1, l => if l = [] then true else if segOk l = true then pathF f (l.drop (2 + 4 * at8 l 1)) else false

theorem pathF_more : ∀ (f g : Nat) (l : List UInt8), l.length < f → l.length < g → pathF f l = pathF g l := by
  intro f; induction f with
  | zero => intro g l h; omega
  | succ f ih =>
    intro g l h h2
    cases g with
    | zero => omega
    | succ g =>
      simp only [pathF]
      by_cases e : l = []
      · simp [e]
      · rw [if_neg e, if_neg e]
        by_cases o : segOk l = true
        · rw [if_pos o, if_pos o]
          have : 2 ≤ l.length := by have := of_decide_eq_true o; omega
          exact ih g _ (by simp; omega) (by simp; omega)
        · rw [if_neg o, if_neg o]

def pathB (l : List UInt8) : Bool := pathF (l.length + 1) l

theorem pathB_nil : pathB [] = true := rfl

theorem pathB_bad (l : List UInt8) (h : l ≠ []) (o : segOk l = false) : pathB l = false := by
  unfold pathB pathF; rw [if_neg h, if_neg (by simp [o])]

theorem pathB_step (l : List UInt8) (o : segOk l = true) : pathB l = pathB (l.drop (2 + 4 * at8 l 1)) := by
  have h2 : 2 ≤ l.length := by have := of_decide_eq_true o; omega
  have h : l ≠ [] := by intro e; subst e; simp at h2
  unfold pathB
  rw [pathF, if_neg h, if_pos o]
  exact pathF_more _ _ _ (by simp; omega) (by simp)

theorem segOk_false {l : List UInt8} (h : l.length < 2 ∨ at8 l 0 < 1 ∨ 2 < at8 l 0 ∨ at8 l 1 < 1 ∨ l.length < 2 + 4 * at8 l 1) : segOk l = false := by
  unfold segOk; rw [decide_eq_false_iff_not]; omega

theorem segOk_true {l : List UInt8} (h : ¬ (l.length < 2 ∨ at8 l 0 < 1 ∨ 2 < at8 l 0 ∨ at8 l 1 < 1 ∨ l.length < 2 + 4 * at8 l 1)) : segOk l = true := by
  unfold segOk; rw [decide_eq_true_iff]; omega

theorem ne_nil_of_size (s : ByteArray) (h : 0 < s.size) : s.data.toList ≠ [] := by
  intro e
  have : s.data.toList.length = s.size := by simp
  rw [e] at this; simp at this; omega

theorem nil_of_size (s : ByteArray) (h : s.size = 0) : s.data.toList = [] := by
  apply List.eq_nil_of_length_eq_zero; simpa using h

theorem len_data (s : ByteArray) : s.data.toList.length = s.size := by simp

end Rl
end Go.Proofs.Ytjjakgmjoplhoaa
/-
  Prefixes: which are right, and their bytes; plain arithmetic.
-/
namespace Go.Proofs.Ytjjakgmjoplhoaa
open Go.RowKit
namespace Rl

/-- 2 to the number of bits behind the first n of 32. -/
def gap (n : Int) : Int := 2 ^ (32 - n).toNat

/-- is a, of which n bits matter, a prefix? -/
def pfxOk (a n : Int) : Bool := decide (0 ≤ n ∧ n ≤ 32 ∧ 0 ≤ a ∧ a ≤ 4294967295 ∧ a % gap n = 0)

theorem gap_pos (n : Int) : 0 < gap n := Int.pow_pos (by omega)

theorem gap_le (n : Int) (h0 : 0 ≤ n) : gap n ≤ 4294967296 := by
  unfold gap
  have h : (32 - n).toNat ≤ 32 := by omega
  have e : ((2 : Int) ^ (32 - n).toNat) = ((2 ^ (32 - n).toNat : Nat) : Int) := by simp
  have hp : 2 ^ (32 - n).toNat ≤ 2 ^ 32 := Nat.pow_le_pow_right (by omega) h
  rw [e]; have e2 : (2 : Nat) ^ 32 = 4294967296 := by decide
  omega

theorem wrap_gap (n : Int) (h0 : 0 ≤ n) : wrap64 (2 ^ (32 - n).toNat) = gap n := by
  have h1 := gap_pos n
  have h2 := gap_le n h0
  unfold gap at *
  exact wrap64_in' _ (by omega) (by omega)

theorem wrap_gap' (n : Int) (h0 : 0 ≤ n) : IntKind.i64.wrap (2 ^ (32 - n).toNat) = gap n := by
  have h1 := gap_pos n
  have h2 := gap_le n h0
  unfold gap at *
  rw [IntKind.wrap_i64]; omega

theorem div_gap (a n : Int) (_h0 : 0 ≤ n) (ha : 0 ≤ a) (ha' : a ≤ 4294967295) : wrap64 (a / 2 ^ (32 - n).toNat * 2 ^ (32 - n).toNat) = a - a % gap n := by
  have h1 := gap_pos n
  have e := Int.emod_add_mul_ediv a (gap n)
  have hm := Int.emod_nonneg a (Int.ne_of_gt h1)
  have hm2 : a % gap n ≤ a := by
    have hd : 0 ≤ a / gap n := Int.ediv_nonneg ha (by omega)
    have : 0 ≤ gap n * (a / gap n) := Int.mul_nonneg (by omega) hd
    omega
  show wrap64 (a / gap n * gap n) = a - a % gap n
  have e2 : a / gap n * gap n = a - a % gap n := by rw [Int.mul_comm]; omega
  rw [e2]
  exact wrap64_in' _ (by omega) (by omega)

theorem rem_gap (a n : Int) (ha : 0 ≤ a) : a.tmod (gap n) = a % gap n := Int.tmod_eq_emod_of_nonneg ha

/-- how many bytes n bits need. -/
def many (n : Nat) : Nat := (n + 7) / 8

/-- a prefix in bytes. -/
def pfxBytes (p : Nat × Nat) : List UInt8 := UInt8.ofNat p.2 :: (be 4 p.1).take (many p.2)

theorem pfxBytes_length (p : Nat × Nat) (h : p.2 ≤ 32) : (pfxBytes p).length = 1 + many p.2 := by
  unfold pfxBytes many; simp [be_length]; omega

theorem many_le (n : Nat) (h : n ≤ 32) : many n ≤ 4 := by unfold many; omega

theorem pfxOk_in (a n : Int) (h0 : 0 ≤ n) (h1 : n ≤ 32) (ha : 0 ≤ a) (ha' : a ≤ 4294967295) : pfxOk a n = (a % gap n == 0) := by
  unfold pfxOk; rw [Bool.eq_iff_iff]; simp [h0, h1, ha, ha']

theorem pfxOk_out (a n : Int) (h : n < 0 ∨ 32 < n ∨ a < 0 ∨ 4294967295 < a) : pfxOk a n = false := by
  unfold pfxOk; rw [decide_eq_false_iff_not]; omega

theorem pfxOk_bounds (a n : Int) (h : pfxOk a n = true) : 0 ≤ n ∧ n ≤ 32 ∧ 0 ≤ a ∧ a ≤ 4294967295 := by
  have := of_decide_eq_true h; omega

/-- the cells of a row of prefixes. -/
def pfCells (l : List (Int × Int)) : List Value := l.flatMap fun p => [.int .i64 p.1, .int .i64 p.2]

theorem pfCells_length (l : List (Int × Int)) : (pfCells l).length = l.length * 2 := by
  induction l with
  | nil => rfl
  | cons a l ih => simp only [pfCells, List.flatMap_cons, List.length_append, List.length_cons, List.length_nil] at *; omega

theorem pfCells_snoc (l : List (Int × Int)) (p : Int × Int) : pfCells (l ++ [p]) = pfCells l ++ [.int .i64 p.1, .int .i64 p.2] := by
  simp [pfCells]

theorem pfCells_get : ∀ (l : List (Int × Int)) (j : Nat) (h : j < l.length), (pfCells l)[j * 2]? = some (.int .i64 l[j].1) ∧ (pfCells l)[j * 2 + 1]? = some (.int .i64 l[j].2) := by
  intro l; induction l with
  | nil => intro j h; simp at h
  | cons a l ih =>
    intro j h
    cases j with
    | zero => simp [pfCells]
    | succ j =>
      have := ih j (by simpa using h)
      have e : pfCells (a :: l) = .int .i64 a.1 :: .int .i64 a.2 :: pfCells l := rfl
      rw [e, show (j + 1) * 2 = j * 2 + 1 + 1 from by omega]
      simpa using this

/-- are all of them prefixes? -/
def pfAll (l : List (Int × Int)) : Bool := l.all fun p => pfxOk p.1 p.2

theorem pfAll_take_bad (l : List (Int × Int)) (k : Nat) (h : k < l.length) (hb : pfxOk l[k].1 l[k].2 = false) : pfAll l = false := by
  unfold pfAll; rw [List.all_eq_false]; exact ⟨l[k], List.getElem_mem _, by simp [hb]⟩

theorem pfAll_take (l : List (Int × Int)) (k : Nat) (h : k < l.length) (hp : pfAll (l.take k) = true) (hb : pfxOk l[k].1 l[k].2 = true) : pfAll (l.take (k + 1)) = true := by
  rw [List.take_succ_eq_append_getElem h]; unfold pfAll at *; rw [List.all_append, hp]; simp [hb]

/-- prefixes as the program has them. -/
def pfInts (l : List (Nat × Nat)) : List (Int × Int) := l.map fun p => ((p.1 : Int), (p.2 : Int))

theorem pfInts_length (l : List (Nat × Nat)) : (pfInts l).length = l.length := by simp [pfInts]

theorem pfInts_get (l : List (Nat × Nat)) (k : Nat) (h : k < l.length) : (pfCells (pfInts l))[k * 2]? = some (.int .i64 (l[k].1 : Int)) ∧ (pfCells (pfInts l))[k * 2 + 1]? = some (.int .i64 (l[k].2 : Int)) := by
  have := pfCells_get (pfInts l) k (by rw [pfInts_length]; exact h)
  simpa [pfInts] using this

/-- the bytes of prefixes, one behind the other. -/
def pfWire (l : List (Nat × Nat)) : List UInt8 := l.flatMap pfxBytes

theorem pfWire_take (l : List (Nat × Nat)) (k : Nat) (h : k < l.length) : pfWire (l.take (k + 1)) = pfWire (l.take k) ++ pfxBytes l[k] := by
  unfold pfWire; rw [List.take_succ_eq_append_getElem h, List.flatMap_append, List.flatMap_cons, List.flatMap_nil, List.append_nil]

theorem pfWire_le : ∀ (l : List (Nat × Nat)), (∀ p ∈ l, p.2 ≤ 32) → (pfWire l).length ≤ 5 * l.length := by
  intro l; induction l with
  | nil => intro _; simp [pfWire]
  | cons p l ih =>
    intro h
    have h1 := ih fun q hq => h q (List.mem_cons_of_mem _ hq)
    have h2 := pfxBytes_length p (h p List.mem_cons_self)
    have h3 := many_le p.2 (h p List.mem_cons_self)
    have e : pfWire (p :: l) = pfxBytes p ++ pfWire l := by simp [pfWire]
    rw [e, List.length_append, List.length_cons]; omega

theorem u8s_one (n : Nat) (h : n < 256) : [Value.int .u8 (n : Int)] = u8s [UInt8.ofNat n] := by
  have e : ((UInt8.ofNat n).toNat : Int) = (n : Int) := by rw [UInt8.toNat_ofNat']; omega
  unfold u8s; rw [List.map_cons, List.map_nil, e]

theorem take_be (a m : Nat) (S : ByteArray) (hS : S = ⟨(be 4 a).toArray⟩) : (S.extract 0 m).data.toList = (be 4 a).take m := by
  subst hS; rw [Lib.extract_data]; simp

theorem wire_step (xs : List UInt8) (a n : Nat) (S : ByteArray) (hS : S = ⟨(be 4 a).toArray⟩) (hn : n ≤ 32) :
    (u8s xs ++ [Value.int .u8 (n : Int)]) ++ u8s (S.extract 0 (many n)).data.toList = u8s (xs ++ pfxBytes (a, n)) ∧ xs.length + 1 + (S.extract 0 (many n)).size = (xs ++ pfxBytes (a, n)).length := by
  have h1 : pfxBytes (a, n) = [UInt8.ofNat n] ++ (be 4 a).take (many n) := rfl
  have h2 := take_be a (many n) S hS
  have h3 : (S.extract 0 (many n)).size = ((be 4 a).take (many n)).length := by rw [← h2, len_data]
  refine ⟨?_, ?_⟩
  · rw [h2, h1, u8s_append, u8s_append, ← u8s_one n (by omega), List.append_assoc]
  · rw [h3, h1]; simp; omega

end Rl
end Go.Proofs.Ytjjakgmjoplhoaa
/-
  Attributes: the table of known types, and canonical texts, as plain functions of the bytes.
-/
namespace Go.Proofs.Ytjjakgmjoplhoaa
open Go.RowKit
namespace Rl

/-- the flags of a known type; -1: it is unknown. -/
def flagsI (k : Int) : Int :=
  if k = 1 ∨ k = 2 ∨ k = 3 ∨ k = 6 then 64 else if k = 4 then 128 else if k = 7 ∨ k = 8 then 192 else -1

def knownB (k : Int) : Bool := decide (k = 1 ∨ k = 2 ∨ k = 3 ∨ k = 4 ∨ k = 6 ∨ k = 7 ∨ k = 8)

theorem known_cases (k : Int) (h : knownB k = true) : k = 1 ∨ k = 2 ∨ k = 3 ∨ k = 4 ∨ k = 6 ∨ k = 7 ∨ k = 8 := of_decide_eq_true h
theorem unknown_cases (k : Int) (h : knownB k = false) : ¬ (k = 1 ∨ k = 2 ∨ k = 3 ∨ k = 4 ∨ k = 6 ∨ k = 7 ∨ k = 8) := of_decide_eq_false h
theorem flagsI_unknown (k : Int) (h : knownB k = false) : flagsI k = -1 := by
  have := unknown_cases k h
  unfold flagsI; rw [if_neg (by omega), if_neg (by omega), if_neg (by omega)]
theorem flagsI_known (k : Int) (h : knownB k = true) : flagsI k = 64 ∨ flagsI k = 128 ∨ flagsI k = 192 := by
  rcases known_cases k h with rfl | rfl | rfl | rfl | rfl | rfl | rfl <;> simp [flagsI]
theorem flagsI_lt (k : Int) : (flagsI k < 0) ↔ knownB k = false := by
  cases h : knownB k with
  | false => simp [flagsI_unknown k h]
  | true => rcases flagsI_known k h with e | e | e <;> simp [e]

/-- is v a value of the known type k? -/
def rightB (k : Int) (v : ByteArray) : Bool :=
  if k = 1 then decide (v.size = 1 ∧ at8 v.data.toList 0 ≤ 2)
  else if k = 2 then pathB v.data.toList
  else if k = 3 ∨ k = 4 then decide (v.size = 4)
  else if k = 6 then decide (v.size = 0)
  else if k = 7 then decide (v.size = 8)
  else decide (4 ≤ v.size ∧ v.size % 4 = 0)

/-- an attribute. -/
structure At where
  flags : Nat
  kind : Nat
  val : ByteArray

/-- may that attribute stand in a canonical text? -/
def atOk (f k : Int) (v : ByteArray) : Bool :=
  if knownB k = true then decide (f = flagsI k) && rightB k v else decide (f = 192 ∨ f = 224)

/-- the length of a value that is told by z bytes behind the first two. -/
def lenZ (z : Nat) (t : ByteArray) : Nat := (num ((t.extract 2 (2 + z)).data.toList)).toNat

/-- a whole attribute begins t. -/
def wholeZ (z : Nat) (t : ByteArray) : Bool := decide (2 + z ≤ t.size ∧ 2 + z + lenZ z t ≤ t.size)

theorem lenZ_cast (z : Nat) (t : ByteArray) : (lenZ z t : Int) = num ((t.extract 2 (2 + z)).data.toList) := by
  unfold lenZ; have := num_nonneg ((t.extract 2 (2 + z)).data.toList); omega

theorem lenZ_lt (z : Nat) (t : ByteArray) (hz : z ≤ 2) : lenZ z t < 65536 := by
  have h := num_lt 2 ((t.extract 2 (2 + z)).data.toList) (by rw [len_data, ByteArray.size_extract]; omega)
  have e : (256 : Int) ^ 2 = 65536 := by decide
  have := lenZ_cast z t
  omega

def headZ (z : Nat) (t : ByteArray) : At := ⟨at8 t.data.toList 0, at8 t.data.toList 1, t.extract (2 + z) (2 + z + lenZ z t)⟩
def restZ (z : Nat) (t : ByteArray) : ByteArray := t.extract (2 + z + lenZ z t) t.size

/-- the length of a value that is told by two bytes behind the first two. -/
def lenC (t : ByteArray) : Nat := lenZ 2 t

def headC (t : ByteArray) : At := headZ 2 t
def restC (t : ByteArray) : ByteArray := restZ 2 t

def canOk (t : ByteArray) (last : Int) : Bool :=
  wholeZ 2 t && decide (last < ((headC t).kind : Int)) && atOk (headC t).flags (headC t).kind (headC t).val

def canF : Nat → ByteArray → Int → Option (List At)
  | 0, _, _ => none
  | f + 1, t, last => if t.size = 0 then some [] else if canOk t last = true then (canF f (restC t) (headC t).kind).map (headC t :: ·) else none

theorem canF_more : ∀ (f g : Nat) (t : ByteArray) (last : Int), t.size < f → t.size < g → canF f t last = canF g t last := by
  intro f; induction f with
  | zero => intro g t last h; omega
  | succ f ih =>
    intro g t last h h2
    cases g with
    | zero => omega
    | succ g =>
      simp only [canF]
      by_cases e : t.size = 0
      · rw [if_pos e, if_pos e]
      · rw [if_neg e, if_neg e]
        have hs : (restC t).size < t.size := by unfold restC restZ; rw [ByteArray.size_extract]; omega
        rw [ih g _ _ (by omega) (by omega)]

def canR (t : ByteArray) (last : Int) : Option (List At) := canF (t.size + 1) t last

theorem canR_nil (t : ByteArray) (last : Int) (h : t.size = 0) : canR t last = some [] := by
  unfold canR canF; rw [if_pos h]

theorem canR_bad (t : ByteArray) (last : Int) (h : ¬ t.size = 0) (o : canOk t last = false) : canR t last = none := by
  unfold canR canF; rw [if_neg h, if_neg (by simp [o])]

theorem canR_step (t : ByteArray) (last : Int) (o : canOk t last = true) : canR t last = (canR (restC t) (headC t).kind).map (headC t :: ·) := by
  have h4 : 4 ≤ t.size := by
    unfold canOk at o; rw [Bool.and_eq_true, Bool.and_eq_true] at o; have := (of_decide_eq_true o.1.1).1; omega
  have hs : (restC t).size < t.size := by unfold restC restZ; rw [ByteArray.size_extract]; omega
  unfold canR
  rw [canF, if_neg (by omega), if_pos o, canF_more _ ((restC t).size + 1) _ _ (by omega) (by omega)]

/-- how many of the needed types are in a list. -/
def needN (l : List At) : Nat := (l.filter fun a => decide (1 ≤ a.kind ∧ a.kind ≤ 3)).length

theorem needN_le (l : List At) : needN l ≤ l.length := List.length_filter_le _ _

theorem needN_snoc (l : List At) (a : At) : needN (l ++ [a]) = needN l + if 1 ≤ a.kind ∧ a.kind ≤ 3 then 1 else 0 := by
  unfold needN; rw [List.filter_append]
  by_cases h : 1 ≤ a.kind ∧ a.kind ≤ 3 <;> simp [h]

/-- is s a canonical text? its attributes. -/
def canB (s : ByteArray) : Bool := match canR s (-1) with
  | some l => needN l == 3
  | none => false
def canL (s : ByteArray) : List At := (canR s (-1)).getD []

theorem canB_none {s : ByteArray} (h : canR s (-1) = none) : canB s = false := by unfold canB; rw [h]
theorem canB_some {s : ByteArray} {l : List At} (h : canR s (-1) = some l) : canB s = (needN l == 3) := by unfold canB; rw [h]
theorem canL_some {s : ByteArray} {l : List At} (h : canR s (-1) = some l) : canL s = l := by unfold canL; rw [h]; rfl

/-- the cells of a row of attributes. -/
def atCells (l : List At) : List Value := l.flatMap fun a => [.int .i64 (a.flags : Int), .int .i64 (a.kind : Int), .string a.val]

theorem atCells_length (l : List At) : (atCells l).length = l.length * 3 := by
  induction l with
  | nil => rfl
  | cons a l ih => simp only [atCells, List.flatMap_cons, List.length_append, List.length_cons, List.length_nil] at *; omega

theorem atCells_snoc (l : List At) (a : At) : atCells (l ++ [a]) = atCells l ++ [.int .i64 (a.flags : Int), .int .i64 (a.kind : Int), .string a.val] := by
  simp [atCells]

theorem atCells_get : ∀ (l : List At) (j : Nat) (h : j < l.length), (atCells l)[j * 3]? = some (.int .i64 (l[j].flags : Int)) ∧ (atCells l)[j * 3 + 1]? = some (.int .i64 (l[j].kind : Int)) ∧ (atCells l)[j * 3 + 2]? = some (.string l[j].val) := by
  intro l; induction l with
  | nil => intro j h; simp at h
  | cons a l ih =>
    intro j h
    cases j with
    | zero => simp [atCells]
    | succ j =>
      have := ih j (by simpa using h)
      have e : atCells (a :: l) = .int .i64 (a.flags : Int) :: .int .i64 (a.kind : Int) :: .string a.val :: atCells l := rfl
      rw [e, show (j + 1) * 3 = j * 3 + 1 + 1 + 1 from by omega, show j * 3 + 1 + 1 + 1 + 2 = j * 3 + 2 + 1 + 1 + 1 from by omega]
      simpa using this

theorem needN_take (l : List At) (k : Nat) (h : k < l.length) : needN (l.take (k + 1)) = needN (l.take k) + if 1 ≤ l[k].kind ∧ l[k].kind ≤ 3 then 1 else 0 := by
  rw [List.take_succ_eq_append_getElem h, needN_snoc]

theorem needN_yes (l : List At) (f k : Nat) (v : ByteArray) (h : 1 ≤ k ∧ k ≤ 3) : Value.int .i64 ((needN l : Int) + 1) = Value.int .i64 (needN (l ++ [⟨f, k, v⟩]) : Int) := by
  rw [needN_snoc, if_pos h]; rfl
theorem needN_no (l : List At) (f k : Nat) (v : ByteArray) (h : ¬ (1 ≤ k ∧ k ≤ 3)) : Value.int .i64 (needN l : Int) = Value.int .i64 (needN (l ++ [⟨f, k, v⟩]) : Int) := by
  rw [needN_snoc, if_neg h]; rfl

end Rl
end Go.Proofs.Ytjjakgmjoplhoaa
/-
  Prefixes read out of bytes: the list that both readers answer.
-/
namespace Go.Proofs.Ytjjakgmjoplhoaa
open Go.RowKit
open Rl

/-- the length that begins s, in bits. -/
def rdN (s : ByteArray) : Nat := at8 s.data.toList 0

/-- the number behind it, of as many bytes as that needs. -/
def rdNum (s : ByteArray) : Nat := (num ((s.extract 1 (1 + many (rdN s))).data.toList)).toNat

/-- the address, ahead of the cut to its first bits. -/
def rdA (s : ByteArray) : Nat := rdNum s * 256 ^ (4 - many (rdN s))

def rdBad (s : ByteArray) : Prop := 32 < rdN s ∨ s.size < 1 + many (rdN s)
instance (s : ByteArray) : Decidable (rdBad s) := by unfold rdBad; infer_instance

def rdHead (s : ByteArray) : Int × Int := ((rdA s : Int) - (rdA s : Int) % gap (rdN s), (rdN s : Int))
def rdTail (s : ByteArray) : ByteArray := s.extract (1 + many (rdN s)) s.size

theorem rdTail_size (s : ByteArray) : (rdTail s).size = s.size - (1 + many (rdN s)) := by
  unfold rdTail; rw [ByteArray.size_extract]; omega

theorem rdN_lt (s : ByteArray) : rdN s < 256 := at8_lt _ 0

theorem rdNum_cast (s : ByteArray) : (rdNum s : Int) = num ((s.extract 1 (1 + many (rdN s))).data.toList) := by
  unfold rdNum; have := num_nonneg ((s.extract 1 (1 + many (rdN s))).data.toList); omega

theorem rdNum_lt (s : ByteArray) : rdNum s < 256 ^ many (rdN s) := by
  have h := num_lt (many (rdN s)) ((s.extract 1 (1 + many (rdN s))).data.toList) (by rw [len_data, ByteArray.size_extract]; omega)
  have := rdNum_cast s
  rw [← this] at h
  have e : ((256 ^ many (rdN s) : Nat) : Int) = (256 : Int) ^ many (rdN s) := Int.natCast_pow 256 _
  rw [← e] at h
  exact Int.ofNat_lt.1 h

theorem rdA_le (s : ByteArray) (h : rdN s ≤ 32) : rdA s ≤ 4294967295 := by
  have h1 := rdNum_lt s
  have hm := many_le _ h
  unfold rdA
  generalize rdNum s = x at *
  generalize many (rdN s) = m at *
  have e : m = 0 ∨ m = 1 ∨ m = 2 ∨ m = 3 ∨ m = 4 := by omega
  rcases e with rfl | rfl | rfl | rfl | rfl <;> simp at h1 ⊢ <;> omega

/-- all prefixes of s; none: it ends too early, or a length is too great. -/
def rdAll (s : ByteArray) : Option (List (Int × Int)) :=
  if s.size = 0 then some []
  else if rdBad s then none
  else (rdAll (rdTail s)).map (rdHead s :: ·)
termination_by s.size
decreasing_by rw [rdTail_size]; omega

theorem rdAll_end (s : ByteArray) (h : s.size = 0) : rdAll s = some [] := by rw [rdAll, if_pos h]
theorem rdAll_bad (s : ByteArray) (h : s.size ≠ 0) (hb : rdBad s) : rdAll s = none := by rw [rdAll, if_neg h, if_pos hb]
theorem rdAll_step (s : ByteArray) (h : s.size ≠ 0) (hb : ¬ rdBad s) : rdAll s = (rdAll (rdTail s)).map (rdHead s :: ·) := by rw [rdAll, if_neg h, if_neg hb]

/-- what a reader has behind it: the list l is read of t, s is left. -/
def rdMid (t : ByteArray) (l : List (Int × Int)) (s : ByteArray) : Prop := rdAll t = (rdAll s).map (l ++ ·)

theorem rdMid_start (t : ByteArray) : rdMid t [] t := by
  unfold rdMid; cases rdAll t <;> simp

theorem rdMid_step (t : ByteArray) (l : List (Int × Int)) (s : ByteArray) (h : s.size ≠ 0) (hb : ¬ rdBad s) (hm : rdMid t l s) : rdMid t (l ++ [rdHead s]) (rdTail s) := by
  unfold rdMid at *
  rw [hm, rdAll_step s h hb]
  cases rdAll (rdTail s) <;> simp

theorem rdMid_end (t : ByteArray) (l : List (Int × Int)) (s : ByteArray) (h : s.size = 0) (hm : rdMid t l s) : rdAll t = some l := by
  unfold rdMid at hm
  rw [hm, rdAll_end s h]; simp

theorem rdMid_bad (t : ByteArray) (l : List (Int × Int)) (s : ByteArray) (h : s.size ≠ 0) (hb : rdBad s) (hm : rdMid t l s) : rdAll t = none := by
  unfold rdMid at hm
  rw [hm, rdAll_bad s h hb]; rfl

end Go.Proofs.Ytjjakgmjoplhoaa
/-
  The two readers of numbers, walked: routelogref.number and number.Read answer the same number, of texts of at most seven bytes.
-/
namespace Go.Proofs.Ytjjakgmjoplhoaa
open Go.RowKit
open Rl

theorem ret_int {k : IntKind} {a b : Int} (h : a = b) : Ending.returned (.int k a) = .returned (.int k b) := by rw [h]

set_option maxHeartbeats 400000 in
theorem number_any (s : ByteArray) (w : World) (hs : s.size ≤ 7) :
    Calls Try.prog 34 #[.string s] w fun e w' => e = .returned (.int .i64 (num s.data.toList)) ∧ w' = w := by
  go_enter Try.func34, Try.ntmps34
  go_wp2
  go_loop [3, 4] (fun n i => ∃ k : Nat, k ≤ s.size ∧ i = .int .i64 k ∧ n = .int .i64 (num (s.data.toList.take k))) (fun _ i => s.size - (intOf i).toNat)
  case atStart => exact ⟨0, Nat.zero_le _, rfl, rfl⟩
  case round =>
    obtain ⟨k, hk, rfl, rfl⟩ := hrel
    by_cases hlt : k < s.size
    · obtain ⟨hb0, hb1⟩ := num_bound6 s k (by omega)
      have hc := byte_lt s[k]
      have HS : Hid (num (s.data.toList.take (k + 1)) = 256 * num (s.data.toList.take k) + (s[k].toNat : Int)) := num_take_succ s k hlt
      go_wp2
      go_round
      case rel => exact ⟨k + 1, by omega, by go_num, by rw [HS.out]⟩
      case measure => simp [intOf]; omega
    · go_wp2
      go_ret
      exact ⟨ret_int (by rw [List.take_of_length_le (by simp; omega)]), rfl⟩

set_option maxHeartbeats 400000 in
theorem read_any (s : ByteArray) (w : World) (hs : s.size ≤ 7) :
    Calls Try.prog 52 #[.string s] w fun e w' => e = .returned (.int .i64 (num s.data.toList)) ∧ w' = w := by
  go_enter Try.func52, Try.ntmps52
  go_wp2
  go_loop [3, 7] (fun n i => ∃ k : Nat, k ≤ s.size ∧ i = .int .i64 k ∧ n = .int .i64 (num (s.data.toList.take k))) (fun _ i => s.size - (intOf i).toNat)
  case atStart => exact ⟨0, Nat.zero_le _, rfl, rfl⟩
  case round =>
    obtain ⟨k, hk, rfl, rfl⟩ := hrel
    by_cases hlt : k < s.size
    · obtain ⟨hb0, hb1⟩ := num_bound6 s k (by omega)
      have hc := byte_lt s[k]
      have HS : Hid (num (s.data.toList.take (k + 1)) = 256 * num (s.data.toList.take k) + (s[k].toNat : Int)) := num_take_succ s k hlt
      go_wp2
      go_round
      case rel => exact ⟨k + 1, by omega, by go_num, by rw [HS.out, or_byte _ _ hb0 (by omega) hc.1 hc.2]⟩
      case measure => simp [intOf]; omega
    · go_wp2
      go_ret
      exact ⟨ret_int (by rw [List.take_of_length_le (by simp; omega)]), rfl⟩

end Go.Proofs.Ytjjakgmjoplhoaa
/-
  The two writers of numbers, walked: routelogref.bytes and number.Write answer the same bytes of a number that is not below 0.
-/
namespace Go.Proofs.Ytjjakgmjoplhoaa
open Go.RowKit
open Rl

theorem info_u8 : (Try.prog.info? 5).map (fun i => (i.zero, i.size, i.bytes)) = some (some (.int .u8 0), 1, 1) := by kernel_rfl

theorem zeros_u8 (m : Nat) : (madeCells (Value.int .u8 0).cells (m * 1)).toList = u8s (List.replicate m 0) := by
  apply List.ext_getElem?
  intro j
  by_cases h : j < m
  · simp [madeCells, u8s, Value.cells, h, Nat.mod_one]
  · simp [madeCells, u8s, h]

set_option maxHeartbeats 400000 in
theorem bytes_any (n m : Nat) (w : World) (hn : n < 9223372036854775808) (hm : m ≤ 8) :
    Calls Try.prog 45 #[.int .i64 n, .int .i64 m] w fun e w' => e = .returned (.string ⟨(be m n).toArray⟩) ∧ Below w.heap.size w w' := by
  obtain ⟨i0, hi, hz0, hz1, hz2⟩ := info_parts info_u8
  go_enter Try.func45, Try.ntmps45
  go_wp2_with (at_make; refine wpList_make_full _ rfl _ _ 59 rfl w.heap.size 5 i0 (.int .u8 0) 1 Try.underlying59 hi hz0 hz1 .i64 .i64 _ _ m rfl rfl rfl rfl (by rw [hz2]; omega) (by unfold maxLen; omega) (Nat.le_refl _) ?_; intro w1 hown hgrow)
  rw [zeros_u8] at hown
  go_loopw [0, 6] (fun x i wr => ∃ j : Nat, j ≤ m ∧ i = .int .i64 ((j : Int) - 1) ∧ x = .int .i64 ((n / 256 ^ (m - j) : Nat) : Int) ∧ wr.ownsRow w.heap.size 5 1 (.slice (some ⟨w.heap.size, 0, none⟩) m m) m (u8s (beRow m n j)) ∧ Below w.heap.size w wr) (fun _ i _ => (intOf i + 1).toNat)
  case atStart => exact ⟨m, Nat.le_refl _, rfl, by simp, by rw [beRow_all]; exact hown, (Below.refl _ _).grown hgrow (Nat.le_refl _) (by simp)⟩
  case round =>
    obtain ⟨j, hj, rfl, rfl, hr, hb⟩ := hrel
    cases j with
    | zero =>
      rw [beRow_zero] at hr
      have hconv : (convert 59 9 (.slice (some ⟨w.heap.size, 0, none⟩) m m)).run Try.prog wr = .ok (.string ⟨(be m n).toArray⟩) wr := by
        have h := run_convert_bytes_back (P := Try.prog) wr 59 9 5 ⟨w.heap.size, 0, none⟩ m (be m n) Try.underlying59 Try.underlying5 Try.underlying9 (by
          intro j hj
          have := hr.cellAt j (by rw [be_length] at hj; omega)
          rw [add_head, this, u8s_get _ _ hj])
        rwa [be_length] at h
      go_wp2
      go_ret
      exact ⟨rfl, hb⟩
    | succ j =>
      have hcell := hr.cellAt j (by omega)
      rw [u8s_get _ _ (by rw [beRow_length _ _ _ hj]; omega)] at hcell
      have hfrozen := hr.frozenAt j
      have hdiv := div_le' n (m - (j + 1))
      have H := hide (hr.stored j (.int .u8 (((n / 256 ^ (m - (j + 1)) : Nat) : Int) % 256)))
      have HS := hide (div_step n m j (by omega))
      have HR := hide (beRow_step m n j (by omega))
      generalize n / 256 ^ (m - (j + 1)) = q at *
      clear hr
      go_wp2
      go_roundw
      case rel => exact ⟨j, by omega, by go_num, by rw [← HS.out]; go_num, by have h := H.out.1; rw [set_u8s _ _ _ _ (toNat_mod q).symm, HR.out] at h; exact h, hb.setCell (by simp) _⟩
      case measure => simp [intOf]

set_option maxHeartbeats 400000 in
theorem write_any (n m : Nat) (w : World) (_hn : n < 9223372036854775808) (hm : m ≤ 8) :
    Calls Try.prog 62 #[.int .i64 n, .int .i64 m] w fun e w' => e = .returned (.string ⟨(be m n).toArray⟩) ∧ Below w.heap.size w w' := by
  obtain ⟨i0, hi, hz0, hz1, hz2⟩ := info_parts info_u8
  go_enter Try.func62, Try.ntmps62
  go_wp2_with (at_make; refine wpList_make_full _ rfl _ _ 59 rfl w.heap.size 5 i0 (.int .u8 0) 1 Try.underlying59 hi hz0 hz1 .i64 .i64 _ _ m rfl rfl rfl rfl (by rw [hz2]; omega) (by unfold maxLen; omega) (Nat.le_refl _) ?_; intro w1 hown hgrow)
  rw [zeros_u8] at hown
  go_loopw [0, 6] (fun x i wr => ∃ j : Nat, j ≤ m ∧ i = .int .i64 ((j : Int) - 1) ∧ x = .int .i64 ((n / 256 ^ (m - j) : Nat) : Int) ∧ wr.ownsRow w.heap.size 5 1 (.slice (some ⟨w.heap.size, 0, none⟩) m m) m (u8s (beRow m n j)) ∧ Below w.heap.size w wr) (fun _ i _ => (intOf i + 1).toNat)
  case atStart => exact ⟨m, Nat.le_refl _, rfl, by simp, by rw [beRow_all]; exact hown, (Below.refl _ _).grown hgrow (Nat.le_refl _) (by simp)⟩
  case round =>
    obtain ⟨j, hj, rfl, rfl, hr, hb⟩ := hrel
    cases j with
    | zero =>
      rw [beRow_zero] at hr
      have hconv : (convert 59 9 (.slice (some ⟨w.heap.size, 0, none⟩) m m)).run Try.prog wr = .ok (.string ⟨(be m n).toArray⟩) wr := by
        have h := run_convert_bytes_back (P := Try.prog) wr 59 9 5 ⟨w.heap.size, 0, none⟩ m (be m n) Try.underlying59 Try.underlying5 Try.underlying9 (by
          intro j hj
          have := hr.cellAt j (by rw [be_length] at hj; omega)
          rw [add_head, this, u8s_get _ _ hj])
        rwa [be_length] at h
      go_wp2
      go_ret
      exact ⟨rfl, hb⟩
    | succ j =>
      have hcell := hr.cellAt j (by omega)
      rw [u8s_get _ _ (by rw [beRow_length _ _ _ hj]; omega)] at hcell
      have hfrozen := hr.frozenAt j
      have hdiv := div_le' n (m - (j + 1))
      have H := hide (hr.stored j (.int .u8 (((n / 256 ^ (m - (j + 1)) : Nat) : Int) % 256)))
      have HS := hide (div_step n m j (by omega))
      have HR := hide (beRow_step m n j (by omega))
      generalize n / 256 ^ (m - (j + 1)) = q at *
      clear hr
      go_wp2
      go_roundw
      case rel => exact ⟨j, by omega, by go_num, by rw [← HS.out]; go_num, by have h := H.out.1; rw [set_u8s _ _ _ _ (toNat_mod q).symm, HR.out] at h; exact h, hb.setCell (by simp) _⟩
      case measure => simp [intOf]

end Go.Proofs.Ytjjakgmjoplhoaa
