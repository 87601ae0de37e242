/-
  What Announce answers, as a plain function of the attributes' text and the prefixes.
-/
import Derived.Test.YteoacdkgicfomaaCanonMath
import Derived.Test.YteoacdkgicfomaaPfxMath
import Derived.Test.YteoacdkgicfomaaFrameMath
namespace Go.Proofs.Yteoacdkgicfomaa
open Go.RowKit
namespace Rl

/-- an attribute's bytes, its value's length in z bytes. -/
def atBytes (f k z : Nat) (v : ByteArray) : List UInt8 := be 1 f ++ (be 1 k ++ (be z v.size ++ v.data.toList))

theorem atBytes_length (f k z : Nat) (v : ByteArray) : (atBytes f k z v).length = 2 + z + v.size := by
  simp [atBytes, be_length]; omega

/-- an attribute as an update has it: its flags have 16 more just if its value has more than 255 bytes. -/
def atWire (a : At) : List UInt8 := if a.val.size ≤ 255 then atBytes a.flags a.kind 1 a.val else atBytes (a.flags + 16) a.kind 2 a.val

theorem atWire_length (a : At) : (atWire a).length ≤ 4 + a.val.size := by
  unfold atWire; split <;> rw [atBytes_length] <;> omega

/-- an attribute of a canonical text of at most m bytes. -/
def atFine (m : Nat) (a : At) : Prop := a.flags < 240 ∧ a.flags / 16 % 2 = 0 ∧ a.kind < 256 ∧ a.val.size ≤ m

theorem atOk_flags (f k : Nat) (v : ByteArray) (h : atOk f k v = true) : f < 240 ∧ f / 16 % 2 = 0 := by
  unfold atOk at h
  cases hk : knownB k with
  | true =>
    rw [if_pos hk, Bool.and_eq_true] at h
    have h1 := of_decide_eq_true h.1
    rcases flagsI_known k hk with e | e | e <;> rw [e] at h1 <;> omega
  | false =>
    rw [if_neg (by simp [hk])] at h
    have h1 := of_decide_eq_true h
    omega

theorem canF_fine : ∀ (f : Nat) (t : ByteArray) (last : Int) (l : List At), canF f t last = some l → (∀ a ∈ l, atFine t.size a) ∧ (l.flatMap atWire).length ≤ t.size := by
  intro f; induction f with
  | zero => intro t last l h; simp [canF] at h
  | succ f ih =>
    intro t last l h
    simp only [canF] at h
    by_cases h0 : t.size = 0
    · rw [if_pos h0] at h; cases h; exact ⟨by simp, by simp⟩
    · rw [if_neg h0] at h
      by_cases ho : canOk t last = true
      · rw [if_pos ho] at h
        cases hr : canF f (restC t) (headC t).kind with
        | none => rw [hr] at h; simp at h
        | some r =>
          rw [hr] at h
          simp at h
          subst h
          obtain ⟨h1, h2⟩ := ih _ _ _ hr
          unfold canOk at ho
          rw [Bool.and_eq_true, Bool.and_eq_true] at ho
          have hw := ho.1.1
          have hs := restC_size t hw
          have hfl := atOk_flags _ _ _ ho.2
          have hvs : (headC t).val.size + 4 + (restC t).size ≤ t.size := by
            unfold wholeZ at hw
            rw [decide_eq_true_iff] at hw
            have e1 : (headC t).val.size ≤ lenZ 2 t := by unfold headC headZ; simp only; rw [ByteArray.size_extract]; omega
            have e2 : (restC t).size = t.size - (2 + 2 + lenZ 2 t) := by unfold restC restZ; rw [ByteArray.size_extract]; omega
            omega
          refine ⟨?_, ?_⟩
          · intro a ha
            rcases List.mem_cons.1 ha with rfl | ha
            · exact ⟨hfl.1, hfl.2, headC_kind t, headC_val t⟩
            · obtain ⟨g1, g2, g3, g4⟩ := h1 a ha
              exact ⟨g1, g2, g3, by omega⟩
          · rw [List.flatMap_cons, List.length_append]
            have := atWire_length (headC t)
            omega
      · rw [if_neg ho] at h; simp at h

theorem canL_fine (s : ByteArray) : (∀ a ∈ canL s, atFine s.size a) ∧ ((canL s).flatMap atWire).length ≤ s.size := by
  unfold canL
  cases h : canR s (-1) with
  | none => exact ⟨by simp, by simp⟩
  | some l => exact canF_fine _ _ _ _ h

/-- the attributes' bytes in an update. -/
def annA (s : ByteArray) : List UInt8 := (canL s).flatMap atWire

/-- prefixes as naturals. -/
def pfNats (l : List (Int × Int)) : List (Nat × Nat) := l.map fun p => (p.1.toNat, p.2.toNat)

theorem pfNats_length (l : List (Int × Int)) : (pfNats l).length = l.length := by simp [pfNats]

theorem pfNats_ints (l : List (Int × Int)) (h : pfAll l = true) : pfInts (pfNats l) = l := by
  unfold pfAll at h
  rw [List.all_eq_true] at h
  unfold pfInts pfNats
  rw [List.map_map]
  conv => rhs; rw [← List.map_id l]
  apply List.map_congr_left
  intro p hp
  obtain ⟨h0, h1, h2, h3⟩ := pfxOk_bounds _ _ (h p hp)
  simp only [Function.comp, id]
  rw [Int.toNat_of_nonneg h2, Int.toNat_of_nonneg h0]

theorem pfNats_bounds (l : List (Int × Int)) (h : pfAll l = true) : ∀ p ∈ pfNats l, p.1 ≤ 4294967295 ∧ p.2 ≤ 32 := by
  intro p hp
  unfold pfNats at hp
  rw [List.mem_map] at hp
  obtain ⟨q, hq, rfl⟩ := hp
  unfold pfAll at h
  rw [List.all_eq_true] at h
  obtain ⟨h0, h1, h2, h3⟩ := pfxOk_bounds _ _ (h q hq)
  simp only
  omega

/-- the content of the update. -/
def annC (s : ByteArray) (l : List (Int × Int)) : List UInt8 := be 2 0 ++ (be 2 (annA s).length ++ (annA s ++ pfWire (pfNats l)))

/-- a message of a type with its content. -/
def msgOf (k : Nat) (c : List UInt8) : List UInt8 := mark16 ++ (be 2 (19 + c.length) ++ (be 1 k ++ c))

theorem msgOf_length (k : Nat) (c : List UInt8) : (msgOf k c).length = 19 + c.length := by
  simp [msgOf, mark16, be_length]; omega

def annOk (s : ByteArray) (l : List (Int × Int)) : Bool := canB s && (!l.isEmpty && pfAll l)

def annM (s : ByteArray) (l : List (Int × Int)) : List UInt8 :=
  if annOk s l = true then (if 200 < 19 + (annC s l).length then [] else msgOf 2 (annC s l)) else []
def annE (s : ByteArray) (l : List (Int × Int)) : Int :=
  if annOk s l = true then (if 200 < 19 + (annC s l).length then 4 else 0) else 5

theorem ann_bad (s : ByteArray) (l : List (Int × Int)) (h : annOk s l = false) : annM s l = [] ∧ annE s l = 5 := by
  unfold annM annE; rw [if_neg (by simp [h]), if_neg (by simp [h])]; exact ⟨rfl, rfl⟩

theorem ann_long (s : ByteArray) (l : List (Int × Int)) (h : annOk s l = true) (h2 : 200 < 19 + (annC s l).length) : annM s l = [] ∧ annE s l = 4 := by
  unfold annM annE; rw [if_pos h, if_pos h, if_pos h2, if_pos h2]; exact ⟨rfl, rfl⟩

theorem ann_good (s : ByteArray) (l : List (Int × Int)) (h : annOk s l = true) (h2 : ¬ 200 < 19 + (annC s l).length) : annM s l = msgOf 2 (annC s l) ∧ annE s l = 0 := by
  unfold annM annE; rw [if_pos h, if_pos h, if_neg h2, if_neg h2]; exact ⟨rfl, rfl⟩

theorem annOk_can (s : ByteArray) (l : List (Int × Int)) (h : canB s = false) : annOk s l = false := by simp [annOk, h]
theorem annOk_nil (s : ByteArray) : annOk s [] = false := by simp [annOk]
theorem annOk_all (s : ByteArray) (l : List (Int × Int)) (h : pfAll l = false) : annOk s l = false := by simp [annOk, h]
theorem annOk_yes (s : ByteArray) (l : List (Int × Int)) (h : canB s = true) (h0 : l.length ≠ 0) (h1 : pfAll l = true) : annOk s l = true := by
  cases l with
  | nil => simp at h0
  | cons p l => simp [annOk, h, h1]

theorem pfWire_nats_le (l : List (Int × Int)) (h : pfAll l = true) : (pfWire (pfNats l)).length ≤ 5 * l.length := by
  have := pfWire_le (pfNats l) fun p hp => (pfNats_bounds l h p hp).2
  rwa [pfNats_length] at this

theorem annC_length (s : ByteArray) (l : List (Int × Int)) : (annC s l).length = 4 + (annA s).length + (pfWire (pfNats l)).length := by
  simp [annC, be_length]; omega

end Rl
end Go.Proofs.Yteoacdkgicfomaa
