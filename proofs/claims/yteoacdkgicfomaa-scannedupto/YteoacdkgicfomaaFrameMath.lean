/-
  What Frame answers, as a plain function of the bytes. Nothing of the program is named here.
-/
import Derived.Test.YteoacdkgicfomaaNumMath
import Derived.Lib.Strings
namespace Go.Proofs.Yteoacdkgicfomaa
open Go.RowKit
namespace Rl

/-- is every one of the first 16 bytes (of as many as there are) 255? -/
def marked (l : List UInt8) : Bool := (l.take 16).all (· == 255)

/-- the length that is told in a message's head. -/
def told2 (l : List UInt8) : Int := num ((l.drop 16).take 2)

def fr (l : List UInt8) : Int × Int × Int :=
  if marked l = true then
    if l.length < 18 then (0, 0, 0)
    else if told2 l < 19 ∨ 200 < told2 l then (0, 0, 2)
    else if (l.length : Int) < told2 l then (0, 0, 0)
    else (told2 l, ((l.getD 18 0).toNat : Int), 0)
  else (0, 0, 2)

def frN (l : List UInt8) : Int := (fr l).1
def frK (l : List UInt8) : Int := (fr l).2.1
def frE (l : List UInt8) : Int := (fr l).2.2

theorem fr_unmarked (l : List UInt8) (h : marked l = false) : frN l = 0 ∧ frK l = 0 ∧ frE l = 2 := by
  simp [frN, frK, frE, fr, h]

theorem fr_short (l : List UInt8) (h : marked l = true) (h1 : l.length < 18) : frN l = 0 ∧ frK l = 0 ∧ frE l = 0 := by
  simp [frN, frK, frE, fr, h, h1]

theorem fr_bad (l : List UInt8) (h : marked l = true) (h1 : ¬ l.length < 18) (h2 : told2 l < 19 ∨ 200 < told2 l) : frN l = 0 ∧ frK l = 0 ∧ frE l = 2 := by
  simp [frN, frK, frE, fr, h, h1, h2]

theorem fr_part (l : List UInt8) (h : marked l = true) (h1 : ¬ l.length < 18) (h2 : ¬ (told2 l < 19 ∨ 200 < told2 l)) (h3 : (l.length : Int) < told2 l) : frN l = 0 ∧ frK l = 0 ∧ frE l = 0 := by
  unfold frN frK frE fr
  rw [if_pos h, if_neg h1, if_neg h2, if_pos h3]; exact ⟨rfl, rfl, rfl⟩

theorem fr_whole (l : List UInt8) (h : marked l = true) (h1 : ¬ l.length < 18) (h2 : ¬ (told2 l < 19 ∨ 200 < told2 l)) (h3 : ¬ (l.length : Int) < told2 l) : frN l = told2 l ∧ frK l = ((l.getD 18 0).toNat : Int) ∧ frE l = 0 := by
  unfold frN frK frE fr
  rw [if_pos h, if_neg h1, if_neg h2, if_neg h3]; exact ⟨rfl, rfl, rfl⟩

theorem prefix_replicate : ∀ (n : Nat) (l : List UInt8), (List.replicate n 255 : List UInt8).length ≥ l.length → (l.isPrefixOf (List.replicate n (255 : UInt8)) = l.all (· == 255)) := by
  intro n
  induction n with
  | zero => intro l h; have e : l = [] := List.eq_nil_of_length_eq_zero (by simp at h; simpa using h)
            subst e; rfl
  | succ n ih =>
    intro l h
    cases l with
    | nil => rfl
    | cons c r =>
      rw [List.replicate_succ, List.isPrefixOf_cons_cons, ih r (by simp at h ⊢; omega), List.all_cons]

/-- the marks that a message begins with. -/
def mark16 : List UInt8 := List.replicate 16 255

theorem has_marks (l : List UInt8) : Lib.hasPrefix mark16 (l.take 16) = marked l := by
  unfold Lib.hasPrefix mark16 marked
  exact prefix_replicate 16 _ (by simp; omega)

theorem has_marks_short (l : List UInt8) (h : l.length ≤ 16) : Lib.hasPrefix mark16 l = marked l := by
  have := has_marks l
  rwa [List.take_of_length_le h] at this

/-- the first k bytes are 255. -/
def upTo (s : ByteArray) (k : Nat) : Prop := ∀ j (h : j < s.size), j < k → s[j] = 255

theorem upTo_zero (s : ByteArray) : upTo s 0 := fun _ _ h => absurd h (by omega)

theorem upTo_succ (s : ByteArray) (k : Nat) (h : k < s.size) (hu : upTo s k) (hb : s[k] = 255) : upTo s (k + 1) := by
  intro j hj hk
  by_cases e : j = k
  · subst e; exact hb
  · exact hu j hj (by omega)

theorem marked_iff (s : ByteArray) : marked s.data.toList = true ↔ upTo s 16 := by
  unfold marked upTo
  rw [List.all_eq_true]
  constructor
  · intro h j hj hk
    have e : s[j] = s.data.toList[j]'(by simpa using hj) := by rfl
    have m : s.data.toList[j]'(by simpa using hj) ∈ s.data.toList.take 16 := by
      rw [List.mem_take_iff_getElem]
      exact ⟨j, by simp; omega, rfl⟩
    have := h _ m
    rw [e]; simpa using this
  · intro h x hx
    rw [List.mem_take_iff_getElem] at hx
    obtain ⟨j, hj, rfl⟩ := hx
    have h2 : j < s.size := by simp at hj; omega
    have h3 : s[j] = 255 := h j h2 (by omega)
    have e : s[j] = s.data.toList[j]'(by simpa using h2) := by rfl
    rw [← e, h3]; rfl

theorem marked_end (s : ByteArray) (k : Nat) (hu : upTo s k) (h : ¬ k < s.size ∨ ¬ k < 16) : marked s.data.toList = true := by
  rw [marked_iff]
  intro j hj h16
  exact hu j hj (by omega)

end Rl
end Go.Proofs.Yteoacdkgicfomaa
