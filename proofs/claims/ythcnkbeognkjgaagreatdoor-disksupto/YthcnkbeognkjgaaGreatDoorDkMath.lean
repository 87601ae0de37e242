/-
  Disks as plain data: files in the order of their names, room, the calls until the disk breaks; and what the calls do to them.
-/
import Derived.Test.YthcnkbeognkjgaaGreatDoorNumMath
import Derived.WalkSmall
namespace Go.Proofs.YthcnkbeognkjgaaGreatDoor
namespace Rl

structure FileM where
  name : ByteArray
  data : ByteArray
  sync : Nat

structure DiskM where
  room : Int
  files : List FileM
  left : Int

/-- the place of a file of this name. -/
def placeF (name : ByteArray) : List FileM → Option Nat
  | [] => none
  | f :: r => if f.name = name then some 0 else (placeF name r).map (· + 1)

theorem placeF_lt {name : ByteArray} : ∀ {l : List FileM} {k : Nat}, placeF name l = some k → ∃ h : k < l.length, l[k].name = name ∧ ∀ j (hj : j < k), (l[j]'(by omega)).name ≠ name := by
  intro l
  induction l with
  | nil => intro k h; cases h
  | cons f r ih =>
    intro k h
    unfold placeF at h
    split at h
    · injection h with h; subst h; exact ⟨by simp, by simpa, by intro j hj; omega⟩
    · cases hp : placeF name r with
      | none => rw [hp] at h; cases h
      | some j =>
        rw [hp] at h; simp at h; subst h
        obtain ⟨h1, h2, h3⟩ := ih hp
        refine ⟨by simp; omega, by simpa using h2, ?_⟩
        intro i hi
        cases i with
        | zero => simpa
        | succ i => simpa using h3 i (by omega)

theorem placeF_none {name : ByteArray} : ∀ {l : List FileM}, placeF name l = none → ∀ j (hj : j < l.length), l[j].name ≠ name := by
  intro l
  induction l with
  | nil => intro _ j hj; simp at hj
  | cons f r ih =>
    intro h j hj
    unfold placeF at h
    split at h
    · cases h
    · have hr : placeF name r = none := by
        cases hp : placeF name r with
        | none => rfl
        | some k => rw [hp] at h; cases h
      cases j with
      | zero => simpa
      | succ j => simpa using ih hr j (by simpa using hj)

/-- how far the search has come: none of the first k has this name. -/
theorem placeF_at {name : ByteArray} {l : List FileM} {k : Nat} (h : ∀ j (hj : j < l.length), j < k → l[j].name ≠ name) (hk : k < l.length) (hn : l[k].name = name) : placeF name l = some k := by
  cases hp : placeF name l with
  | none => exact absurd hn (placeF_none hp k hk)
  | some i =>
    obtain ⟨h1, h2, h3⟩ := placeF_lt hp
    by_cases hik : i < k
    · exact absurd h2 (h i h1 hik)
    · by_cases hki : k < i
      · exact absurd hn (h3 k hki)
      · have : i = k := by omega
        rw [this]

theorem placeF_no {name : ByteArray} {l : List FileM} (h : ∀ j (hj : j < l.length), l[j].name ≠ name) : placeF name l = none := by
  cases hp : placeF name l with
  | none => rfl
  | some i => obtain ⟨h1, h2, _⟩ := placeF_lt hp; exact absurd h2 (h i h1)

/-- the bytes of all files. -/
def usedF : List FileM → Nat
  | [] => 0
  | f :: r => f.data.size + usedF r

theorem usedF_app (l m : List FileM) : usedF (l ++ m) = usedF l + usedF m := by
  induction l with
  | nil => simp [usedF]
  | cons f r ih => simp [usedF, ih]; omega

theorem usedF_take (l : List FileM) (k : Nat) (h : k < l.length) : usedF (l.take (k + 1)) = usedF (l.take k) + l[k].data.size := by
  rw [List.take_succ_eq_append_getElem h, usedF_app]; simp [usedF]

theorem usedF_le (l : List FileM) (k : Nat) : usedF (l.take k) ≤ usedF l := by
  have h : usedF l = usedF (l.take k) + usedF (l.drop k) := by rw [← usedF_app, List.take_append_drop]
  omega

/-- is this a name? -/
def nameOk (s : ByteArray) : Bool := decide (1 ≤ s.size ∧ s.size ≤ 8)

/-- one call more has answered OK. -/
def lessC (n : Int) : Int := if 0 < n then n - 1 else n

/-- is the name a ahead of b, by their bytes? -/
def ltN (a b : ByteArray) : Bool := Op.bytesLess a.toList b.toList

/-- a file more, in its place. -/
def putF (f : FileM) : List FileM → List FileM
  | [] => [f]
  | x :: r => if ltN f.name x.name = true then f :: x :: r else x :: putF f r

def anyLt (f : FileM) (l : List FileM) : Bool := l.any fun x => ltN f.name x.name

theorem anyLt_snoc (f : FileM) (l : List FileM) (x : FileM) : anyLt f (l ++ [x]) = (anyLt f l || ltN f.name x.name) := by simp [anyLt]

theorem putF_done (f x : FileM) : ∀ l : List FileM, anyLt f l = true → putF f (l ++ [x]) = putF f l ++ [x] := by
  intro l
  induction l with
  | nil => intro h; simp [anyLt] at h
  | cons a r ih =>
    intro h
    by_cases ha : ltN f.name a.name = true
    · simp [putF, ha]
    · have hr : anyLt f r = true := by simp [anyLt] at h ⊢; rcases h with h | h; exact absurd h ha; exact h
      simp [putF, ha, ih hr]

theorem putF_end (f : FileM) : ∀ l : List FileM, anyLt f l = false → putF f l = l ++ [f] := by
  intro l
  induction l with
  | nil => intro _; rfl
  | cons a r ih =>
    intro h
    have ha : ltN f.name a.name = false := by simp [anyLt] at h; exact h.1
    have hr : anyLt f r = false := by simp [anyLt] at h ⊢; exact h.2
    simp [putF, ha, ih hr]

theorem putF_new (f x : FileM) : ∀ l : List FileM, anyLt f l = false → ltN f.name x.name = true → putF f (l ++ [x]) = l ++ [f, x] := by
  intro l
  induction l with
  | nil => intro _ hx; simp [putF, hx]
  | cons a r ih =>
    intro h hx
    have ha : ltN f.name a.name = false := by simp [anyLt] at h; exact h.1
    have hr : anyLt f r = false := by simp [anyLt] at h ⊢; exact h.2
    simp [putF, ha, ih hr hx]

theorem putF_length (f : FileM) (l : List FileM) : (putF f l).length = l.length + 1 := by
  induction l with
  | nil => rfl
  | cons a r ih => unfold putF; split <;> simp [ih]

/-- three cells a file. -/
def fileCells (l : List FileM) : List Value := l.flatMap fun f => [.string f.name, .string f.data, .int .i64 (f.sync : Int)]

theorem fileCells_length (l : List FileM) : (fileCells l).length = l.length * 3 := by
  induction l with
  | nil => rfl
  | cons f r ih => simp [fileCells, List.flatMap_cons] at ih ⊢; omega

theorem fileCells_app (l m : List FileM) : fileCells (l ++ m) = fileCells l ++ fileCells m := by simp [fileCells]

theorem fileCells_get : ∀ (l : List FileM) (j : Nat) (h : j < l.length), (fileCells l)[j * 3]? = some (.string l[j].name) ∧ (fileCells l)[j * 3 + 1]? = some (.string l[j].data) ∧ (fileCells l)[j * 3 + 2]? = some (.int .i64 (l[j].sync : Int)) := by
  intro l
  induction l with
  | nil => intro j h; simp at h
  | cons f r ih =>
    intro j h
    have e : fileCells (f :: r) = .string f.name :: .string f.data :: .int .i64 (f.sync : Int) :: fileCells r := rfl
    cases j with
    | zero => rw [e]; exact ⟨rfl, rfl, rfl⟩
    | succ j =>
      have hj : j < r.length := by simpa using h
      obtain ⟨h1, h2, h3⟩ := ih j hj
      rw [e]
      refine ⟨?_, ?_, ?_⟩
      · rw [show (j + 1) * 3 = j * 3 + 1 + 1 + 1 by omega]; simpa using h1
      · rw [show (j + 1) * 3 + 1 = (j * 3 + 1) + 1 + 1 + 1 by omega]; simpa using h2
      · rw [show (j + 1) * 3 + 2 = (j * 3 + 2) + 1 + 1 + 1 by omega]; simpa using h3

end Rl
end Go.Proofs.YthcnkbeognkjgaaGreatDoor
