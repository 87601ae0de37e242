/-
  What Update answers, as a plain function of the bytes; the readers' contracts, by what they answer.
-/
import Derived.Test.YteoacdkgicfomaaChange
import Derived.Test.YteoacdkgicfomaaPartsWalks
import Derived.Test.YteoacdkgicfomaaRdWalks
import Derived.Test.YteoacdkgicfomaaFrameWalks
namespace Go.Proofs.Yteoacdkgicfomaa
open Go.RowKit
open Rl

/-- the error, what is withdrawn, what is announced, the attributes. -/
structure Upd where
  err : Int
  gone : List (Int × Int)
  come : List (Int × Int)
  text : List UInt8

def updBody (g a : List (Int × Int)) (l : List At) (sp : Bool) : Upd :=
  if a.length = 0 then ⟨0, g, [], []⟩
  else if sp = true ∨ needN l ≠ 3 then ⟨0, g ++ a, [], []⟩
  else ⟨0, g, a, canTo l 256⟩

def updParts (c : ByteArray) : Upd :=
  if partsOk c = true then
    match rdAll (cutHead c), rdAll (cutTail (cutTail c)), akOf (cutHead (cutTail c)) with
    | some g, some a, some (l, sp) => updBody g a l sp
    | _, _, _ => ⟨3, [], [], []⟩
  else ⟨3, [], [], []⟩

def frameOk (m : ByteArray) : Bool := decide (frE m.data.toList = 0 ∧ frN m.data.toList = m.size ∧ frK m.data.toList = 2)

def upd (m : ByteArray) : Upd := if frameOk m = true then updParts (m.extract 19 m.size) else ⟨2, [], [], []⟩

/-- two rows that the caller owns share nothing. -/
def Apart (v1 v2 : Value) : Prop := ∀ k, v1.ownBlock = some k → v2.ownBlock ≠ some k

theorem rd_yes (s : ByteArray) (l : List (Int × Int)) (w : World) (hs : s.size ≤ 1048576) (h : rdAll s = some l) :
    Calls Try.prog 54 #[.string s] w fun e w' => ∃ a c, e = .returned (.tuple #[.slice a l.length c, .bool true]) ∧ Below w.heap.size w w' ∧ w'.ownsRow w.heap.size 36 2 (.slice a l.length c) l.length (pfCells l) ∧ l.length ≤ s.size := by
  refine (readPrefixes_any s w hs).mono ?_
  rintro e w' ⟨v, he, hb, hy, _⟩
  obtain ⟨ho, hl⟩ := hy l h
  obtain ⟨a, c, rfl⟩ := slice_of_owns ho
  exact ⟨a, c, by rw [he, h]; rfl, hb, ho, hl⟩

theorem rd_no (s : ByteArray) (w : World) (hs : s.size ≤ 1048576) (h : rdAll s = none) :
    Calls Try.prog 54 #[.string s] w fun e w' => e = .returned (.tuple #[.slice none 0 0, .bool false]) ∧ Below w.heap.size w w' := by
  refine (readPrefixes_any s w hs).mono ?_
  rintro e w' ⟨v, he, hb, _, hn⟩
  exact ⟨by rw [he, h, hn h]; rfl, hb⟩

theorem ak_yes (s : ByteArray) (l : List At) (sp : Bool) (w : World) (hs : s.size ≤ 1048576) (h : akOf s = some (l, sp)) :
    Calls Try.prog 55 #[.string s] w fun e w' => ∃ v l', e = .returned (.tuple #[v, .bool sp, .int .i64 0]) ∧ Below w.heap.size w w' ∧ l'.Perm l ∧ ByKind l' ∧ RowAt w' v l'.length 3 (atCells l') ∧ Kep s.size (fun _ => true) l ∧ l.length ≤ s.size := by
  refine (readAttributes_any s w hs).mono ?_
  rintro e w' ⟨hb, _, hy⟩
  obtain ⟨v, l', he, hp, ho, hown, hk, hl⟩ := hy l sp h
  exact ⟨v, l', he, hb, hp, ho, rowAt_of_owns hown, hk, hl⟩

theorem ak_no (s : ByteArray) (w : World) (hs : s.size ≤ 1048576) (h : akOf s = none) :
    Calls Try.prog 55 #[.string s] w fun e w' => e = .returned (.tuple #[.slice none 0 0, .bool false, .int .i64 3]) ∧ Below w.heap.size w w' := by
  refine (readAttributes_any s w hs).mono ?_
  rintro e w' ⟨hb, hn, _⟩
  exact ⟨hn h, hb⟩

/-- what the bytes of a text of canonical attributes come to. -/
theorem canTo_perm_sorted {l l' : List At} (hp : l'.Perm l) (ho : (l.map (·.kind)).Nodup) (hb : ByKind l') (hk : ∀ a ∈ l, a.kind < 256) : l'.flatMap atCan = canTo l 256 := by
  rw [← canTo_all l' hb (fun a ha => hk a (hp.mem_iff.1 ha)), canTo_perm hp ho]

theorem atCan_le (l : List At) (m : Nat) (h : ∀ a ∈ l, a.val.size ≤ m) : (l.flatMap atCan).length ≤ l.length * (m + 4) := by
  induction l with
  | nil => simp
  | cons a l ih =>
    rw [List.flatMap_cons, List.length_append, List.length_cons, Nat.succ_mul]
    have h1 := ih (fun b hb => h b (List.mem_cons_of_mem _ hb))
    have h2 := h a (List.mem_cons_self ..)
    have h3 : (atCan a).length = 2 + 2 + a.val.size := by unfold atCan; rw [atBytes_length]
    omega

end Go.Proofs.Yteoacdkgicfomaa
