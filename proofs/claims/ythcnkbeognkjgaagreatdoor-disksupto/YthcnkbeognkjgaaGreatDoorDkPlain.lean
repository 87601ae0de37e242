/-
  What the calls of a disk answer and make of it, as plain data: one text for the program's side and the document's.
-/
import Derived.Test.YthcnkbeognkjgaaGreatDoorDkList
import Derived.Test.YthcnkbeognkjgaaGreatDoorInts
namespace Go.Proofs.YthcnkbeognkjgaaGreatDoor
namespace Rl

def nms (l : List ByteArray) : List Value := l.map Value.string

theorem nms_length (l : List ByteArray) : (nms l).length = l.length := by simp [nms]

theorem nms_get (l : List ByteArray) (j : Nat) (h : j < l.length) : (nms l)[j * 1]? = some (.string l[j]) := by simp [nms, List.getElem?_eq_getElem h]

def allOk (l : List ByteArray) : Bool := l.all nameOk

def changeE (m : DiskM) (l : List ByteArray) (er : Int) : Int := if allOk l = true then (if m.left = 0 then 0 else er) else 6

def changeM (m : DiskM) (l : List ByteArray) (er : Int) (m2 : DiskM) : DiskM := if allOk l = true ∧ m.left ≠ 0 then (if er = 0 then { m2 with left := lessC m.left } else m2) else m

def fileE (m : DiskM) (name : ByteArray) (er : Int) : Int := if (lookF name m.files).isSome = true then er else 7

def fileM (m : DiskM) (name : ByteArray) (m2 : DiskM) : DiskM := if (lookF name m.files).isSome = true then m2 else m

def syncF (f : FileM) : FileM := { f with sync := f.data.size }

def truncF (f : FileM) (n : Nat) : FileM := { f with data := f.data.extract 0 n, sync := min f.sync n }

def syncM (m : DiskM) (name : ByteArray) : DiskM := match lookF name m.files with | some f => { m with files := setF (syncF f) m.files } | none => m

def deleteM (m : DiskM) (name : ByteArray) : DiskM := match placeF name m.files with | some k => { m with files := m.files.eraseIdx k } | none => m

def truncE (m : DiskM) (name : ByteArray) (n : Int) : Int := match lookF name m.files with | some f => if n < 0 ∨ (f.data.size : Int) < n then 5 else 0 | none => 7

def truncM (m : DiskM) (name : ByteArray) (n : Int) : DiskM := match lookF name m.files with | some f => if n < 0 ∨ (f.data.size : Int) < n then m else { m with files := setF (truncF f n.toNat) m.files } | none => m

def namedF (f : FileM) (name : ByteArray) : FileM := { f with name := name }

def renameM (m : DiskM) (name tn : ByteArray) : DiskM := match placeF name m.files, lookF name m.files with | some k, some f => { m with files := setF (namedF f tn) (m.files.eraseIdx k) } | _, _ => m

theorem usedF_mem {l : List FileM} {f : FileM} (h : f ∈ l) : f.data.size ≤ usedF l := by
  induction l with
  | nil => cases h
  | cons a r ih =>
    unfold usedF
    rcases List.mem_cons.1 h with rfl | h
    · omega
    · have := ih h; omega

def apF (m : DiskM) (name d : ByteArray) : FileM := match lookF name m.files with | some f => { f with data := f.data ++ d } | none => ⟨name, d, 0⟩

def apE (m : DiskM) (d : ByteArray) : Int := if m.room - (usedF m.files : Int) < (d.size : Int) then 8 else 0

def apM (m : DiskM) (name d : ByteArray) : DiskM := if m.room - (usedF m.files : Int) < (d.size : Int) then m else { m with files := setF (apF m name d) m.files }

def readS (m : DiskM) (s : ByteArray) : ByteArray := if nameOk s = true then (match lookF s m.files with | some f => f.data | none => ⟨#[]⟩) else ⟨#[]⟩

def readE (m : DiskM) (s : ByteArray) : Int := if nameOk s = true then (match lookF s m.files with | some _ => 0 | none => 7) else 6

def crashN (f : FileM) (more : Int) : Nat := f.sync + (min (max more 0) ((f.data.size : Int) - (f.sync : Int))).toNat

def crashF (f : FileM) (more : Int) : FileM := { f with data := f.data.extract 0 (crashN f more), sync := crashN f more }

def keepAt (keep : List Int) (i : Nat) : Int := keep.getD i 0

def crashL (keep : List Int) (l : List FileM) (k : Nat) : List FileM := (l.take k).mapIdx (fun i f => crashF f (keepAt keep i)) ++ l.drop k

def crashM (m : DiskM) (keep : List Int) : DiskM := { m with files := m.files.mapIdx (fun i f => crashF f (keepAt keep i)), left := -1 }

end Rl
end Go.Proofs.YthcnkbeognkjgaaGreatDoor
