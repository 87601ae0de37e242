/-
  An update's attributes: what is kept of them, as a plain function of the bytes.
-/
import Derived.Test.YteoacdkgicfomaaAttrMath
namespace Go.Proofs.Yteoacdkgicfomaa
open Go.RowKit
namespace Rl

/-- how many bytes tell the length of the value that begins t. -/
def zOf (t : ByteArray) : Nat := if at8 t.data.toList 0 / 16 % 2 = 1 then 2 else 1

theorem zOf_le (t : ByteArray) : 1 ≤ zOf t ∧ zOf t ≤ 2 := by unfold zOf; split <;> omega

def akW (t : ByteArray) : Bool := wholeZ (zOf t) t
def akH (t : ByteArray) : At := headZ (zOf t) t
def akR (t : ByteArray) : ByteArray := restZ (zOf t) t

theorem akH_flags (t : ByteArray) : (akH t).flags < 256 := at8_lt _ _
theorem akH_kind (t : ByteArray) : (akH t).kind < 256 := at8_lt _ _
theorem akH_val (t : ByteArray) : (akH t).val.size ≤ t.size := by
  unfold akH headZ; simp only; rw [ByteArray.size_extract]; omega

theorem akR_size (t : ByteArray) (h : akW t = true) : (akR t).size + 3 + (akH t).val.size ≤ t.size := by
  have hz := zOf_le t
  unfold akW wholeZ at h
  rw [decide_eq_true_iff] at h
  unfold akR akH restZ headZ
  simp only
  rw [ByteArray.size_extract, ByteArray.size_extract]
  omega

/-- what one attribute of a new type does. -/
inductive Did where
  | keep (g : Nat) | pass | spoil | ends
  deriving DecidableEq

def didOf (f k : Nat) (v : ByteArray) : Did :=
  if knownB k = true then
    (if ((f / 64 * 64 : Nat) : Int) = flagsI k ∧ rightB k v = true then .keep (flagsI k).toNat else if k = 6 ∨ k = 7 then .pass else .spoil)
  else if f < 128 then .ends else if f % 128 < 64 then .pass else .keep (192 + f % 64 / 32 * 32)

/-- the types that have been met, and one more. -/
def met (sn : Nat → Bool) (k : Nat) : Nat → Bool := fun i => if i = k then true else sn i

theorem met_self (sn : Nat → Bool) (k : Nat) : met sn k k = true := by simp [met]
theorem met_other (sn : Nat → Bool) (k i : Nat) (h : i ≠ k) : met sn k i = sn i := by simp [met, h]
theorem met_of (sn : Nat → Bool) (k i : Nat) (h : sn i = true) : met sn k i = true := by unfold met; split <;> simp_all

/-- what is kept, behind what has been met; none: an attribute ends the session. -/
def akAll (s : ByteArray) (sn : Nat → Bool) (l : List At) (sp : Bool) : Option (List At × Bool) :=
  if s.size = 0 then some (l, sp)
  else if _hw : akW s = true then
    (if sn (akH s).kind = true then akAll (akR s) sn l sp
    else match didOf (akH s).flags (akH s).kind (akH s).val with
      | .keep g => akAll (akR s) (met sn (akH s).kind) (l ++ [⟨g, (akH s).kind, (akH s).val⟩]) sp
      | .pass => akAll (akR s) (met sn (akH s).kind) l sp
      | .spoil => akAll (akR s) (met sn (akH s).kind) l true
      | .ends => none)
  else some (l, true)
termination_by s.size
decreasing_by all_goals (have := akR_size s (by assumption); omega)

variable {s : ByteArray} {sn : Nat → Bool} {l : List At} {sp : Bool}

theorem akAll_end (h : s.size = 0) : akAll s sn l sp = some (l, sp) := by rw [akAll, if_pos h]
theorem akAll_cut (h : ¬ s.size = 0) (hw : akW s = false) : akAll s sn l sp = some (l, true) := by rw [akAll, if_neg h, dif_neg (by simp [hw])]
theorem akAll_again (h : ¬ s.size = 0) (hw : akW s = true) (hs : sn (akH s).kind = true) : akAll s sn l sp = akAll (akR s) sn l sp := by rw [akAll, if_neg h, dif_pos hw, if_pos hs]
theorem akAll_keep (h : ¬ s.size = 0) (hw : akW s = true) (hs : sn (akH s).kind = false) (g : Nat) (hd : didOf (akH s).flags (akH s).kind (akH s).val = .keep g) : akAll s sn l sp = akAll (akR s) (met sn (akH s).kind) (l ++ [⟨g, (akH s).kind, (akH s).val⟩]) sp := by rw [akAll, if_neg h, dif_pos hw, if_neg (by simp [hs]), hd]
theorem akAll_pass (h : ¬ s.size = 0) (hw : akW s = true) (hs : sn (akH s).kind = false) (hd : didOf (akH s).flags (akH s).kind (akH s).val = .pass) : akAll s sn l sp = akAll (akR s) (met sn (akH s).kind) l sp := by rw [akAll, if_neg h, dif_pos hw, if_neg (by simp [hs]), hd]
theorem akAll_spoil (h : ¬ s.size = 0) (hw : akW s = true) (hs : sn (akH s).kind = false) (hd : didOf (akH s).flags (akH s).kind (akH s).val = .spoil) : akAll s sn l sp = akAll (akR s) (met sn (akH s).kind) l true := by rw [akAll, if_neg h, dif_pos hw, if_neg (by simp [hs]), hd]
theorem akAll_ends (h : ¬ s.size = 0) (hw : akW s = true) (hs : sn (akH s).kind = false) (hd : didOf (akH s).flags (akH s).kind (akH s).val = .ends) : akAll s sn l sp = none := by rw [akAll, if_neg h, dif_pos hw, if_neg (by simp [hs]), hd]

/-- the attributes of an update's bytes. -/
def akOf (s : ByteArray) : Option (List At × Bool) := akAll s (fun _ => false) [] false

/-- what is kept may be kept: its types have been met, none twice, in bounds. -/
structure Kep (m : Nat) (sn : Nat → Bool) (l : List At) : Prop where
  seen : ∀ a ∈ l, sn a.kind = true
  once : (l.map (·.kind)).Nodup
  fine : ∀ a ∈ l, a.flags < 256 ∧ a.kind < 256 ∧ a.val.size ≤ m

theorem Kep.start (m : Nat) : Kep m (fun _ => false) [] := ⟨by simp, by simp, by simp⟩

theorem Kep.met {m : Nat} (h : Kep m sn l) (k : Nat) : Kep m (met sn k) l := ⟨fun a ha => met_of _ _ _ (h.seen a ha), h.once, h.fine⟩

theorem Kep.fresh {m : Nat} (h : Kep m sn l) (k : Nat) (hs : sn k = false) : ∀ a ∈ l, a.kind ≠ k := by
  intro a ha e
  have := h.seen a ha
  rw [e, hs] at this; simp at this

theorem Kep.keep {m : Nat} (h : Kep m sn l) (k : Nat) (hs : sn k = false) (g : Nat) (v : ByteArray) (hg : g < 256) (hk : k < 256) (hv : v.size ≤ m) : Kep m (Rl.met sn k) (l ++ [⟨g, k, v⟩]) := by
  refine ⟨fun a ha => ?_, ?_, fun a ha => ?_⟩
  · rcases List.mem_append.1 ha with ha | ha
    · exact met_of _ _ _ (h.seen a ha)
    · simp at ha; subst ha; exact met_self _ _
  · rw [List.map_append, List.nodup_append]
    refine ⟨h.once, by simp, ?_⟩
    intro a ha b hb
    have hb2 : b = k := by simpa using hb
    obtain ⟨x, hx, rfl⟩ := List.mem_map.1 ha
    rw [hb2]
    exact h.fresh k hs x hx
  · rcases List.mem_append.1 ha with ha | ha
    · exact h.fine a ha
    · simp at ha; subst ha; exact ⟨hg, hk, hv⟩

/-- the flags that are kept of a type; -1: none. -/
def flagAt (l : List At) (i : Nat) : Int := match l.find? (fun a => a.kind == i) with
  | some a => a.flags
  | none => -1
/-- the value that is kept of a type. -/
def valAt (l : List At) (i : Nat) : ByteArray := match l.find? (fun a => a.kind == i) with
  | some a => a.val
  | none => ⟨#[]⟩

theorem find_fresh {l : List At} {k : Nat} (h : ∀ a ∈ l, a.kind ≠ k) : l.find? (fun a => a.kind == k) = none := by
  rw [List.find?_eq_none]; intro a ha; simpa using h a ha

theorem flagAt_snoc {l : List At} {k : Nat} (h : ∀ a ∈ l, a.kind ≠ k) (g : Nat) (v : ByteArray) (i : Nat) : flagAt (l ++ [⟨g, k, v⟩]) i = if i = k then (g : Int) else flagAt l i := by
  unfold flagAt
  rw [List.find?_append]
  by_cases e : i = k
  · subst e; rw [find_fresh h]; simp
  · rw [if_neg e]
    cases l.find? (fun a => a.kind == i) with
    | some a => rfl
    | none =>
      have : (k == i) = false := by rw [beq_eq_false_iff_ne]; omega
      simp [this]

theorem valAt_snoc {l : List At} {k : Nat} (h : ∀ a ∈ l, a.kind ≠ k) (g : Nat) (v : ByteArray) (i : Nat) : valAt (l ++ [⟨g, k, v⟩]) i = if i = k then v else valAt l i := by
  unfold valAt
  rw [List.find?_append]
  by_cases e : i = k
  · subst e; rw [find_fresh h]; simp
  · rw [if_neg e]
    cases l.find? (fun a => a.kind == i) with
    | some a => rfl
    | none =>
      have : (k == i) = false := by rw [beq_eq_false_iff_ne]; omega
      simp [this]

theorem flagAt_nil (i : Nat) : flagAt [] i = -1 := rfl
theorem valAt_nil (i : Nat) : valAt [] i = ⟨#[]⟩ := rfl
theorem flagAt_ge (l : List At) (i : Nat) : -1 ≤ flagAt l i := by
  unfold flagAt; split <;> omega

/-- the flags of what is kept are below 256. -/
theorem didOf_keep (f k : Nat) (v : ByteArray) (g : Nat) (h : didOf f k v = .keep g) : g < 256 := by
  unfold didOf at h
  split at h
  · next hk =>
    split at h
    · injection h with h
      rcases flagsI_known k hk with e | e | e <;> rw [e] at h <;> simp at h <;> omega
    · split at h <;> simp at h
  · split at h
    · simp at h
    · split at h
      · simp at h
      · injection h with h; omega

end Rl
end Go.Proofs.Yteoacdkgicfomaa
