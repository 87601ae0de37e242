/-
  An update's attributes: what is kept of them, as a plain function of the bytes.
-/
import Derived.Test.YtjjakgmjoplhoaaB01
import Derived.Test.YtjjakgmjoplhoaaB03
import Derived.Test.YtjjakgmjoplhoaaB04
import Derived.Shelf.SlSortCmp.WholeK
import Derived.Laws.OwnMore
import Derived.Below
import Derived.Test.YtjjakgmjoplhoaaShelf
import Derived.Test.YtjjakgmjoplhoaaSortShelf
import Derived.Test.YtjjakgmjoplhoaaB02
namespace Go.Proofs.Ytjjakgmjoplhoaa
open Go.RowKit
namespace Rl

/-- how many bytes tell the length of the value that begins t. -/
def zOf (t : ByteArray) : Nat := if at8 t.data.toList 0 / 16 % 2 = 1 then 2 else 1

theorem zOf_le (t : ByteArray) : 1 ≤ zOf t ∧ zOf t ≤ 2 := by unfold zOf; split <;> omega

def akW (t : ByteArray) : Bool := wholeZ (zOf t) t
def akH (t : ByteArray) : At := headZ (zOf t) t
def akR (t : ByteArray) : ByteArray := restZ (zOf t) t

theorem akH_flags (t : ByteArray) : (akH t).flags < 256 := at8_lt _ _
theorem akH_kind (t : ByteArray) : (akH t).kind < 256 := at8_lt _ _
theorem akH_val (t : ByteArray) : (akH t).val.size ≤ t.size := by
  unfold akH headZ; simp only; rw [ByteArray.size_extract]; omega

theorem akR_size (t : ByteArray) (h : akW t = true) : (akR t).size + 3 + (akH t).val.size ≤ t.size := by
  have hz := zOf_le t
  unfold akW wholeZ at h
  rw [decide_eq_true_iff] at h
  unfold akR akH restZ headZ
  simp only
  rw [ByteArray.size_extract, ByteArray.size_extract]
  omega

/-- what one attribute of a new type does. -/
inductive Did where
  | keep (g : Nat) | pass | spoil | ends
  deriving DecidableEq

def didOf (f k : Nat) (v : ByteArray) : Did :=
  if knownB k = true then
    (if ((f / 64 * 64 : Nat) : Int) = flagsI k ∧ rightB k v = true then .keep (flagsI k).toNat else if k = 6 ∨ k = 7 then .pass else .spoil)
  else if f < 128 then .ends else if f % 128 < 64 then .pass else .keep (192 + f % 64 / 32 * 32)

/-- the types that have been met, and one more. -/
def met (sn : Nat → Bool) (k : Nat) : Nat → Bool := fun i => if i = k then true else sn i

theorem met_self (sn : Nat → Bool) (k : Nat) : met sn k k = true := by simp [met]
theorem met_other (sn : Nat → Bool) (k i : Nat) (h : i ≠ k) : met sn k i = sn i := by simp [met, h]
theorem met_of (sn : Nat → Bool) (k i : Nat) (h : sn i = true) : met sn k i = true := by unfold met; split <;> simp_all

/-- what is kept, behind what has been met; none: an attribute ends the session. -/
def akAll (s : ByteArray) (sn : Nat → Bool) (l : List At) (sp : Bool) : Option (List At × Bool) :=
  if s.size = 0 then some (l, sp)
  else if _hw : akW s = true then
    (if sn (akH s).kind = true then akAll (akR s) sn l sp
    else match didOf (akH s).flags (akH s).kind (akH s).val with
      | .keep g => akAll (akR s) (met sn (akH s).kind) (l ++ [⟨g, (akH s).kind, (akH s).val⟩]) sp
      | .pass => akAll (akR s) (met sn (akH s).kind) l sp
      | .spoil => akAll (akR s) (met sn (akH s).kind) l true
      | .ends => none)
  else some (l, true)
termination_by s.size
decreasing_by all_goals (have := akR_size s (by assumption); omega)

variable {s : ByteArray} {sn : Nat → Bool} {l : List At} {sp : Bool}

theorem akAll_end (h : s.size = 0) : akAll s sn l sp = some (l, sp) := by rw [akAll, if_pos h]
theorem akAll_cut (h : ¬ s.size = 0) (hw : akW s = false) : akAll s sn l sp = some (l, true) := by rw [akAll, if_neg h, dif_neg (by simp [hw])]
theorem akAll_again (h : ¬ s.size = 0) (hw : akW s = true) (hs : sn (akH s).kind = true) : akAll s sn l sp = akAll (akR s) sn l sp := by rw [akAll, if_neg h, dif_pos hw, if_pos hs]
theorem akAll_keep (h : ¬ s.size = 0) (hw : akW s = true) (hs : sn (akH s).kind = false) (g : Nat) (hd : didOf (akH s).flags (akH s).kind (akH s).val = .keep g) : akAll s sn l sp = akAll (akR s) (met sn (akH s).kind) (l ++ [⟨g, (akH s).kind, (akH s).val⟩]) sp := by rw [akAll, if_neg h, dif_pos hw, if_neg (by simp [hs]), hd]
theorem akAll_pass (h : ¬ s.size = 0) (hw : akW s = true) (hs : sn (akH s).kind = false) (hd : didOf (akH s).flags (akH s).kind (akH s).val = .pass) : akAll s sn l sp = akAll (akR s) (met sn (akH s).kind) l sp := by rw [akAll, if_neg h, dif_pos hw, if_neg (by simp [hs]), hd]
theorem akAll_spoil (h : ¬ s.size = 0) (hw : akW s = true) (hs : sn (akH s).kind = false) (hd : didOf (akH s).flags (akH s).kind (akH s).val = .spoil) : akAll s sn l sp = akAll (akR s) (met sn (akH s).kind) l true := by rw [akAll, if_neg h, dif_pos hw, if_neg (by simp [hs]), hd]
theorem akAll_ends (h : ¬ s.size = 0) (hw : akW s = true) (hs : sn (akH s).kind = false) (hd : didOf (akH s).flags (akH s).kind (akH s).val = .ends) : akAll s sn l sp = none := by rw [akAll, if_neg h, dif_pos hw, if_neg (by simp [hs]), hd]

/-- the attributes of an update's bytes. -/
def akOf (s : ByteArray) : Option (List At × Bool) := akAll s (fun _ => false) [] false

/-- what is kept may be kept: its types have been met, none twice, in bounds. -/
structure Kep (m : Nat) (sn : Nat → Bool) (l : List At) : Prop where
  seen : ∀ a ∈ l, sn a.kind = true
  once : (l.map (·.kind)).Nodup
  fine : ∀ a ∈ l, a.flags < 256 ∧ a.kind < 256 ∧ a.val.size ≤ m

theorem Kep.start (m : Nat) : Kep m (fun _ => false) [] := ⟨by simp, by simp, by simp⟩

theorem Kep.met {m : Nat} (h : Kep m sn l) (k : Nat) : Kep m (met sn k) l := ⟨fun a ha => met_of _ _ _ (h.seen a ha), h.once, h.fine⟩

theorem Kep.fresh {m : Nat} (h : Kep m sn l) (k : Nat) (hs : sn k = false) : ∀ a ∈ l, a.kind ≠ k := by
  intro a ha e
  have := h.seen a ha
  rw [e, hs] at this; simp at this

theorem Kep.keep {m : Nat} (h : Kep m sn l) (k : Nat) (hs : sn k = false) (g : Nat) (v : ByteArray) (hg : g < 256) (hk : k < 256) (hv : v.size ≤ m) : Kep m (Rl.met sn k) (l ++ [⟨g, k, v⟩]) := by
  refine ⟨fun a ha => ?_, ?_, fun a ha => ?_⟩
  · rcases List.mem_append.1 ha with ha | ha
    · exact met_of _ _ _ (h.seen a ha)
    · simp at ha; subst ha; exact met_self _ _
  · rw [List.map_append, List.nodup_append]
    refine ⟨h.once, by simp, ?_⟩
    intro a ha b hb
    have hb2 : b = k := by simpa using hb
    obtain ⟨x, hx, rfl⟩ := List.mem_map.1 ha
    rw [hb2]
    exact h.fresh k hs x hx
  · rcases List.mem_append.1 ha with ha | ha
    · exact h.fine a ha
    · simp at ha; subst ha; exact ⟨hg, hk, hv⟩

/-- the flags that are kept of a type; -1: none. -/
def flagAt (l : List At) (i : Nat) : Int := match l.find? (fun a => a.kind == i) with
  | some a => a.flags
  | none => -1
/-- the value that is kept of a type. -/
def valAt (l : List At) (i : Nat) : ByteArray := match l.find? (fun a => a.kind == i) with
  | some a => a.val
  | none => ⟨#[]⟩

theorem find_fresh {l : List At} {k : Nat} (h : ∀ a ∈ l, a.kind ≠ k) : l.find? (fun a => a.kind == k) = none := by
  rw [List.find?_eq_none]; intro a ha; simpa using h a ha

theorem flagAt_snoc {l : List At} {k : Nat} (h : ∀ a ∈ l, a.kind ≠ k) (g : Nat) (v : ByteArray) (i : Nat) : flagAt (l ++ [⟨g, k, v⟩]) i = if i = k then (g : Int) else flagAt l i := by
  unfold flagAt
  rw [List.find?_append]
  by_cases e : i = k
  · subst e; rw [find_fresh h]; simp
  · rw [if_neg e]
    cases l.find? (fun a => a.kind == i) with
    | some a => rfl
    | none =>
      have : (k == i) = false := by rw [beq_eq_false_iff_ne]; omega
      simp [this]

theorem valAt_snoc {l : List At} {k : Nat} (h : ∀ a ∈ l, a.kind ≠ k) (g : Nat) (v : ByteArray) (i : Nat) : valAt (l ++ [⟨g, k, v⟩]) i = if i = k then v else valAt l i := by
  unfold valAt
  rw [List.find?_append]
  by_cases e : i = k
  · subst e; rw [find_fresh h]; simp
  · rw [if_neg e]
    cases l.find? (fun a => a.kind == i) with
    | some a => rfl
    | none =>
      have : (k == i) = false := by rw [beq_eq_false_iff_ne]; omega
      simp [this]

theorem flagAt_nil (i : Nat) : flagAt [] i = -1 := rfl
theorem valAt_nil (i : Nat) : valAt [] i = ⟨#[]⟩ := rfl
theorem flagAt_ge (l : List At) (i : Nat) : -1 ≤ flagAt l i := by
  unfold flagAt; split <;> omega

/-- the flags of what is kept are below 256. -/
theorem didOf_keep (f k : Nat) (v : ByteArray) (g : Nat) (h : didOf f k v = .keep g) : g < 256 := by
  unfold didOf at h
  split at h
  · next hk =>
    split at h
    · injection h with h
      rcases flagsI_known k hk with e | e | e <;> rw [e] at h <;> simp at h <;> omega
    · split at h <;> simp at h
  · split at h
    · simp at h
    · split at h
      · simp at h
      · injection h with h; omega

end Rl
end Go.Proofs.Ytjjakgmjoplhoaa
/-
  What is kept, in the order of its types: the same text out of the list that was sorted and out of the table by type.
-/
namespace Go.Proofs.Ytjjakgmjoplhoaa
open Go.RowKit
namespace Rl

/-- in the order of the types, no type twice. -/
def ByKind (l : List At) : Prop := l.Pairwise fun a b => a.kind < b.kind

/-- an attribute as canonical text has it. -/
def atCan (a : At) : List UInt8 := atBytes a.flags a.kind 2 a.val

theorem find_perm {l l' : List At} (hp : l'.Perm l) (ho : (l.map (·.kind)).Nodup) (i : Nat) : l'.find? (fun a => a.kind == i) = l.find? (fun a => a.kind == i) := by
  have huniq : ∀ {m : List At}, (m.map (·.kind)).Nodup → ∀ a ∈ m, a.kind = i → m.find? (fun a => a.kind == i) = some a := by
    intro m; induction m with
    | nil => intro _ a ha; simp at ha
    | cons b m ih =>
      intro hn a ha hk
      rw [List.map_cons, List.nodup_cons] at hn
      rcases List.mem_cons.1 ha with rfl | ha
      · rw [List.find?_cons_of_pos (by simpa using hk)]
      · have hb : b.kind ≠ i := by
          intro e; apply hn.1; rw [e, ← hk]; exact List.mem_map_of_mem ha
        rw [List.find?_cons_of_neg (by simpa using hb)]
        exact ih hn.2 a ha hk
  have ho' : (l'.map (·.kind)).Nodup := ((hp.map _).nodup_iff).2 ho
  cases h : l.find? (fun a => a.kind == i) with
  | some a =>
    have h1 := List.find?_some h
    have h2 := List.mem_of_find?_eq_some h
    exact huniq ho' a (hp.mem_iff.2 h2) (by simpa using h1)
  | none =>
    rw [List.find?_eq_none] at h ⊢
    intro a ha
    exact h a (hp.mem_iff.1 ha)

theorem flagAt_perm {l l' : List At} (hp : l'.Perm l) (ho : (l.map (·.kind)).Nodup) (i : Nat) : flagAt l' i = flagAt l i := by
  unfold flagAt; rw [find_perm hp ho]
theorem valAt_perm {l l' : List At} (hp : l'.Perm l) (ho : (l.map (·.kind)).Nodup) (i : Nat) : valAt l' i = valAt l i := by
  unfold valAt; rw [find_perm hp ho]

theorem filter_next : ∀ (l : List At), ByKind l → ∀ n, l.filter (fun a => decide (a.kind < n + 1)) = l.filter (fun a => decide (a.kind < n)) ++ (l.find? (fun a => a.kind == n)).toList := by
  intro l; induction l with
  | nil => intro _ n; rfl
  | cons a l ih =>
    intro ho n
    unfold ByKind at ho
    rw [List.pairwise_cons] at ho
    have hi := ih ho.2 n
    by_cases h1 : a.kind < n
    · rw [List.filter_cons_of_pos (by simp; omega), List.filter_cons_of_pos (by simp; omega), List.find?_cons_of_neg (by simp; omega), hi]; rfl
    · by_cases h2 : a.kind = n
      · have e : ∀ m, m ≤ n + 1 → l.filter (fun a => decide (a.kind < m)) = [] := by
          intro m hm
          rw [List.filter_eq_nil_iff]
          intro b hb
          have := ho.1 b hb
          simp; omega
        rw [List.filter_cons_of_pos (by simp; omega), List.filter_cons_of_neg (by simp; omega), List.find?_cons_of_pos (by simp; omega), e (n + 1) (by omega), e n (by omega)]; rfl
      · rw [List.filter_cons_of_neg (by simp; omega), List.filter_cons_of_neg (by simp; omega), List.find?_cons_of_neg (by simp; omega), hi]

/-- the text of one type out of the table. -/
def canAt (l : List At) (i : Nat) : List UInt8 := if 0 ≤ flagAt l i then atBytes (flagAt l i).toNat i 2 (valAt l i) else []

theorem canAt_find (l : List At) (i : Nat) : canAt l i = (l.find? (fun a => a.kind == i)).toList.flatMap atCan := by
  unfold canAt flagAt valAt atCan
  cases h : l.find? (fun a => a.kind == i) with
  | none => simp
  | some a =>
    have h1 := List.find?_some h
    simp at h1
    simp [h1]

/-- the text of the types below n. -/
def canTo (l : List At) : Nat → List UInt8
  | 0 => []
  | n + 1 => canTo l n ++ canAt l n

theorem canTo_perm {l l' : List At} (hp : l'.Perm l) (ho : (l.map (·.kind)).Nodup) (n : Nat) : canTo l' n = canTo l n := by
  induction n with
  | zero => rfl
  | succ n ih => unfold canTo; rw [ih, canAt_find, canAt_find, find_perm hp ho]

theorem canTo_sorted (l : List At) (ho : ByKind l) (n : Nat) : canTo l n = (l.filter (fun a => decide (a.kind < n))).flatMap atCan := by
  induction n with
  | zero =>
    have : l.filter (fun a => decide (a.kind < 0)) = [] := by rw [List.filter_eq_nil_iff]; intro a _; simp
    rw [this]; rfl
  | succ n ih => unfold canTo; rw [ih, canAt_find, filter_next l ho n, List.flatMap_append]

theorem canTo_all (l : List At) (ho : ByKind l) (hk : ∀ a ∈ l, a.kind < 256) : canTo l 256 = l.flatMap atCan := by
  rw [canTo_sorted l ho, List.filter_eq_self.2]
  intro a ha; simpa using hk a ha

theorem canTo_le (l : List At) (n m : Nat) (h : n ≤ m) : (canTo l n).length ≤ (canTo l m).length := by
  induction m with
  | zero => have : n = 0 := by omega
            subst this; exact Nat.le_refl _
  | succ m ih =>
    by_cases e : n = m + 1
    · subst e; exact Nat.le_refl _
    · have := ih (by omega)
      show _ ≤ (canTo l m ++ canAt l m).length
      rw [List.length_append]; omega

/-- the needed types of a list with no type twice. -/
theorem needN_count (l : List At) : needN l = (l.map (·.kind)).count 1 + (l.map (·.kind)).count 2 + (l.map (·.kind)).count 3 := by
  induction l with
  | nil => rfl
  | cons a l ih =>
    have e : needN (a :: l) = (if 1 ≤ a.kind ∧ a.kind ≤ 3 then 1 else 0) + needN l := by
      unfold needN
      by_cases h : 1 ≤ a.kind ∧ a.kind ≤ 3
      · rw [List.filter_cons_of_pos (by simpa using h), if_pos h, List.length_cons]; omega
      · rw [List.filter_cons_of_neg (by simpa using h), if_neg h]; omega
    rw [e, ih, List.map_cons, List.count_cons, List.count_cons, List.count_cons]
    simp only [beq_iff_eq]
    by_cases h1 : a.kind = 1
    · simp [h1]; omega
    · by_cases h2 : a.kind = 2
      · simp [h2]; omega
      · by_cases h3 : a.kind = 3
        · simp [h3]; omega
        · rw [if_neg (by omega)]; simp [h1, h2, h3]

theorem count_flag (l : List At) (i : Nat) (ho : (l.map (·.kind)).Nodup) : (l.map (·.kind)).count i ≤ 1 ∧ ((l.map (·.kind)).count i = 0 ↔ flagAt l i < 0) := by
  refine ⟨List.nodup_iff_count.1 ho i, ?_⟩
  rw [List.count_eq_zero]
  unfold flagAt
  cases h : l.find? (fun a => a.kind == i) with
  | none =>
    rw [List.find?_eq_none] at h
    simp
    intro a ha e
    have := h a ha
    simp [e] at this
  | some a =>
    have h1 := List.find?_some h
    have h2 := List.mem_of_find?_eq_some h
    simp at h1
    constructor
    · intro hn
      exact absurd (List.mem_map.2 ⟨a, h2, h1⟩) hn
    · intro hn; simp only at hn; omega

theorem needN_flags (l : List At) (ho : (l.map (·.kind)).Nodup) : (needN l == 3) = !(decide (flagAt l 1 < 0) || decide (flagAt l 2 < 0) || decide (flagAt l 3 < 0)) := by
  have h1 := count_flag l 1 ho
  have h2 := count_flag l 2 ho
  have h3 := count_flag l 3 ho
  have hn := needN_count l
  rw [Bool.eq_iff_iff]
  simp only [beq_iff_eq, Bool.not_eq_true', Bool.or_eq_false_iff, decide_eq_false_iff_not]
  omega

theorem needN_perm {l l' : List At} (hp : l'.Perm l) : needN l' = needN l := by
  unfold needN; exact (hp.filter _).length_eq


theorem akAll_kep (m : Nat) : ∀ (n : Nat) (s : ByteArray) (sn : Nat → Bool) (l : List At) (sp : Bool) (l2 : List At) (sp2 : Bool), s.size ≤ n → s.size ≤ m → Kep m sn l → akAll s sn l sp = some (l2, sp2) → (∃ sn2, Kep m sn2 l2) ∧ l2.length ≤ l.length + s.size := by
  intro n; induction n with
  | zero =>
    intro s sn l sp l2 sp2 hn _ hk h
    rw [akAll_end (by omega)] at h
    simp only [Option.some.injEq, Prod.mk.injEq] at h
    obtain ⟨rfl, _⟩ := h
    exact ⟨⟨sn, hk⟩, by omega⟩
  | succ n ih =>
    intro s sn l sp l2 sp2 hn hm hk h
    by_cases h0 : s.size = 0
    · rw [akAll_end h0] at h
      simp only [Option.some.injEq, Prod.mk.injEq] at h
      obtain ⟨rfl, _⟩ := h
      exact ⟨⟨sn, hk⟩, by omega⟩
    · cases hw : akW s with
      | false =>
        rw [akAll_cut h0 hw] at h
        simp only [Option.some.injEq, Prod.mk.injEq] at h
        obtain ⟨rfl, _⟩ := h
        exact ⟨⟨sn, hk⟩, by omega⟩
      | true =>
        have hr := akR_size s hw
        cases hs : sn (akH s).kind with
        | true =>
          rw [akAll_again h0 hw hs] at h
          obtain ⟨h1, h2⟩ := ih _ _ _ _ _ _ (by omega) (by omega) hk h
          exact ⟨h1, by omega⟩
        | false =>
          cases hd : didOf (akH s).flags (akH s).kind (akH s).val with
          | keep g =>
            rw [akAll_keep h0 hw hs g hd] at h
            obtain ⟨h1, h2⟩ := ih _ _ _ _ _ _ (by omega) (by omega) (hk.keep _ hs g _ (didOf_keep _ _ _ _ hd) (akH_kind s) (by omega)) h
            rw [List.length_append] at h2
            exact ⟨h1, by simp at h2; omega⟩
          | pass =>
            rw [akAll_pass h0 hw hs hd] at h
            obtain ⟨h1, h2⟩ := ih _ _ _ _ _ _ (by omega) (by omega) (hk.met _) h
            exact ⟨h1, by omega⟩
          | spoil =>
            rw [akAll_spoil h0 hw hs hd] at h
            obtain ⟨h1, h2⟩ := ih _ _ _ _ _ _ (by omega) (by omega) (hk.met _) h
            exact ⟨h1, by omega⟩
          | ends =>
            rw [akAll_ends h0 hw hs hd] at h
            simp at h

theorem akOf_kep (s : ByteArray) (l : List At) (sp : Bool) (h : akOf s = some (l, sp)) : ∃ sn2, Kep s.size sn2 l :=
  (akAll_kep s.size s.size s _ _ _ _ _ (Nat.le_refl _) (Nat.le_refl _) (Kep.start _) h).1

theorem flagAt_lt {m : Nat} {sn : Nat → Bool} {l : List At} (h : Kep m sn l) (i : Nat) : flagAt l i < 256 := by
  unfold flagAt
  cases hf : l.find? (fun a => a.kind == i) with
  | none => simp
  | some a => have := (h.fine a (List.mem_of_find?_eq_some hf)).1; simp only; omega

theorem valAt_le {m : Nat} {sn : Nat → Bool} {l : List At} (h : Kep m sn l) (i : Nat) : (valAt l i).size ≤ m := by
  unfold valAt
  cases hf : l.find? (fun a => a.kind == i) with
  | none => exact Nat.zero_le _
  | some a => exact (h.fine a (List.mem_of_find?_eq_some hf)).2.2

theorem canTo_bound (l : List At) (m : Nat) (h : ∀ i, (valAt l i).size ≤ m) : ∀ n, (canTo l n).length ≤ n * (m + 4) := by
  intro n; induction n with
  | zero => exact Nat.zero_le _
  | succ n ih =>
    unfold canTo
    rw [List.length_append, Nat.succ_mul]
    have hc : (canAt l n).length ≤ m + 4 := by
      unfold canAt
      by_cases hg : 0 ≤ flagAt l n
      · rw [if_pos hg, atBytes_length]; have := h n; omega
      · rw [if_neg hg]; simp
    omega

end Rl
end Go.Proofs.Ytjjakgmjoplhoaa
/-
  message.writeCanonical, walked: attributes as canonical text.
-/
namespace Go.Proofs.Ytjjakgmjoplhoaa
open Go.RowKit
open Rl

def canPart (a : At) : ByteArray := ⟨(atCan a).toArray⟩

theorem flat_canParts (l : List At) : flat (l.map canPart) = l.flatMap atCan := by
  unfold flat
  rw [List.map_map]
  induction l with
  | nil => rfl
  | cons a l ih => simp only [List.map_cons, List.flatten_cons, List.flatMap_cons]; rw [ih]; rfl

set_option maxRecDepth 20000 in
set_option maxHeartbeats 4000000 in
theorem writeCanonical_any (v : Value) (l : List At) (w : World) (hx : l.length ≤ 1048576) (hl : ∀ a ∈ l, a.flags < 256 ∧ a.kind < 256 ∧ a.val.size ≤ 1048576) (hsum : (l.flatMap atCan).length ≤ 140737488355328) (hr : RowAt w v l.length 3 (atCells l)) :
    Calls Try.prog 82 #[v] w fun e w' => e = .returned (.string ⟨(l.flatMap atCan).toArray⟩) ∧ Below w.heap.size w w' := by
  obtain ⟨i0, hi, hz0, hz1, hz2⟩ := info_parts info_string
  obtain ⟨_, hr⟩ := hr
  rcases hr with ⟨a, c, rfl, hn⟩ | ⟨b, o, cap, rfl, hn, hb, hc⟩
  · have hn0 : l = [] := List.eq_nil_of_length_eq_zero hn
    subst hn0
    have hj := fun w => join_any (.slice none 0 0) [] w (RowAt.nil _ _ _ _) (cap_of (Nat.le_refl _)) (by simp) (by simp [flat])
    go_enter Try.func82, Try.ntmps82
    go_wp2
    refine wp_loop_rounds 1 ?_
    rw [rounds_succ]
    go_wp2_with (go_at_call 85; refine (hj _).mono ?_; rintro e w2 ⟨rfl, hb2⟩)
    go_ret
    exact ⟨rfl, hb2⟩
  · go_enter Try.func82, Try.ntmps82
    go_wp2
    go_loopw [3, 8] (fun x i wr => ∃ (k : Nat) (lv : Value), lv = x ∧ k ≤ l.length ∧ i = .int .i64 k ∧ wr.ownsRow w.heap.size 9 1 lv k (strs ((l.take k).map canPart)) ∧ Below w.heap.size w wr) (fun _ i _ => l.length - (intOf i).toNat)
    case atStart => exact ⟨0, _, rfl, Nat.zero_le _, rfl, World.ownsRow_nil _ _ _ _, Below.refl _ _⟩
    case round =>
      obtain ⟨k, lv, rfl, hk, rfl, hown, hbel⟩ := hrel
      by_cases hlt : k < l.length
      · obtain ⟨g1, g2, g3⟩ := atCells_get l k hlt
        have c1 := (hbel.cell (p := ⟨b, o + k * 3, none⟩) hb).trans (hc _ _ g1)
        have c2 := (hbel.cell (p := ⟨b, o + k * 3 + 1, none⟩) hb).trans (hc _ _ g2)
        have c3 := (hbel.cell (p := ⟨b, o + k * 3 + 2, none⟩) hb).trans (hc _ _ g3)
        obtain ⟨hf, hk', hv'⟩ := hl l[k] (List.getElem_mem _)
        have HW : Hid ((l.take (k + 1)).map canPart = (l.take k).map canPart ++ [canPart l[k]]) := by
          rw [List.take_succ_eq_append_getElem hlt, List.map_append]; exact rfl
        clear hc g1 g2 g3
        obtain ⟨p, ep⟩ : ∃ p, p = l[k] := ⟨_, rfl⟩
        rw [← ep] at c1 c2 c3 hf hk' hv' HW
        clear ep
        generalize (l.take k).map canPart = xs at *
        obtain ⟨f, kd, val⟩ := p
        simp only at c1 c2 c3 hf hk' hv'
        have HP : Hid (canPart ⟨f, kd, val⟩ = ⟨(atBytes f kd 2 val).toArray⟩) := rfl
        have hby := fun w => atBytes_any f kd 2 val w (by omega) hk' (by omega) hv'
        go_wp2_with (first | (go_at_call 84; refine (hby _).mono ?_; rintro e w2 ⟨rfl, hb2⟩; have hbs : w.heap.size ≤ w2.heap.size := Nat.le_trans (hbel.alloc hbel.size _).size hb2.size; have hown2 := owns_later (hown.alloc _) hb2; have hb3 : Below w.heap.size w w2 := later_below (hbel.alloc hbel.size _) hb2 (hbel.alloc hbel.size _).size) | (at_builtin; refine wpList_append_own _ rfl _ _ 45 rfl w.heap.size 9 i0 (.string ⟨#[]⟩) 1 16 Try.underlying45 hi hz0 hz1 hz2 rfl (by decide) _ _ _ rfl (hown2.alloc _) ⟨w2.heap.size, 0, none⟩ 1 1 [Value.string ⟨(atBytes f kd 2 val).toArray⟩] rfl rfl (cells_new _ _ _) (oneS _) (by unfold maxLen; omega) (by omega) (by simp; omega) ?_; intro v5 w5 hown5 hgrow5 _))
        refine ⟨⟨k + 1, v5, rfl, by omega, by go_num, ?_, below_app hb3 hb3.size hown2 hgrow5⟩, by simp [intOf]; omega⟩
        rw [HW.out, HP.out]
        unfold strs
        rw [List.map_append]
        exact hown5
      · have HT : Hid (l.take k = l) := List.take_of_length_le (by omega)
        rw [HT.out] at hown
        have hkl : k = l.length := by omega
        subst hkl
        have hj := join_any lv (l.map canPart) wr (by rw [List.length_map]; exact rowAt_of_owns hown) (own_cap hown) (by rw [List.length_map]; omega) (by rw [flat_canParts]; exact hsum)
        rw [flat_canParts] at hj
        clear hc hown
        go_wp2_with (go_at_call 85; refine hj.mono ?_; rintro e w2 ⟨rfl, hb2⟩)
        go_ret
        exact ⟨rfl, later_below hbel hb2 hbel.size⟩

end Go.Proofs.Ytjjakgmjoplhoaa
/-
  A row of attributes, sorted where it lies: what the library's sort leaves, as the row that the caller owns. Nothing of the program is named here.
-/
namespace Go.Proofs.Ytjjakgmjoplhoaa
open Go.RowKit Go.Sort
open Rl

instance : Inhabited At := ⟨⟨0, 0, ⟨#[]⟩⟩⟩

/-- an attribute's cells. -/
def encAt (a : At) : List Value := [.int .i64 (a.flags : Int), .int .i64 (a.kind : Int), .string a.val]

/-- the order of the types. -/
def cmpAt (a b : At) : Int := Lib.compareInt (a.kind : Int) (b.kind : Int)

theorem cmpAt_lt (a b : At) : ltOf cmpAt a b = decide (a.kind < b.kind) := by
  unfold ltOf cmpAt Lib.compareInt
  rw [Bool.eq_iff_iff]
  by_cases h1 : (a.kind : Int) < (b.kind : Int)
  · simp [h1]; omega
  · by_cases h2 : (b.kind : Int) < (a.kind : Int)
    · simp [h1, h2]; omega
    · simp [h1, h2]; omega

theorem cmpAt_swo : SWO (ltOf cmpAt) where
  irrefl x := by rw [cmpAt_lt]; simp
  trans x y z h1 h2 := by rw [cmpAt_lt] at *; simp at *; omega
  ntrans x y z h1 h2 := by rw [cmpAt_lt] at *; simp at *; omega

theorem flat_cells (d : Array At) : (flatK encAt 3 d).toList = atCells d.toList := by
  apply List.ext_getElem?
  intro t
  by_cases ht : t < d.size * 3
  · have hq : t / 3 < d.toList.length := by simp; omega
    obtain ⟨g1, g2, g3⟩ := atCells_get d.toList (t / 3) hq
    have e0 : (flatK encAt 3 d).toList[t]? = some (encAt d[t / 3]!)[t % 3]! := by
      have h := get_flatK encAt 3 d t ht
      have hs : t < (flatK encAt 3 d).size := by rw [size_flatK]; exact ht
      rw [getElem!_pos _ t hs] at h
      rw [← h]
      simp
    have hd : d[t / 3]! = d.toList[t / 3] := by
      rw [getElem!_pos d (t / 3) (by simpa using hq)]; rfl
    rw [e0, hd]
    have hr : t % 3 = 0 ∨ t % 3 = 1 ∨ t % 3 = 2 := by omega
    have hdm := Nat.div_add_mod t 3
    rcases hr with r | r | r
    · rw [show t / 3 * 3 = t from by omega] at g1; rw [g1, r]; rfl
    · rw [show t / 3 * 3 + 1 = t from by omega] at g2; rw [g2, r]; rfl
    · rw [show t / 3 * 3 + 2 = t from by omega] at g3; rw [g3, r]; rfl
  · rw [List.getElem?_eq_none (by simp; omega), List.getElem?_eq_none (by rw [atCells_length]; simp; omega)]

theorem flat_get (d : Array At) (j : Nat) (h : j < d.size * 3) : (atCells d.toList)[j]? = some (flatK encAt 3 d)[j]! := by
  have hs : j < (flatK encAt 3 d).size := by rw [size_flatK]; exact h
  rw [← flat_cells, getElem!_pos _ j hs]
  simp

theorem holds_of_owns {w : World} {B g n cap : Nat} {e : TypeId} {l : List At} (h : w.ownsRow B e 3 (.slice (some ⟨g, 0, none⟩) n cap) n (atCells l)) (hn : n = l.length) : HoldsK encAt 3 w g 0 l.toArray := by
  subst hn
  intro j hj
  have hj2 : j < l.length * 3 := by rw [size_flatK] at hj; simpa using hj
  refine ⟨?_, ?_⟩
  · rw [Nat.zero_add, h.cellAt j hj2, id]
    exact flat_get l.toArray j (by simpa using hj2)
  · rw [Nat.zero_add]; exact h.frozenAt j

theorem owns_sorted {w : World} {B g n cap : Nat} {e : TypeId} {l : List At} (h : w.ownsRow B e 3 (.slice (some ⟨g, 0, none⟩) n cap) n (atCells l)) (m : Nat) (d' : Array At) (os : Array Obj) (hd : d'.size = n) :
    (sortWorldK encAt 3 w g 0 m d' os).ownsRow B e 3 (.slice (some ⟨g, 0, none⟩) n cap) n (atCells d'.toList) := by
  rcases h.2 with ⟨e1, _⟩ | ⟨g', cap', cur, e1, hB, hg, hnc, hcm, hcs, ht⟩
  · simp at e1
  · simp only [Value.slice.injEq, Option.some.injEq, Addr.mk.injEq, and_true, true_and] at e1
    obtain ⟨rfl, rfl⟩ := e1
    have hlt : g < w.heap.size := (Array.getElem?_eq_some_iff.1 hg).1
    refine ⟨by rw [atCells_length]; simp [hd], .inr ⟨g, cap, putCells id 0 (flatK encAt 3 d') cur, rfl, hB, ?_, hnc, hcm, by simp [putCells, hcs], ?_⟩⟩
    · unfold sortWorldK putRowK putRow
      rw [heap_grow_old _ _ (by simpa [mapBlock, Sort.ahead] using hlt)]
      show (Array.modify w.heap g _)[g]? = _
      rw [Array.getElem?_modify, if_pos rfl, hg]
      rfl
    · apply List.ext_getElem?
      intro j
      by_cases hj : j < n * 3
      · rw [List.getElem?_take_of_lt hj, flat_get d' j (by omega)]
        have hjc : j < cur.size := by rw [hcs]; have := Nat.mul_le_mul_right 3 hnc; omega
        have hjf : j < (flatK encAt 3 d').size := by rw [size_flatK]; omega
        simp only [Array.getElem?_toList, putCells, Array.getElem?_mapIdx, Array.getElem?_eq_getElem hjc, Option.map_some, Nat.sub_zero, Nat.zero_add, id]
        rw [if_pos ⟨Nat.zero_le _, hjf⟩]
      · rw [List.getElem?_eq_none (by simp; omega), List.getElem?_eq_none (by rw [atCells_length]; simp; omega)]

theorem below_sorted {w : World} {B g : Nat} (hB : B ≤ g) (hg : g < w.heap.size) (m : Nat) (d' : Array At) (os : Array Obj) : Below B w (sortWorldK encAt 3 w g 0 m d' os) := by
  refine ⟨rfl, rfl, rfl, ?_, fun k hk => ?_⟩
  · unfold sortWorldK putRowK putRow
    simp [mapBlock, Sort.ahead]
  · unfold sortWorldK putRowK putRow
    rw [heap_grow_old _ _ (by simp [mapBlock, Sort.ahead]; omega)]
    show (Array.modify w.heap g _)[k]? = _
    rw [Array.getElem?_modify, if_neg (by omega)]

theorem sorted_ord (l : List At) (d' : Array At) (ho : (l.map (·.kind)).Nodup) (hp : PermIn 0 l.toArray.size l.toArray d') (hs : SortedIn (ltOf cmpAt) 0 l.toArray.size d') : d'.toList.Perm l ∧ ByKind d'.toList := by
  obtain ⟨h1, _, h3⟩ := hp
  have e1 : l.toArray.extract 0 l.toArray.size = l.toArray := by simp
  have e2 : d'.extract 0 l.toArray.size = d' := by rw [← h1]; simp
  rw [e1, e2] at h3
  have hperm : d'.toList.Perm l := by simpa using h3
  refine ⟨hperm, ?_⟩
  have hn : (d'.toList.map (·.kind)).Nodup := ((hperm.map _).nodup_iff).2 ho
  unfold ByKind
  rw [List.pairwise_iff_getElem]
  intro i j hi hj hij
  have hsz : d'.size = l.toArray.size := h1
  have h := hs i j (Nat.zero_le _) hij (by rw [← hsz]; simpa using hj)
  rw [cmpAt_lt, getElem!_pos d' i (by simpa using hi), getElem!_pos d' j (by simpa using hj), decide_eq_false_iff_not] at h
  have hne : d'[i].kind ≠ d'[j].kind := by
    have h4 := List.pairwise_iff_getElem.1 hn i j (by simpa using hi) (by simpa using hj) hij
    simpa using h4
  simp only [Array.getElem_toList]
  omega

end Go.Proofs.Ytjjakgmjoplhoaa
/-
  slices.SortFunc at what is kept of attributes: at none, and at some.
-/
namespace Go.Proofs.Ytjjakgmjoplhoaa
open Go.RowKit Go.Sort
open Rl

theorem insertion_none (p : Option Addr) (cap : Nat) (fv : Value) (w : World) :
    Calls Try.prog 98 #[.slice p 0 cap, .int .i64 0, .int .i64 0, fv] w fun e w' => e = .returned (.tuple #[]) ∧ w' = w := by
  go_enter Try.func98, Try.ntmps98
  go_wp2
  refine wp_loop_rounds 1 ?_
  rw [rounds_succ]
  go_wp2
  go_end0
  exact ⟨rfl, rfl⟩

theorem pdq_none (p : Option Addr) (cap : Nat) (lim : Int) (fv : Value) (w : World) :
    Calls Try.prog 92 #[.slice p 0 cap, .int .i64 0, .int .i64 0, .int .i64 lim, fv] w fun e w' => e = .returned (.tuple #[]) ∧ w' = w := by
  go_enter Try.func92, Try.ntmps92
  go_wp2
  refine wp_loop_rounds 1 ?_
  rw [rounds_succ]
  go_wp2_with (go_at_call 98; refine (insertion_none p cap fv _).mono ?_; rintro e w' ⟨rfl, hw⟩; rw [hw]; clear hw w')
  (try simp only [Exit.inBlock, Exit.then]); refine bodyPost_ret (results_none rfl _ _ _) rfl ?_
  exact ⟨rfl, rfl⟩

theorem sort_none (p : Option Addr) (cap : Nat) (fv : Value) (w : World) :
    Calls Try.prog 78 #[.slice p 0 cap, fv] w fun e w' => e = .returned (.tuple #[]) ∧ w' = w := by
  go_enter Try.func78, Try.ntmps78
  go_wp2_with (first | (go_at_call 93; refine (Try.bits_Len 0 _ (by omega) (by omega)).mono ?_; rintro e w' ⟨rfl, hw⟩; rw [hw]; clear hw w') | (go_at_call 92; refine (pdq_none p cap _ fv _).mono ?_; rintro e w' ⟨rfl, hw⟩; rw [hw]; clear hw w'))
  go_end0
  exact ⟨rfl, rfl⟩

set_option maxHeartbeats 1000000 in
theorem cmpAt_any (x y : At) (W : World) : Calls Try.prog 79 #[.agg (encAt x).toArray, .agg (encAt y).toArray] W fun e w' => e = .returned (.int .i64 (cmpAt x y)) ∧ ∃ q os', w' = grow (W.drewN q) os' := by
  have hcon := fun W' => Try.cmp_Compare_int x.kind y.kind W'
  unfold cmpAt
  generalize Lib.compareInt (x.kind : Int) (y.kind : Int) = r at hcon ⊢
  unfold encAt
  go_enter Try.func79, Try.ntmps79
  go_wp2_with (go_at_call 80; refine (hcon _).mono ?_; rintro e w' ⟨rfl, rfl⟩)
  go_ret
  exact ⟨rfl, 0, _, by rw [alloc_eq_grow, alloc_eq_grow, grow_grow]; rfl⟩

/-- the row, in the order of the types; no type is there twice. -/
theorem sort_any (B : Nat) (v : Value) (l : List At) (w : World) (hl : l.length ≤ 1048576) (ho : (l.map (·.kind)).Nodup) (hown : w.ownsRow B 104 3 v l.length (atCells l)) :
    Calls Try.prog 78 #[v, .func (.func 79) #[] #[]] w fun e w' => e = .returned (.tuple #[]) ∧ ∃ l', l'.Perm l ∧ ByKind l' ∧ w'.ownsRow B 104 3 v l'.length (atCells l') ∧ Below B w w' := by
  have hcase := hown.2
  rcases hcase with ⟨rfl, hn⟩ | ⟨g, cap, cur, rfl, hg, hh, hnc, hcm, _, _⟩
  · have hn0 : l = [] := List.eq_nil_of_length_eq_zero hn
    subst hn0
    refine (sort_none none 0 _ w).mono ?_
    rintro e w' ⟨he, hw⟩
    rw [hw]
    exact ⟨he, [], List.Perm.refl _, List.Pairwise.nil, hown, Below.refl _ _⟩
  · have hlt : g < w.heap.size := (Array.getElem?_eq_some_iff.1 hh).1
    have eg : ∀ args w, (callFunc 79 args).run Try.prog w = .ok (.enter 79 args) w := enters_of Try.func79 (by kernel_rfl) rfl
    have hcon := AnyQ.slices_SortFunc Try.laysSort6 3 Try.isAgg104 Try.sizeOf104 encAt (fun _ => rfl) (fun x v hv => by simp [encAt] at hv; rcases hv with rfl | rfl | rfl <;> rfl) cmpAt cmpAt_swo 79 #[] g 0 cap l.toArray w eg (fun _ _ _ _ x y => cmpAt_any x y _) (holds_of_owns hown rfl) hlt (by simp; omega)
    change Calls Try.prog 78 _ _ _ at hcon
    rw [show l.toArray.size = l.length from by simp] at hcon
    refine hcon.mono ?_
    rintro e w' ⟨he, d', n, os, hp, hs, hw⟩
    obtain ⟨h1, h2⟩ := sorted_ord l d' ho (by simpa using hp) (by simpa using hs)
    have hlen : d'.toList.length = l.length := h1.length_eq
    refine ⟨he, d'.toList, h1, h2, ?_, ?_⟩
    · rw [hw, hlen]
      exact owns_sorted hown n d' os (by simpa using hlen)
    · rw [hw]; exact below_sorted hg hlt n d' os

end Go.Proofs.Ytjjakgmjoplhoaa
