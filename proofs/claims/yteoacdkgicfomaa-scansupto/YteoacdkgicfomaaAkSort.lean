/-
  What is kept, in the order of its types: the same text out of the list that was sorted and out of the table by type.
-/
import Derived.Test.YteoacdkgicfomaaAkMath
import Derived.Test.YteoacdkgicfomaaAnnMath
namespace Go.Proofs.Yteoacdkgicfomaa
open Go.RowKit
namespace Rl

/-- in the order of the types, no type twice. -/
def ByKind (l : List At) : Prop := l.Pairwise fun a b => a.kind < b.kind

/-- an attribute as canonical text has it. -/
def atCan (a : At) : List UInt8 := atBytes a.flags a.kind 2 a.val

theorem find_perm {l l' : List At} (hp : l'.Perm l) (ho : (l.map (·.kind)).Nodup) (i : Nat) : l'.find? (fun a => a.kind == i) = l.find? (fun a => a.kind == i) := by
  have huniq : ∀ {m : List At}, (m.map (·.kind)).Nodup → ∀ a ∈ m, a.kind = i → m.find? (fun a => a.kind == i) = some a := by
    intro m; induction m with
    | nil => intro _ a ha; simp at ha
    | cons b m ih =>
      intro hn a ha hk
      rw [List.map_cons, List.nodup_cons] at hn
      rcases List.mem_cons.1 ha with rfl | ha
      · rw [List.find?_cons_of_pos (by simpa using hk)]
      · have hb : b.kind ≠ i := by
          intro e; apply hn.1; rw [e, ← hk]; exact List.mem_map_of_mem ha
        rw [List.find?_cons_of_neg (by simpa using hb)]
        exact ih hn.2 a ha hk
  have ho' : (l'.map (·.kind)).Nodup := ((hp.map _).nodup_iff).2 ho
  cases h : l.find? (fun a => a.kind == i) with
  | some a =>
    have h1 := List.find?_some h
    have h2 := List.mem_of_find?_eq_some h
    exact huniq ho' a (hp.mem_iff.2 h2) (by simpa using h1)
  | none =>
    rw [List.find?_eq_none] at h ⊢
    intro a ha
    exact h a (hp.mem_iff.1 ha)

theorem flagAt_perm {l l' : List At} (hp : l'.Perm l) (ho : (l.map (·.kind)).Nodup) (i : Nat) : flagAt l' i = flagAt l i := by
  unfold flagAt; rw [find_perm hp ho]
theorem valAt_perm {l l' : List At} (hp : l'.Perm l) (ho : (l.map (·.kind)).Nodup) (i : Nat) : valAt l' i = valAt l i := by
  unfold valAt; rw [find_perm hp ho]

theorem filter_next : ∀ (l : List At), ByKind l → ∀ n, l.filter (fun a => decide (a.kind < n + 1)) = l.filter (fun a => decide (a.kind < n)) ++ (l.find? (fun a => a.kind == n)).toList := by
  intro l; induction l with
  | nil => intro _ n; rfl
  | cons a l ih =>
    intro ho n
    unfold ByKind at ho
    rw [List.pairwise_cons] at ho
    have hi := ih ho.2 n
    by_cases h1 : a.kind < n
    · rw [List.filter_cons_of_pos (by simp; omega), List.filter_cons_of_pos (by simp; omega), List.find?_cons_of_neg (by simp; omega), hi]; rfl
    · by_cases h2 : a.kind = n
      · have e : ∀ m, m ≤ n + 1 → l.filter (fun a => decide (a.kind < m)) = [] := by
          intro m hm
          rw [List.filter_eq_nil_iff]
          intro b hb
          have := ho.1 b hb
          simp; omega
        rw [List.filter_cons_of_pos (by simp; omega), List.filter_cons_of_neg (by simp; omega), List.find?_cons_of_pos (by simp; omega), e (n + 1) (by omega), e n (by omega)]; rfl
      · rw [List.filter_cons_of_neg (by simp; omega), List.filter_cons_of_neg (by simp; omega), List.find?_cons_of_neg (by simp; omega), hi]

/-- the text of one type out of the table. -/
def canAt (l : List At) (i : Nat) : List UInt8 := if 0 ≤ flagAt l i then atBytes (flagAt l i).toNat i 2 (valAt l i) else []

theorem canAt_find (l : List At) (i : Nat) : canAt l i = (l.find? (fun a => a.kind == i)).toList.flatMap atCan := by
  unfold canAt flagAt valAt atCan
  cases h : l.find? (fun a => a.kind == i) with
  | none => simp
  | some a =>
    have h1 := List.find?_some h
    simp at h1
    simp [h1]

/-- the text of the types below n. -/
def canTo (l : List At) : Nat → List UInt8
  | 0 => []
  | n + 1 => canTo l n ++ canAt l n

theorem canTo_perm {l l' : List At} (hp : l'.Perm l) (ho : (l.map (·.kind)).Nodup) (n : Nat) : canTo l' n = canTo l n := by
  induction n with
  | zero => rfl
  | succ n ih => unfold canTo; rw [ih, canAt_find, canAt_find, find_perm hp ho]

theorem canTo_sorted (l : List At) (ho : ByKind l) (n : Nat) : canTo l n = (l.filter (fun a => decide (a.kind < n))).flatMap atCan := by
  induction n with
  | zero =>
    have : l.filter (fun a => decide (a.kind < 0)) = [] := by rw [List.filter_eq_nil_iff]; intro a _; simp
    rw [this]; rfl
  | succ n ih => unfold canTo; rw [ih, canAt_find, filter_next l ho n, List.flatMap_append]

theorem canTo_all (l : List At) (ho : ByKind l) (hk : ∀ a ∈ l, a.kind < 256) : canTo l 256 = l.flatMap atCan := by
  rw [canTo_sorted l ho, List.filter_eq_self.2]
  intro a ha; simpa using hk a ha

theorem canTo_le (l : List At) (n m : Nat) (h : n ≤ m) : (canTo l n).length ≤ (canTo l m).length := by
  induction m with
  | zero => have : n = 0 := by omega
            subst this; exact Nat.le_refl _
  | succ m ih =>
    by_cases e : n = m + 1
    · subst e; exact Nat.le_refl _
    · have := ih (by omega)
      show _ ≤ (canTo l m ++ canAt l m).length
      rw [List.length_append]; omega

/-- the needed types of a list with no type twice. -/
theorem needN_count (l : List At) : needN l = (l.map (·.kind)).count 1 + (l.map (·.kind)).count 2 + (l.map (·.kind)).count 3 := by
  induction l with
  | nil => rfl
  | cons a l ih =>
    have e : needN (a :: l) = (if 1 ≤ a.kind ∧ a.kind ≤ 3 then 1 else 0) + needN l := by
      unfold needN
      by_cases h : 1 ≤ a.kind ∧ a.kind ≤ 3
      · rw [List.filter_cons_of_pos (by simpa using h), if_pos h, List.length_cons]; omega
      · rw [List.filter_cons_of_neg (by simpa using h), if_neg h]; omega
    rw [e, ih, List.map_cons, List.count_cons, List.count_cons, List.count_cons]
    simp only [beq_iff_eq]
    by_cases h1 : a.kind = 1
    · simp [h1]; omega
    · by_cases h2 : a.kind = 2
      · simp [h2]; omega
      · by_cases h3 : a.kind = 3
        · simp [h3]; omega
        · rw [if_neg (by omega)]; simp [h1, h2, h3]

theorem count_flag (l : List At) (i : Nat) (ho : (l.map (·.kind)).Nodup) : (l.map (·.kind)).count i ≤ 1 ∧ ((l.map (·.kind)).count i = 0 ↔ flagAt l i < 0) := by
  refine ⟨List.nodup_iff_count.1 ho i, ?_⟩
  rw [List.count_eq_zero]
  unfold flagAt
  cases h : l.find? (fun a => a.kind == i) with
  | none =>
    rw [List.find?_eq_none] at h
    simp
    intro a ha e
    have := h a ha
    simp [e] at this
  | some a =>
    have h1 := List.find?_some h
    have h2 := List.mem_of_find?_eq_some h
    simp at h1
    constructor
    · intro hn
      exact absurd (List.mem_map.2 ⟨a, h2, h1⟩) hn
    · intro hn; simp only at hn; omega

theorem needN_flags (l : List At) (ho : (l.map (·.kind)).Nodup) : (needN l == 3) = !(decide (flagAt l 1 < 0) || decide (flagAt l 2 < 0) || decide (flagAt l 3 < 0)) := by
  have h1 := count_flag l 1 ho
  have h2 := count_flag l 2 ho
  have h3 := count_flag l 3 ho
  have hn := needN_count l
  rw [Bool.eq_iff_iff]
  simp only [beq_iff_eq, Bool.not_eq_true', Bool.or_eq_false_iff, decide_eq_false_iff_not]
  omega

theorem needN_perm {l l' : List At} (hp : l'.Perm l) : needN l' = needN l := by
  unfold needN; exact (hp.filter _).length_eq


theorem akAll_kep (m : Nat) : ∀ (n : Nat) (s : ByteArray) (sn : Nat → Bool) (l : List At) (sp : Bool) (l2 : List At) (sp2 : Bool), s.size ≤ n → s.size ≤ m → Kep m sn l → akAll s sn l sp = some (l2, sp2) → (∃ sn2, Kep m sn2 l2) ∧ l2.length ≤ l.length + s.size := by
  intro n; induction n with
  | zero =>
    intro s sn l sp l2 sp2 hn _ hk h
    rw [akAll_end (by omega)] at h
    simp only [Option.some.injEq, Prod.mk.injEq] at h
    obtain ⟨rfl, _⟩ := h
    exact ⟨⟨sn, hk⟩, by omega⟩
  | succ n ih =>
    intro s sn l sp l2 sp2 hn hm hk h
    by_cases h0 : s.size = 0
    · rw [akAll_end h0] at h
      simp only [Option.some.injEq, Prod.mk.injEq] at h
      obtain ⟨rfl, _⟩ := h
      exact ⟨⟨sn, hk⟩, by omega⟩
    · cases hw : akW s with
      | false =>
        rw [akAll_cut h0 hw] at h
        simp only [Option.some.injEq, Prod.mk.injEq] at h
        obtain ⟨rfl, _⟩ := h
        exact ⟨⟨sn, hk⟩, by omega⟩
      | true =>
        have hr := akR_size s hw
        cases hs : sn (akH s).kind with
        | true =>
          rw [akAll_again h0 hw hs] at h
          obtain ⟨h1, h2⟩ := ih _ _ _ _ _ _ (by omega) (by omega) hk h
          exact ⟨h1, by omega⟩
        | false =>
          cases hd : didOf (akH s).flags (akH s).kind (akH s).val with
          | keep g =>
            rw [akAll_keep h0 hw hs g hd] at h
            obtain ⟨h1, h2⟩ := ih _ _ _ _ _ _ (by omega) (by omega) (hk.keep _ hs g _ (didOf_keep _ _ _ _ hd) (akH_kind s) (by omega)) h
            rw [List.length_append] at h2
            exact ⟨h1, by simp at h2; omega⟩
          | pass =>
            rw [akAll_pass h0 hw hs hd] at h
            obtain ⟨h1, h2⟩ := ih _ _ _ _ _ _ (by omega) (by omega) (hk.met _) h
            exact ⟨h1, by omega⟩
          | spoil =>
            rw [akAll_spoil h0 hw hs hd] at h
            obtain ⟨h1, h2⟩ := ih _ _ _ _ _ _ (by omega) (by omega) (hk.met _) h
            exact ⟨h1, by omega⟩
          | ends =>
            rw [akAll_ends h0 hw hs hd] at h
            simp at h

theorem akOf_kep (s : ByteArray) (l : List At) (sp : Bool) (h : akOf s = some (l, sp)) : ∃ sn2, Kep s.size sn2 l :=
  (akAll_kep s.size s.size s _ _ _ _ _ (Nat.le_refl _) (Nat.le_refl _) (Kep.start _) h).1

theorem flagAt_lt {m : Nat} {sn : Nat → Bool} {l : List At} (h : Kep m sn l) (i : Nat) : flagAt l i < 256 := by
  unfold flagAt
  cases hf : l.find? (fun a => a.kind == i) with
  | none => simp
  | some a => have := (h.fine a (List.mem_of_find?_eq_some hf)).1; simp only; omega

theorem valAt_le {m : Nat} {sn : Nat → Bool} {l : List At} (h : Kep m sn l) (i : Nat) : (valAt l i).size ≤ m := by
  unfold valAt
  cases hf : l.find? (fun a => a.kind == i) with
  | none => exact Nat.zero_le _
  | some a => exact (h.fine a (List.mem_of_find?_eq_some hf)).2.2

theorem canTo_bound (l : List At) (m : Nat) (h : ∀ i, (valAt l i).size ≤ m) : ∀ n, (canTo l n).length ≤ n * (m + 4) := by
  intro n; induction n with
  | zero => exact Nat.zero_le _
  | succ n ih =>
    unfold canTo
    rw [List.length_append, Nat.succ_mul]
    have hc : (canAt l n).length ≤ m + 4 := by
      unfold canAt
      by_cases hg : 0 ≤ flagAt l n
      · rw [if_pos hg, atBytes_length]; have := h n; omega
      · rw [if_neg hg]; simp
    omega

end Rl
end Go.Proofs.Yteoacdkgicfomaa
