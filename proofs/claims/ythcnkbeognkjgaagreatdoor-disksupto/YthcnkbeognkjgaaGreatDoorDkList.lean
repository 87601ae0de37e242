/-
  Lists of files in the order of their names: where a name stands, a file put in its place, one taken out; the order of names.
-/
import Derived.Test.YthcnkbeognkjgaaGreatDoorDkMath
import Derived.Lib.Strings
namespace Go.Proofs.YthcnkbeognkjgaaGreatDoor
namespace Rl

/-- the model's order of texts is the lists' own. -/
theorem less_lists : ∀ x y : List UInt8, Op.bytesLess x y = decide (x < y) := by
  intro x
  induction x with
  | nil => intro y; cases y <;> simp [Op.bytesLess]
  | cons a x ih =>
    intro y
    cases y with
    | nil => simp [Op.bytesLess]
    | cons b y =>
      have h := @List.cons_lt_cons_iff _ _ a b x y
      rw [Op.bytesLess, ih y, Bool.eq_iff_iff]
      simp [h]

theorem ltN_eq (a b : ByteArray) : ltN a b = decide (a.data.toList < b.data.toList) := by
  unfold ltN
  rw [less_lists, Lib.toList_data, Lib.toList_data]

theorem ltN_asymm {a b : ByteArray} (h : ltN a b = true) : ltN b a = false := by
  rw [ltN_eq, decide_eq_true_eq] at h
  rw [ltN_eq, decide_eq_false_iff_not]
  exact List.lt_asymm h

theorem ltN_irrefl (a : ByteArray) : ltN a a = false := by
  rw [ltN_eq, decide_eq_false_iff_not]
  exact List.lt_irrefl _

theorem ltN_trans {a b c : ByteArray} (h : ltN a b = true) (k : ltN b c = true) : ltN a c = true := by
  rw [ltN_eq, decide_eq_true_eq] at *
  exact List.lt_trans h k

theorem ltN_total {a b : ByteArray} (hne : a ≠ b) (h : ltN a b = false) : ltN b a = true := by
  rw [ltN_eq, decide_eq_false_iff_not] at h
  rw [ltN_eq, decide_eq_true_eq]
  rcases List.le_iff_lt_or_eq.1 (List.not_lt.1 h) with h | h
  · exact h
  · exact absurd (ByteArray.ext (Array.ext' h)).symm hne

theorem ltN_ne {a b : ByteArray} (h : ltN a b = true) : a ≠ b := fun e => by subst e; rw [ltN_irrefl] at h; cases h

/-- in order of their names. -/
def Ord (l : List FileM) : Prop := l.Pairwise fun a b => ltN a.name b.name = true

/-- a file written: in the place of the one of its name, or more. -/
def setF (f : FileM) (l : List FileM) : List FileM := match placeF f.name l with | some k => l.set k f | none => putF f l

/-- the file of a name. -/
def lookF (name : ByteArray) (l : List FileM) : Option FileM := l.find? fun f => f.name = name

theorem mem_putF {f x : FileM} {l : List FileM} : x ∈ putF f l ↔ x = f ∨ x ∈ l := by
  induction l with
  | nil => simp [putF]
  | cons a r ih =>
    unfold putF
    split
    · simp
    · simp only [List.mem_cons, ih]
      exact ⟨fun h => by rcases h with h | h | h; exact .inr (.inl h); exact .inl h; exact .inr (.inr h), fun h => by rcases h with h | h | h; exact .inr (.inl h); exact .inl h; exact .inr (.inr h)⟩

theorem ord_putF {f : FileM} : ∀ {l : List FileM}, Ord l → (∀ x ∈ l, x.name ≠ f.name) → Ord (putF f l) := by
  intro l
  induction l with
  | nil => intro _ _; simp [putF, Ord]
  | cons a r ih =>
    intro h hne
    obtain ⟨h1, h2⟩ := List.pairwise_cons.1 h
    unfold putF
    split
    · rename_i hlt
      refine List.pairwise_cons.2 ⟨fun y hy => ?_, h⟩
      rcases List.mem_cons.1 hy with rfl | hy
      · exact hlt
      · exact ltN_trans hlt (h1 y hy)
    · rename_i hlt
      refine List.pairwise_cons.2 ⟨fun y hy => ?_, ih h2 (fun x hx => hne x (by simp [hx]))⟩
      rcases mem_putF.1 hy with rfl | hy
      · exact ltN_total (fun e => hne a (by simp) e.symm) (by simpa using hlt)
      · exact h1 y hy

theorem ord_set {l : List FileM} {k : Nat} {f : FileM} (h : Ord l) (hk : k < l.length) (hn : l[k].name = f.name) : Ord (l.set k f) := by
  unfold Ord at h ⊢
  rw [List.pairwise_iff_getElem] at h ⊢
  intro i j hi hj hij
  have hi' : i < l.length := by simpa using hi
  have hj' : j < l.length := by simpa using hj
  rw [List.getElem_set, List.getElem_set]
  by_cases e1 : k = i
  · subst e1
    rw [if_pos rfl, if_neg (by omega), ← hn]; exact h _ _ hi' hj' hij
  · rw [if_neg e1]
    by_cases e2 : k = j
    · subst e2
      rw [if_pos rfl, ← hn]; exact h _ _ hi' hj' hij
    · rw [if_neg e2]; exact h _ _ hi' hj' hij

theorem ord_erase {l : List FileM} (k : Nat) (h : Ord l) : Ord (l.eraseIdx k) := List.Pairwise.sublist (List.eraseIdx_sublist _ _) h

theorem ord_names {l : List FileM} (h : Ord l) : l.Pairwise fun a b => a.name ≠ b.name := List.Pairwise.imp (fun {_ _} hh => ltN_ne hh) h

theorem place_get {l : List FileM} (h : Ord l) {k : Nat} (hk : k < l.length) : placeF l[k].name l = some k := by
  refine placeF_at (fun j hj hjk => ?_) hk rfl
  have := (List.pairwise_iff_getElem.1 (ord_names h)) j k hj hk hjk
  exact this

theorem ord_setF {f : FileM} {l : List FileM} (h : Ord l) : Ord (setF f l) := by
  unfold setF
  cases hp : placeF f.name l with
  | none => exact ord_putF h (fun x hx => by obtain ⟨j, hj, rfl⟩ := List.mem_iff_getElem.1 hx; exact placeF_none hp j hj)
  | some k =>
    obtain ⟨hk, hn, _⟩ := placeF_lt hp
    exact ord_set h hk hn

theorem mem_setF {f x : FileM} {l : List FileM} (h : x ∈ setF f l) : x = f ∨ x ∈ l := by
  unfold setF at h
  cases hp : placeF f.name l with
  | none => rw [hp] at h; exact mem_putF.1 h
  | some k => rw [hp] at h; exact (List.mem_or_eq_of_mem_set h).symm

/-- a file put into its place, behind the one of its name being taken out: written over it. -/
theorem putF_erase {f : FileM} : ∀ {l : List FileM} {k : Nat} (_ : Ord l) (hk : k < l.length) (_ : l[k].name = f.name), putF f (l.eraseIdx k) = l.set k f := by
  intro l
  induction l with
  | nil => intro k _ hk; simp at hk
  | cons a r ih =>
    intro k h hk hn
    obtain ⟨h1, h2⟩ := List.pairwise_cons.1 h
    cases k with
    | zero =>
      simp only [List.getElem_cons_zero] at hn
      cases r with
      | nil => simp [putF]
      | cons b r' =>
        have hb : ltN f.name b.name = true := by rw [← hn]; exact h1 b (by simp)
        simp [putF, hb]
    | succ k =>
      have hk' : k < r.length := by simpa using hk
      have hn' : r[k].name = f.name := by simpa using hn
      have ha : ltN a.name f.name = true := by rw [← hn']; exact h1 _ (List.getElem_mem _)
      simp only [List.eraseIdx_cons_succ, List.set_cons_succ]
      rw [putF, if_neg (by rw [ltN_asymm ha]; simp), ih h2 hk' hn']

/-- written: where there is none of that name any more. -/
theorem setF_none {f : FileM} {l : List FileM} (h : placeF f.name l = none) : setF f l = putF f l := by unfold setF; rw [h]
theorem setF_some {f : FileM} {l : List FileM} {k : Nat} (h : placeF f.name l = some k) : setF f l = l.set k f := by unfold setF; rw [h]

theorem setF_length (f : FileM) (l : List FileM) : (setF f l).length ≤ l.length + 1 := by
  unfold setF
  cases placeF f.name l with
  | none => exact Nat.le_of_eq (putF_length f l)
  | some k => simp

theorem usedF_put (f : FileM) (l : List FileM) : usedF (putF f l) = f.data.size + usedF l := by
  induction l with
  | nil => simp [putF, usedF]
  | cons a r ih =>
    unfold putF
    split
    · simp [usedF]
    · simp [usedF, ih]; omega

theorem usedF_erase : ∀ (l : List FileM) (k : Nat) (h : k < l.length), usedF (l.eraseIdx k) + l[k].data.size = usedF l := by
  intro l
  induction l with
  | nil => intro k h; simp at h
  | cons a r ih =>
    intro k h
    cases k with
    | zero => simp [usedF]; omega
    | succ k =>
      have := ih k (by simpa using h)
      simp [usedF]; omega

theorem usedF_set : ∀ (l : List FileM) (k : Nat) (f : FileM) (h : k < l.length), usedF (l.set k f) + l[k].data.size = usedF l + f.data.size := by
  intro l
  induction l with
  | nil => intro k f h; simp at h
  | cons a r ih =>
    intro k f h
    cases k with
    | zero => simp [usedF]; omega
    | succ k =>
      have := ih k f (by simpa using h)
      simp [usedF]; omega

/-! the file of a name -/
theorem lookF_some {name : ByteArray} {l : List FileM} {k : Nat} (h : placeF name l = some k) : ∃ hk : k < l.length, lookF name l = some l[k] ∧ l[k].name = name := by
  obtain ⟨hk, hn, hb⟩ := placeF_lt h
  refine ⟨hk, ?_, hn⟩
  unfold lookF
  rw [List.find?_eq_some_iff_getElem]
  exact ⟨by simpa using hn, k, hk, rfl, fun j hj => by simpa using hb j hj⟩

theorem lookF_none {name : ByteArray} {l : List FileM} (h : placeF name l = none) : lookF name l = none := by
  unfold lookF
  rw [List.find?_eq_none]
  intro x hx
  obtain ⟨j, hj, rfl⟩ := List.mem_iff_getElem.1 hx
  simpa using placeF_none h j hj

theorem lookF_mem {l : List FileM} (h : Ord l) {f : FileM} (hf : f ∈ l) : lookF f.name l = some f := by
  obtain ⟨k, hk, rfl⟩ := List.mem_iff_getElem.1 hf
  exact (lookF_some (place_get h hk)).2.1

theorem lookF_spec {name : ByteArray} {l : List FileM} {f : FileM} (h : lookF name l = some f) : f ∈ l ∧ f.name = name := by
  unfold lookF at h
  exact ⟨List.mem_of_find?_eq_some h, by simpa using List.find?_some h⟩

theorem lookF_iff {l : List FileM} (h : Ord l) {name : ByteArray} {f : FileM} : lookF name l = some f ↔ f ∈ l ∧ f.name = name :=
  ⟨lookF_spec, fun ⟨h1, h2⟩ => by rw [← h2]; exact lookF_mem h h1⟩

theorem mem_set_iff {l : List FileM} (h : Ord l) {k : Nat} {f x : FileM} (hk : k < l.length) (hn : l[k].name = f.name) : x ∈ l.set k f ↔ x = f ∨ (x ∈ l ∧ x.name ≠ f.name) := by
  constructor
  · intro hx
    obtain ⟨i, hi, rfl⟩ := List.mem_iff_getElem.1 hx
    have hi' : i < l.length := by simpa using hi
    rw [List.getElem_set]
    by_cases e : k = i
    · subst e; rw [if_pos rfl]; exact .inl rfl
    · rw [if_neg e]
      refine .inr ⟨List.getElem_mem _, fun e2 => ?_⟩
      have hh := List.pairwise_iff_getElem.1 (ord_names h)
      rcases Nat.lt_or_gt_of_ne e with hlt | hlt
      · exact hh k i hk hi' hlt (hn.trans e2.symm)
      · exact hh i k hi' hk hlt (e2.trans hn.symm)
  · rintro (rfl | ⟨hx, hne⟩)
    · exact List.mem_iff_getElem.2 ⟨k, by simpa using hk, by simp⟩
    · obtain ⟨i, hi, rfl⟩ := List.mem_iff_getElem.1 hx
      have e : k ≠ i := fun e => by subst e; exact hne hn
      exact List.mem_iff_getElem.2 ⟨i, by simpa using hi, by rw [List.getElem_set, if_neg e]⟩

theorem mem_setF_iff {l : List FileM} (h : Ord l) {f x : FileM} : x ∈ setF f l ↔ x = f ∨ (x ∈ l ∧ x.name ≠ f.name) := by
  unfold setF
  cases hp : placeF f.name l with
  | none =>
    simp only [mem_putF]
    refine or_congr_right ⟨fun hx => ⟨hx, fun e => ?_⟩, And.left⟩
    obtain ⟨j, hj, rfl⟩ := List.mem_iff_getElem.1 hx
    exact placeF_none hp j hj e
  | some k =>
    obtain ⟨hk, hn, _⟩ := placeF_lt hp
    exact mem_set_iff h hk hn

theorem mem_erase_iff {l : List FileM} (h : Ord l) {k : Nat} {x : FileM} (hk : k < l.length) : x ∈ l.eraseIdx k ↔ x ∈ l ∧ x.name ≠ l[k].name := by
  rw [List.mem_eraseIdx_iff_getElem]
  constructor
  · rintro ⟨i, hi, hne, rfl⟩
    refine ⟨List.getElem_mem _, fun e => ?_⟩
    have hh := List.pairwise_iff_getElem.1 (ord_names h)
    rcases Nat.lt_or_gt_of_ne hne with hlt | hlt
    · exact hh i k hi hk hlt e
    · exact hh k i hk hi hlt e.symm
  · rintro ⟨hx, hne⟩
    obtain ⟨i, hi, rfl⟩ := List.mem_iff_getElem.1 hx
    exact ⟨i, hi, fun e => by subst e; exact hne rfl, rfl⟩

theorem lookF_setF {l : List FileM} (h : Ord l) (f : FileM) (name : ByteArray) : lookF name (setF f l) = if name = f.name then some f else lookF name l := by
  have hs := ord_setF (f := f) h
  by_cases e : name = f.name
  · rw [if_pos e, lookF_iff hs]; exact ⟨(mem_setF_iff h).2 (.inl rfl), e.symm⟩
  · rw [if_neg e]
    cases hl : lookF name l with
    | some y =>
      obtain ⟨h1, h2⟩ := lookF_spec hl
      rw [lookF_iff hs]; exact ⟨(mem_setF_iff h).2 (.inr ⟨h1, by rw [h2]; exact e⟩), h2⟩
    | none =>
      cases hl2 : lookF name (setF f l) with
      | none => rfl
      | some y =>
        obtain ⟨h1, h2⟩ := lookF_spec hl2
        rcases (mem_setF_iff h).1 h1 with rfl | ⟨h3, _⟩
        · exact absurd h2.symm e
        · rw [(lookF_iff h).2 ⟨h3, h2⟩] at hl; cases hl

theorem lookF_erase {l : List FileM} (h : Ord l) {k : Nat} (hk : k < l.length) (name : ByteArray) : lookF name (l.eraseIdx k) = if name = l[k].name then none else lookF name l := by
  have hs := ord_erase k h
  by_cases e : name = l[k].name
  · rw [if_pos e]
    cases hl : lookF name (l.eraseIdx k) with
    | none => rfl
    | some y =>
      obtain ⟨h1, h2⟩ := lookF_spec hl
      exact absurd (h2.trans e) ((mem_erase_iff h hk).1 h1).2
  · rw [if_neg e]
    cases hl : lookF name l with
    | some y =>
      obtain ⟨h1, h2⟩ := lookF_spec hl
      rw [lookF_iff hs]; exact ⟨(mem_erase_iff h hk).2 ⟨h1, by rw [h2]; exact e⟩, h2⟩
    | none =>
      cases hl2 : lookF name (l.eraseIdx k) with
      | none => rfl
      | some y =>
        obtain ⟨h1, h2⟩ := lookF_spec hl2
        rw [(lookF_iff h).2 ⟨((mem_erase_iff h hk).1 h1).1, h2⟩] at hl; cases hl

end Rl
end Go.Proofs.YthcnkbeognkjgaaGreatDoor
