/-
  How many files there may be, and how many bytes: what each call adds.
-/
import Derived.Test.YthcnkbeognkjgaaGreatDoorDkPlain
namespace Go.Proofs.YthcnkbeognkjgaaGreatDoor
namespace Rl

/-- a disk of at most a files and b bytes, its numbers in their bounds. -/
structure Fine (m : DiskM) (a b : Nat) : Prop where
  files : m.files.length ≤ a
  bytes : usedF m.files ≤ b
  room0 : 0 ≤ m.room
  room1 : m.room ≤ 9223372036854775807
  left0 : -1 ≤ m.left
  left1 : m.left ≤ 9223372036854775807

theorem Fine.mono {m : DiskM} {a b a' b' : Nat} (h : Fine m a b) (ha : a ≤ a') (hb : b ≤ b') : Fine m a' b' := ⟨Nat.le_trans h.files ha, Nat.le_trans h.bytes hb, h.room0, h.room1, h.left0, h.left1⟩

theorem lookF_place {name : ByteArray} {l : List FileM} {f : FileM} (h : lookF name l = some f) : ∃ k, ∃ hk : k < l.length, placeF name l = some k ∧ l[k] = f ∧ f.name = name := by
  cases hp : placeF name l with
  | none => rw [lookF_none hp] at h; cases h
  | some k =>
    obtain ⟨hk, hl, hn⟩ := lookF_some hp
    rw [hl] at h
    injection h with h
    exact ⟨k, hk, rfl, h, by rw [← h]; exact hn⟩

theorem setF_len (f : FileM) (l : List FileM) : (setF f l).length ≤ l.length + 1 := by
  unfold setF
  cases placeF f.name l with
  | none => rw [putF_length]; omega
  | some k => simp

theorem usedF_setF_le (f : FileM) (l : List FileM) : usedF (setF f l) ≤ usedF l + f.data.size := by
  unfold setF
  cases hp : placeF f.name l with
  | none => simp only; rw [usedF_put]; omega
  | some k =>
    obtain ⟨hk, _⟩ := placeF_lt hp
    have := usedF_set l k f hk
    simp only
    omega

theorem usedF_setF_at {f g : FileM} {l : List FileM} {k : Nat} (hk : k < l.length) (hp : placeF f.name l = some k) (hg : l[k] = g) : usedF (setF f l) + g.data.size = usedF l + f.data.size := by
  unfold setF
  rw [hp]
  have := usedF_set l k f hk
  rw [hg] at this
  exact this

theorem fine_change {m m2 : DiskM} {a b a' b' : Nat} (l : List ByteArray) (er : Int) (h : Fine m a b) (h2 : Fine m2 a' b') (ha : a ≤ a') (hb : b ≤ b') : Fine (changeM m l er m2) a' b' := by
  have hl : -1 ≤ lessC m.left ∧ lessC m.left ≤ 9223372036854775807 := by
    have h0 := h.left0; have h1 := h.left1
    unfold lessC
    split <;> omega
  unfold changeM
  split
  · split
    · exact ⟨h2.files, h2.bytes, h2.room0, h2.room1, hl.1, hl.2⟩
    · exact h2
  · exact h.mono ha hb

theorem fine_file {m m2 : DiskM} {a b a' b' : Nat} (name : ByteArray) (h : Fine m a b) (h2 : Fine m2 a' b') (ha : a ≤ a') (hb : b ≤ b') : Fine (fileM m name m2) a' b' := by
  unfold fileM
  split
  · exact h2
  · exact h.mono ha hb

theorem Fine.files' {m : DiskM} {a b a' b' : Nat} (h : Fine m a b) (l : List FileM) (hl : l.length ≤ a') (hu : usedF l ≤ b') : Fine { m with files := l } a' b' := ⟨hl, hu, h.room0, h.room1, h.left0, h.left1⟩

theorem fine_sync {m : DiskM} {a b : Nat} (name : ByteArray) (h : Fine m a b) : Fine (syncM m name) (a + 1) b := by
  unfold syncM
  cases hf : lookF name m.files with
  | none => exact h.mono (by omega) (by omega)
  | some f =>
    obtain ⟨k, hk, hp, hkf, hn⟩ := lookF_place hf
    have h1 := h.files; have h2 := h.bytes
    have hu := usedF_setF_at (f := syncF f) hk (by show placeF f.name _ = _; rw [hn]; exact hp) hkf
    have hs : (syncF f).data.size = f.data.size := rfl
    exact h.files' _ (Nat.le_trans (setF_len _ _) (by omega)) (by omega)

theorem fine_delete {m : DiskM} {a b : Nat} (name : ByteArray) (h : Fine m a b) : Fine (deleteM m name) (a + 1) b := by
  unfold deleteM
  cases hp : placeF name m.files with
  | none => exact h.mono (by omega) (by omega)
  | some k =>
    obtain ⟨hk, _⟩ := placeF_lt hp
    have h1 := h.files; have h2 := h.bytes
    have hu := usedF_erase m.files k hk
    exact h.files' _ (Nat.le_trans (List.length_eraseIdx_le _ _) (by omega)) (by omega)

theorem fine_trunc {m : DiskM} {a b : Nat} (name : ByteArray) (n : Int) (h : Fine m a b) : Fine (truncM m name n) (a + 1) b := by
  unfold truncM
  cases hf : lookF name m.files with
  | none => exact h.mono (by omega) (by omega)
  | some f =>
    obtain ⟨k, hk, hp, hkf, hn⟩ := lookF_place hf
    have h1 := h.files; have h2 := h.bytes
    simp only
    split
    · exact h.mono (by omega) (by omega)
    · have hu := usedF_setF_at (f := truncF f n.toNat) hk (by show placeF f.name _ = _; rw [hn]; exact hp) hkf
      have hs : (truncF f n.toNat).data.size ≤ f.data.size := by unfold truncF; simp only; rw [ByteArray.size_extract]; omega
      exact h.files' _ (Nat.le_trans (setF_len _ _) (by omega)) (by omega)

theorem fine_rename {m : DiskM} {a b : Nat} (name tn : ByteArray) (h : Fine m a b) : Fine (renameM m name tn) (a + 1) b := by
  unfold renameM
  cases hf : lookF name m.files with
  | none =>
    cases placeF name m.files <;> exact h.mono (by omega) (by omega)
  | some f =>
    obtain ⟨k, hk, hp, hkf, hn⟩ := lookF_place hf
    rw [hp]
    have h1 := h.files; have h2 := h.bytes
    have hu := usedF_erase m.files k hk
    rw [hkf] at hu
    have hs := usedF_setF_le (namedF f tn) (m.files.eraseIdx k)
    have hd : (namedF f tn).data.size = f.data.size := rfl
    have hl := setF_len (namedF f tn) (m.files.eraseIdx k)
    have hl2 := List.length_eraseIdx_le m.files k
    exact h.files' _ (by omega) (by omega)

theorem fine_append {m : DiskM} {a b : Nat} (name d : ByteArray) (h : Fine m a b) : Fine (apM m name d) (a + 1) (b + d.size) := by
  unfold apM
  split
  · exact h.mono (by omega) (by omega)
  · have h1 := h.files; have h2 := h.bytes
    have hl := setF_len (apF m name d) m.files
    refine h.files' _ (by omega) ?_
    unfold apF
    cases hf : lookF name m.files with
    | none =>
      have hs := usedF_setF_le ⟨name, d, 0⟩ m.files
      simp only at hs ⊢
      omega
    | some f =>
      obtain ⟨k, hk, hp, hkf, hn⟩ := lookF_place hf
      have hu := usedF_setF_at (f := { f with data := f.data ++ d }) hk (by show placeF f.name _ = _; rw [hn]; exact hp) hkf
      have hs : ({ f with data := f.data ++ d } : FileM).data.size = f.data.size + d.size := ByteArray.size_append
      simp only
      omega

theorem usedF_crash : ∀ (l : List FileM) (g : Nat → FileM → FileM), (∀ i f, (g i f).data.size ≤ f.data.size) → usedF (l.mapIdx g) ≤ usedF l := by
  intro l
  induction l with
  | nil => intro g _; simp [usedF]
  | cons f r ih =>
    intro g hg
    rw [List.mapIdx_cons]
    have h1 := hg 0 f
    have h2 := ih (fun i => g (i + 1)) (fun i f => hg (i + 1) f)
    simp only [usedF]
    omega

theorem fine_crash {m : DiskM} {a b : Nat} (keep : List Int) (h : Fine m a b) : Fine (crashM m keep) (a + 1) b := by
  have h1 := h.files; have h2 := h.bytes
  have hu := usedF_crash m.files (fun i f => crashF f (keepAt keep i)) (fun i f => by unfold crashF; simp only; rw [ByteArray.size_extract]; omega)
  unfold crashM
  exact ⟨by simp only [List.length_mapIdx]; omega, by simp only; omega, h.room0, h.room1, by simp, by simp⟩

theorem fine_break {m : DiskM} {a b : Nat} (n : Int) (h : Fine m a b) (hn : n ≤ 9223372036854775807) : Fine (if n < 0 then m else { m with left := n }) (a + 1) b := by
  split
  · exact h.mono (by omega) (by omega)
  · exact ⟨Nat.le_trans h.files (by omega), h.bytes, h.room0, h.room1, by simp only; omega, hn⟩

end Rl
end Go.Proofs.YthcnkbeognkjgaaGreatDoor
