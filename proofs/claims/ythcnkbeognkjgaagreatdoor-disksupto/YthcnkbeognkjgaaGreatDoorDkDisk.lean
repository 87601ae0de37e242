/-
  The program's disk on the heap: a box of three cells, a map of files, their bytes each in a row of its own; what writes of the map, and of the box, make of it.
-/
import Derived.Test.YthcnkbeognkjgaaGreatDoorDkHeap
import Derived.Test.YthcnkbeognkjgaaGreatDoorDkList
import Derived.Test.YthcnkbeognkjgaaGreatDoorBeMath
import Derived.Maps.OwnSet
import Derived.Maps.Views
import Derived.Sort.KeysCollected
namespace Go.Proofs.YthcnkbeognkjgaaGreatDoor
open Go.RowKit
namespace Rl

/-- how a file of the program's disk reads as an element of the map: itself. -/
def RFile (v : Value) : Option (DataW Value × List MemPlace) :=
  match v with
  | .agg cs => match cs.toList with
    | [.slice _ _ _, .int .i64 _] => some (.held (.agg cs), [])
    | _ => none
  | _ => none

theorem RFile_mk (a : Option Addr) (n c : Nat) (s : Int) : RFile (.agg #[.slice a n c, .int .i64 s]) = some (.held (.agg #[.slice a n c, .int .i64 s]), []) := rfl

theorem RFile_inv {v : Value} {y : DataW Value × List MemPlace} (h : RFile v = some y) : ∃ (a : Option Addr) (n c : Nat) (s : Int), v = .agg #[.slice a n c, .int .i64 s] ∧ y = (.held v, []) := by
  unfold RFile at h
  cases v <;> simp only [reduceCtorEq] at h
  rename_i cs
  split at h
  · rename_i a n c s hl
    cases h
    exact ⟨a, n, c, s, by rw [← hl], rfl⟩
  · cases h

/-- the datum D of the map is these files, the bytes of each where cv says. -/
def MapIs (D : DataW Value) (files : List FileM) (cv : ByteArray → Value) : Prop :=
  ∀ (name : ByteArray) (zd : DataW Value), D.atKey (.string name.data.toList) zd = match lookF name files with | some f => .held (.agg #[cv f.name, .int .i64 (f.sync : Int)]) | none => zd

theorem MapIs.has {D : DataW Value} {files : List FileM} {cv : ByteArray → Value} (h : MapIs D files cv) (name : ByteArray) : Maps.has D (.string name.data.toList) = (lookF name files).isSome := by
  cases hl : lookF name files with
  | none => exact Maps.has_false_of_atKey (fun z => by rw [h name z, hl])
  | some f => exact Maps.has_true_of_atKey (y := .held (.agg #[cv f.name, .int .i64 (f.sync : Int)])) (fun z => by rw [h name z, hl])

theorem name_inj {a b : ByteArray} (h : Lit.string a.data.toList = Lit.string b.data.toList) : a = b := by
  injection h with h
  exact ByteArray.ext (Array.ext' h)

theorem key_lit (name : ByteArray) : WideAt.IsKeyLit (.string name.data.toList) := trivial

theorem MapIs.put {D : DataW Value} {files : List FileM} {cv : ByteArray → Value} (h : MapIs D files cv) (hD : Maps.IsMap D) (ho : Ord files) (f : FileM) (v : Value) :
    MapIs (D.put (.string f.name.data.toList) (.held (.agg #[v, .int .i64 (f.sync : Int)]))) (setF f files) (fun n => if n = f.name then v else cv n) := by
  intro name zd
  rw [lookF_setF ho]
  by_cases e : name = f.name
  · rw [if_pos e, e]
    rw [Maps.atKey_put_same hD (key_lit _)]
    simp
  · rw [if_neg e, Maps.atKey_put_other (fun e2 => e (name_inj e2)), h name zd]
    cases hl : lookF name files with
    | none => rfl
    | some g =>
      have := (lookF_spec hl).2
      simp only
      rw [if_neg (by rw [this]; exact e)]

theorem MapIs.del {D : DataW Value} {files : List FileM} {cv : ByteArray → Value} (h : MapIs D files cv) (ho : Ord files) {k : Nat} (hk : k < files.length) :
    MapIs (D.del (.string files[k].name.data.toList)) (files.eraseIdx k) cv := by
  intro name zd
  rw [lookF_erase ho hk]
  by_cases e : name = files[k].name
  · rw [if_pos e, e, Maps.atKey_del_same]
  · rw [if_neg e, Maps.atKey_del_other (fun e2 => e (name_inj e2)), h name zd]

/-- the keys of the map are the files' names. -/
theorem MapIs.keys {D : DataW Value} {files : List FileM} {cv : ByteArray → Value} (h : MapIs D files cv) (ho : Ord files) {w : World} {b n : Nat} (hown : w.ownsMap Tryz.prog 9 RFile b n D) :
    (files.map fun f => f.name.data.toList).Perm (strKeys D) := by
  obtain ⟨es, rfl, hpw, _⟩ := hown.entries (Maps.string_keyed Tryz.underlying9)
  obtain ⟨es', hD', hko⟩ := hown.keysOf
  obtain rfl : es = es' := by simpa using hD'
  refine perm_strKeys hpw (fun p hp => by obtain ⟨v, hv⟩ := hko p hp; obtain ⟨x, _, hx, _⟩ := Maps.keyOf_str Tryz.underlying9 hv; exact ⟨x, hx⟩) ?_ (fun x => ?_)
  · refine List.pairwise_map.2 ((ord_names ho).imp (fun {a b} hne e => hne (ByteArray.ext (Array.ext' e))))
  · have hx := h.has (⟨x.toArray⟩ : ByteArray)
    simp only at hx
    rw [hx]
    constructor
    · intro hm
      obtain ⟨f, hf, rfl⟩ := List.mem_map.1 hm
      have : lookF (⟨f.name.data.toList.toArray⟩ : ByteArray) files = some f := by
        rw [lookF_iff ho]; exact ⟨hf, by simp⟩
      rw [this]; rfl
    · intro hm
      rw [Option.isSome_iff_exists] at hm
      obtain ⟨f, hf⟩ := hm
      obtain ⟨h1, h2⟩ := lookF_spec hf
      exact List.mem_map.2 ⟨f, h1, by rw [h2]⟩

theorem MapIs.count {D : DataW Value} {files : List FileM} {cv : ByteArray → Value} (h : MapIs D files cv) (ho : Ord files) {w : World} {b n : Nat} (hown : w.ownsMap Tryz.prog 9 RFile b n D) : Maps.size D = files.length := by
  have hp := (h.keys ho hown).length_eq
  obtain ⟨es, rfl⟩ := hown.isMap
  rw [List.length_map] at hp
  rw [hp]
  simp [Maps.size, strKeys]

theorem owns_tight {H : Type} {P : Program} {k : TypeId} {R : Value → Option (DataW H × List MemPlace)} {w : World} {b n : Nat} {D : DataW H} (h : w.ownsMap P k R b n D) : w.ownsMap P k R b (Maps.size D) D := by
  obtain ⟨es, clock, hb, F, _, rfl⟩ := h
  exact ⟨es, clock, hb, F, by simp [Maps.size, length_sorted], rfl⟩

/-- THE PROGRAM's DISK at block p of w, its map at block b; cv: where the bytes of a name's file lie; S: the blocks that it may turn. -/
structure IDisk (w : World) (S : Nat → Prop) (p b : Nat) (cv : ByteArray → Value) (m : DiskM) : Prop where
  box : Bx3 w p (.int .i64 m.room) (.map (some b)) (.int .i64 m.left)
  map : ∃ D n, w.ownsMap Tryz.prog 9 RFile b n D ∧ MapIs D m.files cv
  rows : ∀ f ∈ m.files, w.ownsRow 0 5 1 (cv f.name) f.data.size (u8s f.data.data.toList)
  own : S p
  ownb : S b
  far : ∀ f ∈ m.files, ∀ k, (cv f.name).ownBlock = some k → S k ∧ k ≠ p ∧ k ≠ b
  apart : ∀ f ∈ m.files, ∀ g ∈ m.files, ∀ k, (cv f.name).ownBlock = some k → (cv g.name).ownBlock = some k → f.name = g.name
  lt : ∀ k, S k → k < w.heap.size
  ord : Ord m.files
  names : ∀ f ∈ m.files, f.name.size ≤ 8
  sync : ∀ f ∈ m.files, f.sync ≤ f.data.size

theorem Tch.map {H : Type} {P : Program} {k : TypeId} {R : Value → Option (DataW H × List MemPlace)} {S : Nat → Prop} {w w' : World} {b n : Nat} {D : DataW H} (h : w.ownsMap P k R b n D) (ht : Tch S w w') (hn : ¬ S b) : w'.ownsMap P k R b n D := by
  have hlt := h.lt
  obtain ⟨es, clock, hb, r⟩ := h
  exact ⟨es, clock, (ht.block b hlt hn).trans hb, r⟩

theorem IDisk.ne {w : World} {S : Nat → Prop} {p b : Nat} {cv : ByteArray → Value} {m : DiskM} (h : IDisk w S p b cv m) : p ≠ b := by
  intro e
  subst e
  obtain ⟨D, n, ⟨es, clock, hb, _⟩, _⟩ := h.map
  have := h.box.c0
  simp [World.cell?, hb] at this

theorem IDisk.touch {w w' : World} {S T : Nat → Prop} {p b : Nat} {cv : ByteArray → Value} {m : DiskM} (h : IDisk w S p b cv m) (ht : Tch T w w') (hd : ∀ k, S k → ¬ T k) : IDisk w' S p b cv m :=
  ⟨h.box.touch ht (hd p h.own), (let ⟨D, n, h1, h2⟩ := h.map; ⟨D, n, ht.map h1 (hd b h.ownb), h2⟩), fun f hf => ht.owns (h.rows f hf) (fun k hk => hd k (h.far f hf k hk).1), h.own, h.ownb, h.far, h.apart, fun k hk => Nat.lt_of_lt_of_le (h.lt k hk) ht.size, h.ord, h.names, h.sync⟩

theorem IDisk.later {w w' : World} {S : Nat → Prop} {p b : Nat} {cv : ByteArray → Value} {m : DiskM} (h : IDisk w S p b cv m) (hb : Below w.heap.size w w') : IDisk w' S p b cv m := h.touch (Tch.ofBelow (S := fun _ => False) hb) (fun _ _ x => x)

theorem IDisk.mono {w : World} {S S' : Nat → Prop} {p b : Nat} {cv : ByteArray → Value} {m : DiskM} (h : IDisk w S p b cv m) (hs : ∀ k, S k → S' k) (hl : ∀ k, S' k → k < w.heap.size) : IDisk w S' p b cv m :=
  ⟨h.box, h.map, h.rows, hs _ h.own, hs _ h.ownb, fun f hf k hk => ⟨hs _ (h.far f hf k hk).1, (h.far f hf k hk).2⟩, h.apart, hl, h.ord, h.names, h.sync⟩

theorem IDisk.setLeft {w : World} {S : Nat → Prop} {p b : Nat} {cv : ByteArray → Value} {m : DiskM} (h : IDisk w S p b cv m) (n : Int) : IDisk (w.setCell ⟨p, 2, none⟩ (.int .i64 n)) S p b cv { m with left := n } := by
  have ht : Tch (fun k => k = p) w (w.setCell ⟨p, 2, none⟩ (.int .i64 n)) := touch_set (S := fun k => k = p) (p := ⟨p, 2, none⟩) (.int .i64 n) rfl
  obtain ⟨D, k, h1, h2⟩ := h.map
  exact ⟨h.box.set2 _, ⟨D, k, ht.map h1 (fun e => h.ne e.symm), h2⟩, fun f hf => ht.owns (h.rows f hf) (fun k hk e => (h.far f hf k hk).2.1 e), h.own, h.ownb, h.far, h.apart, fun k hk => by simpa using h.lt k hk, h.ord, h.names, h.sync⟩

/-- what a call has made of the program's disk. -/
def IBecomes (S : Nat → Prop) (w w' : World) (p b : Nat) (m : DiskM) : Prop := ∃ S' cv', IDisk w' S' p b cv' m ∧ (∀ k, S' k → S k ∨ w.heap.size ≤ k) ∧ Tch S w w'

theorem IDisk.becomes {w w' : World} {S : Nat → Prop} {p b : Nat} {cv : ByteArray → Value} {m : DiskM} (h : IDisk w S p b cv m) (hb : Below w.heap.size w w') : IBecomes S w w' p b m := ⟨S, cv, h.later hb, fun _ hk => .inl hk, Tch.ofBelow hb⟩

theorem IBecomes.behind {S : Nat → Prop} {w w1 w2 : World} {p b : Nat} {m : DiskM} (hb : Below w.heap.size w w1) (h : IBecomes S w1 w2 p b m) : IBecomes S w w2 p b m := by
  obtain ⟨S', cv', h1, h2, h3⟩ := h
  exact ⟨S', cv', h1, fun k hk => (h2 k hk).imp id (fun h => Nat.le_trans hb.size h), (Tch.ofBelow hb).trans h3 (fun i hi => .inl hi)⟩

theorem IBecomes.ahead {S : Nat → Prop} {w w1 w2 : World} {p b : Nat} {m : DiskM} (h : IBecomes S w w1 p b m) (hb : Below w1.heap.size w1 w2) : IBecomes S w w2 p b m := by
  obtain ⟨S', cv', h1, h2, h3⟩ := h
  exact ⟨S', cv', h1.later hb, h2, h3.below hb⟩

theorem IBecomes.andThen {S : Nat → Prop} {w w1 w2 : World} {p b : Nat} {m2 : DiskM} {S1 : Nat → Prop} (hs : ∀ k, S1 k → S k ∨ w.heap.size ≤ k) (ht : Tch S w w1) (h : IBecomes S1 w1 w2 p b m2) : IBecomes S w w2 p b m2 := by
  obtain ⟨S', cv', h1, h2, h3⟩ := h
  refine ⟨S', cv', h1, fun k hk => ?_, ht.trans h3 hs⟩
  rcases h2 k hk with h | h
  · exact hs k h
  · exact .inr (Nat.le_trans ht.size h)

/-- the same, but that nothing is said of where the bytes of the file x lie. -/
structure XDisk (x : ByteArray) (w : World) (S : Nat → Prop) (p b : Nat) (cv : ByteArray → Value) (m : DiskM) : Prop where
  box : Bx3 w p (.int .i64 m.room) (.map (some b)) (.int .i64 m.left)
  map : ∃ D n, w.ownsMap Tryz.prog 9 RFile b n D ∧ MapIs D m.files cv
  rows : ∀ f ∈ m.files, f.name ≠ x → w.ownsRow 0 5 1 (cv f.name) f.data.size (u8s f.data.data.toList)
  own : S p
  ownb : S b
  far : ∀ f ∈ m.files, f.name ≠ x → ∀ k, (cv f.name).ownBlock = some k → S k ∧ k ≠ p ∧ k ≠ b
  apart : ∀ f ∈ m.files, ∀ g ∈ m.files, f.name ≠ x → g.name ≠ x → ∀ k, (cv f.name).ownBlock = some k → (cv g.name).ownBlock = some k → f.name = g.name
  lt : ∀ k, S k → k < w.heap.size
  ord : Ord m.files
  names : ∀ f ∈ m.files, f.name.size ≤ 8
  sync : ∀ f ∈ m.files, f.sync ≤ f.data.size

theorem IDisk.but {w : World} {S : Nat → Prop} {p b : Nat} {cv : ByteArray → Value} {m : DiskM} (h : IDisk w S p b cv m) (x : ByteArray) : XDisk x w S p b cv m :=
  ⟨h.box, h.map, fun f hf _ => h.rows f hf, h.own, h.ownb, fun f hf _ => h.far f hf, fun f hf g hg _ _ => h.apart f hf g hg, h.lt, h.ord, h.names, h.sync⟩

theorem XDisk.ne {x : ByteArray} {w : World} {S : Nat → Prop} {p b : Nat} {cv : ByteArray → Value} {m : DiskM} (h : XDisk x w S p b cv m) : p ≠ b := by
  intro e
  subst e
  obtain ⟨D, n, ⟨es, clock, hb, _⟩, _⟩ := h.map
  have := h.box.c0
  simp [World.cell?, hb] at this

theorem XDisk.touch {x : ByteArray} {w w' : World} {S T : Nat → Prop} {p b : Nat} {cv : ByteArray → Value} {m : DiskM} (h : XDisk x w S p b cv m) (ht : Tch T w w') (hd : ∀ k, S k → ¬ T k) : XDisk x w' S p b cv m :=
  ⟨h.box.touch ht (hd p h.own), (let ⟨D, n, h1, h2⟩ := h.map; ⟨D, n, ht.map h1 (hd b h.ownb), h2⟩), fun f hf hx => ht.owns (h.rows f hf hx) (fun k hk => hd k (h.far f hf hx k hk).1), h.own, h.ownb, h.far, h.apart, fun k hk => Nat.lt_of_lt_of_le (h.lt k hk) ht.size, h.ord, h.names, h.sync⟩

theorem XDisk.later {x : ByteArray} {w w' : World} {S : Nat → Prop} {p b : Nat} {cv : ByteArray → Value} {m : DiskM} (h : XDisk x w S p b cv m) (hb : Below w.heap.size w w') : XDisk x w' S p b cv m := h.touch (Tch.ofBelow (S := fun _ => False) hb) (fun _ _ x => x)

theorem XDisk.mono {x : ByteArray} {w : World} {S S' : Nat → Prop} {p b : Nat} {cv : ByteArray → Value} {m : DiskM} (h : XDisk x w S p b cv m) (hs : ∀ k, S k → S' k) (hl : ∀ k, S' k → k < w.heap.size) : XDisk x w S' p b cv m :=
  ⟨h.box, h.map, h.rows, hs _ h.own, hs _ h.ownb, fun f hf hx k hk => ⟨hs _ (h.far f hf hx k hk).1, (h.far f hf hx k hk).2⟩, h.apart, hl, h.ord, h.names, h.sync⟩

/-- the row of the file x alone has turned, and new blocks have come. -/
theorem IDisk.grown {w w' : World} {S : Nat → Prop} {p b : Nat} {cv : ByteArray → Value} {m : DiskM} {x : ByteArray} {row : Option Nat} (h : IDisk w S p b cv m) (hg : w.grownBy w' row)
    (hr : ∀ k, row = some k → ∃ f ∈ m.files, f.name = x ∧ (cv x).ownBlock = some k) : XDisk x w' S p b cv m := by
  have ht : Tch (fun k => row = some k) w w' := ⟨hg.os, hg.tape, hg.output, hg.size, fun k hk hn => hg.block k hk (fun e => hn e.symm)⟩
  have hp : row ≠ some p := fun e => by
    obtain ⟨f, hf, rfl, hk⟩ := hr p e
    exact (h.far f hf p hk).2.1 rfl
  have hb : row ≠ some b := fun e => by
    obtain ⟨f, hf, rfl, hk⟩ := hr b e
    exact (h.far f hf b hk).2.2 rfl
  refine ⟨h.box.touch ht hp, (let ⟨D, n, h1, h2⟩ := h.map; ⟨D, n, ht.map h1 hb, h2⟩), fun g hg2 hx => ht.owns (h.rows g hg2) (fun k hk e => ?_), h.own, h.ownb, fun f hf _ => h.far f hf, fun f hf g hg2 _ _ => h.apart f hf g hg2, fun k hk => Nat.lt_of_lt_of_le (h.lt k hk) ht.size, h.ord, h.names, h.sync⟩
  obtain ⟨f, hf, rfl, hk2⟩ := hr k e
  exact hx (h.apart g hg2 f hf k hk hk2)

/-- a file written into the map. -/
theorem XDisk.store {w w' : World} {S : Nat → Prop} {p b n : Nat} {cv : ByteArray → Value} {m : DiskM} {D : DataW Value} {f : FileM} {v : Value} (h : XDisk f.name w S p b cv m) (hD : MapIs D m.files cv) (hm : Maps.IsMap D)
    (hown : w'.ownsMap Tryz.prog 9 RFile b n (D.put (.string f.name.data.toList) (.held (.agg #[v, .int .i64 (f.sync : Int)])))) (hg : w.grownBy w' (some b))
    (hrow : w.ownsRow 0 5 1 v f.data.size (u8s f.data.data.toList)) (hv : ∀ k, v.ownBlock = some k → S k ∧ k ≠ p ∧ k ≠ b ∧ ∀ g ∈ m.files, g.name ≠ f.name → (cv g.name).ownBlock ≠ some k)
    (hn : f.name.size ≤ 8) (hs : f.sync ≤ f.data.size) : IDisk w' S p b (fun n => if n = f.name then v else cv n) { m with files := setF f m.files } := by
  have ht : Tch (fun k => k = b) w w' := ⟨hg.os, hg.tape, hg.output, hg.size, fun k hk hn => hg.block k hk (fun e => hn (by injection e))⟩
  have hmem := @mem_setF_iff m.files h.ord f
  refine ⟨h.box.touch ht h.ne, ⟨_, n, hown, hD.put hm h.ord f v⟩, ?_, h.own, h.ownb, ?_, ?_, fun k hk => Nat.lt_of_lt_of_le (h.lt k hk) ht.size, ord_setF h.ord, ?_, ?_⟩
  · intro g hgm
    rcases hmem.1 hgm with rfl | ⟨h1, h2⟩
    · rw [if_pos rfl]; exact ht.owns hrow (fun k hk => (hv k hk).2.2.1)
    · rw [if_neg h2]; exact ht.owns (h.rows g h1 h2) (fun k hk => (h.far g h1 h2 k hk).2.2)
  · intro g hgm k hk
    rcases hmem.1 hgm with rfl | ⟨h1, h2⟩
    · rw [if_pos rfl] at hk; exact ⟨(hv k hk).1, (hv k hk).2.1, (hv k hk).2.2.1⟩
    · rw [if_neg h2] at hk; exact h.far g h1 h2 k hk
  · intro g hgm g2 hgm2 k hk hk2
    rcases hmem.1 hgm with rfl | ⟨h1, h2⟩
    · rcases hmem.1 hgm2 with rfl | ⟨h3, h4⟩
      · rfl
      · rw [if_pos rfl] at hk; rw [if_neg h4] at hk2
        exact absurd hk2 ((hv k hk).2.2.2 g2 h3 h4)
    · rcases hmem.1 hgm2 with rfl | ⟨h3, h4⟩
      · rw [if_pos rfl] at hk2; rw [if_neg h2] at hk
        exact absurd hk ((hv k hk2).2.2.2 g h1 h2)
      · rw [if_neg h2] at hk; rw [if_neg h4] at hk2
        exact h.apart g h1 g2 h3 h2 h4 k hk hk2
  · intro g hgm
    rcases mem_setF hgm with rfl | h1
    · exact hn
    · exact h.names g h1
  · intro g hgm
    rcases mem_setF hgm with rfl | h1
    · exact hs
    · exact h.sync g h1

/-- a file taken out of the map. -/
theorem IDisk.erase {w w' : World} {S : Nat → Prop} {p b n k : Nat} {cv : ByteArray → Value} {m : DiskM} {D : DataW Value} (h : IDisk w S p b cv m) (hD : MapIs D m.files cv) (hk : k < m.files.length)
    (hown : w'.ownsMap Tryz.prog 9 RFile b n (D.del (.string m.files[k].name.data.toList))) (hg : w.grownBy w' (some b)) : IDisk w' S p b cv { m with files := m.files.eraseIdx k } := by
  have ht : Tch (fun k => k = b) w w' := ⟨hg.os, hg.tape, hg.output, hg.size, fun k hk hn => hg.block k hk (fun e => hn (by injection e))⟩
  have hmem : ∀ f ∈ m.files.eraseIdx k, f ∈ m.files := fun f hf => (List.eraseIdx_sublist _ _).subset hf
  exact ⟨h.box.touch ht h.ne, ⟨_, n, hown, hD.del h.ord hk⟩, fun f hf => ht.owns (h.rows f (hmem f hf)) (fun k hk => (h.far f (hmem f hf) k hk).2.2), h.own, h.ownb, fun f hf => h.far f (hmem f hf), fun f hf g hg => h.apart f (hmem f hf) g (hmem g hg),
    fun k hk => Nat.lt_of_lt_of_le (h.lt k hk) ht.size, ord_erase k h.ord, fun f hf => h.names f (hmem f hf), fun f hf => h.sync f (hmem f hf)⟩

end Rl
end Go.Proofs.YthcnkbeognkjgaaGreatDoor
