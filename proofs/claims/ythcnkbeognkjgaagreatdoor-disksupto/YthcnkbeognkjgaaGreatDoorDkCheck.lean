/-
  The program's disk, walked: the names of a call; the bytes of all files; a file put into the map.
-/
import Derived.Test.YthcnkbeognkjgaaGreatDoorDkDisk
import Derived.Test.YthcnkbeognkjgaaGreatDoorDkPlain
import Derived.Test.YthcnkbeognkjgaaGreatDoorDkRefA
import Derived.Test.YthcnkbeognkjgaaGreatDoorShelf
import Derived.Test.YthcnkbeognkjgaaGreatDoorDkClone
import Derived.Deep.CutBlock
import Derived.Maps.RangeWalk
import Derived.Maps.OwnOps
namespace Go.Proofs.YthcnkbeognkjgaaGreatDoor
open Go.RowKit
open Rl




theorem allOk_all (l : List ByteArray) : allOk (l.take l.length) = allOk l := by rw [List.take_length]
theorem allOk_next (l : List ByteArray) (k : Nat) (h : k < l.length) (hk : allOk (l.take k) = true) (hn : nameOk l[k] = true) : allOk (l.take (k + 1)) = true := by
  unfold allOk at *
  rw [List.take_succ_eq_append_getElem h, List.all_append, hk]; simp [hn]
theorem allOk_bad (l : List ByteArray) (k : Nat) (h : k < l.length) (hn : nameOk l[k] = false) : allOk l = false := by
  unfold allOk
  rw [List.all_eq_false]
  exact ⟨l[k], List.getElem_mem _, by simp [hn]⟩

theorem empty_iff (s : ByteArray) : (s.toList == ([] : List UInt8)) = decide (s.size < 1) := by
  rw [Lib.toList_data]
  cases h : s.data.toList with
  | nil =>
    have : s.size = 0 := by rw [← ByteArray.size_data, ← Array.length_toList, h]; rfl
    rw [this]; rfl
  | cons a r =>
    have : 1 ≤ s.size := by rw [← ByteArray.size_data, ← Array.length_toList, h]; simp
    rw [decide_eq_false (by omega)]; rfl

set_option maxHeartbeats 4000000 in
theorem check_none (v : Value) (w : World) : Calls Tryz.prog 146 #[.pointer none, v] w fun e w' => e = .returned (.int .i64 1) ∧ Below w.heap.size w w' := by
  go_enter Tryz.func146, Tryz.ntmps146
  go_wp2
  go_ret
  exact ⟨rfl, Below.refl _ _⟩

set_option maxHeartbeats 4000000 in
theorem check_any (p : Addr) (v : Value) (l : List ByteArray) (w : World) (hx : l.length ≤ 1073741824) (hr : RowAt w v l.length 1 (nms l)) (hs : ∀ s ∈ l, s.size ≤ 2097152) :
    Calls Tryz.prog 146 #[.pointer (some p), v] w fun e w' => e = .returned (.int .i64 (if allOk l = true then 0 else 6)) ∧ Below w.heap.size w w' := by
  obtain ⟨_, hr⟩ := hr
  have F6 : Hid (allOk l = false → (if allOk l = true then (0 : Int) else 6) = 6) := fun h => by rw [h]; rfl
  have F0 : Hid (allOk l = true → (if allOk l = true then (0 : Int) else 6) = 0) := fun h => by rw [h]; rfl
  generalize (if allOk l = true then (0 : Int) else 6) = r at *
  rcases hr with ⟨a, c, rfl, hn⟩ | ⟨b, o, cap, rfl, hn, hb, hc⟩
  · have hn0 : l = [] := List.eq_nil_of_length_eq_zero hn
    subst hn0
    obtain rfl : r = 0 := F0.out rfl
    go_enter Tryz.func146, Tryz.ntmps146
    go_wp2
    refine wp_loop_rounds 1 ?_
    rw [rounds_succ]
    go_wp2
    go_ret
    exact ⟨rfl, Below.refl _ _⟩
  · go_enter Tryz.func146, Tryz.ntmps146
    go_wp2
    go_loopw [11] (fun i wr => ∃ k : Nat, k ≤ l.length ∧ i = .int .i64 k ∧ allOk (l.take k) = true ∧ Below w.heap.size w wr) (fun i _ => l.length - (intOf i).toNat)
    case atStart => exact ⟨0, Nat.zero_le _, rfl, rfl, Below.refl _ _⟩
    case round =>
      obtain ⟨k, hk, rfl, hall, hbel⟩ := hrel
      have HA := hide hall
      clear hall
      by_cases hlt : k < l.length
      · have g1 := nms_get l k hlt
        have c1 := (hbel.cell (p := ⟨b, o + k * 1, none⟩) hb).trans (hc _ _ g1)
        rw [Nat.mul_one] at c1
        have HN := hide (allOk_next l k hlt HA.out)
        have HB := hide (allOk_bad l k hlt)
        have hs1 := hs _ (List.getElem_mem hlt)
        clear hc g1 HA hs
        have hx1 : (k : Int) < (l.length : Int) := by omega
        have hk0 : (0 : Int) ≤ (k : Int) := by omega
        generalize l[k] = s at *
        have he := empty_iff s
        by_cases h1 : s.size < 1
        · rw [decide_eq_true h1] at he
          have HB2 : Hid (allOk l = false) := HB.out (nameOk_no (.inl h1))
          clear HB HN
          go_wp2
          go_ret
          exact ⟨by rw [F6.out HB2.out]; rfl, hbel⟩
        · rw [decide_eq_false h1] at he
          by_cases h2 : 8 < s.size
          · have h2z : (8 : Int) < (s.size : Int) := by omega
            have HB2 : Hid (allOk l = false) := HB.out (nameOk_no (.inr h2))
            clear HB HN
            go_wp2
            go_ret
            exact ⟨by rw [F6.out HB2.out]; rfl, hbel⟩
          · have h2z : ¬ (8 : Int) < (s.size : Int) := by omega
            have HN2 : Hid (allOk (l.take (k + 1)) = true) := HN.out (nameOk_yes (by omega) (by omega))
            clear HB HN
            go_wp2
            exact ⟨⟨k + 1, by omega, by go_num, HN2.out, hbel⟩, by simp [intOf]; omega⟩
      · have e : k = l.length := by omega
        subst e
        have HT : Hid (allOk l = true) := by rw [Hid, ← allOk_all]; exact HA.out
        clear HA hc
        go_wp2
        go_ret
        exact ⟨by rw [F0.out HT.out]; rfl, hbel⟩

theorem zero_file (w : World) : (zeroValue 195).run Tryz.prog w = .ok (.agg #[.slice none 0 0, .int .i64 0]) w := by kernel_rfl

theorem str_law : Maps.Keyed Tryz.prog 9 := Maps.string_keyed Tryz.underlying9

/-- the bytes of the files that are still to come. -/
def comeF (left : Lit → Bool) (l : List FileM) : Nat := usedF (l.filter fun f => !left (.string f.name.data.toList))

theorem comeF_none (l : List FileM) (left : Lit → Bool) (h : ∀ f ∈ l, left (.string f.name.data.toList) = true) : comeF left l = 0 := by
  unfold comeF
  rw [List.filter_eq_nil_iff.2 (fun f hf => by simp [h f hf])]
  rfl

theorem comeF_all (l : List FileM) (left : Lit → Bool) (h : ∀ kl, left kl = false) : comeF left l = usedF l := by
  unfold comeF
  rw [List.filter_eq_self.2 (fun f _ => by simp [h])]

theorem usedF_filter_le (l : List FileM) (q : FileM → Bool) : usedF (l.filter q) ≤ usedF l := by
  induction l with
  | nil => simp [usedF]
  | cons a r ih =>
    rw [List.filter_cons]
    split
    · simp only [usedF]; omega
    · simp only [usedF]; omega

theorem comeF_le (l : List FileM) (left : Lit → Bool) : comeF left l ≤ usedF l := usedF_filter_le _ _

theorem comeF_step : ∀ (l : List FileM) (_ : Ord l) (left : Lit → Bool) (f : FileM) (_ : f ∈ l) (_ : left (.string f.name.data.toList) = true),
    comeF (fun z => left z && !z.sameKey (.string f.name.data.toList)) l = comeF left l + f.data.size := by
  intro l
  induction l with
  | nil => intro _ _ f hf; simp at hf
  | cons a r ih =>
    intro ho left f hf hl
    obtain ⟨h1, h2⟩ := List.pairwise_cons.1 ho
    unfold comeF
    rw [List.filter_cons, List.filter_cons]
    by_cases e : a = f
    · subst e
      have e1 : (Lit.string a.name.data.toList).sameKey (.string a.name.data.toList) = true := WideAt.sameKey_self (key_lit _)
      have e2 : (r.filter fun g => !(left (.string g.name.data.toList) && !(Lit.string g.name.data.toList).sameKey (.string a.name.data.toList))) = r.filter fun g => !left (.string g.name.data.toList) := by
        refine List.filter_congr (fun g hg => ?_)
        have : (Lit.string g.name.data.toList).sameKey (.string a.name.data.toList) = false := Maps.sameKey_ne (fun e => by have := ltN_ne (h1 g hg); exact this (name_inj e).symm)
        rw [this]; simp
      simp only [hl, e1, e2, Bool.not_true, Bool.and_false, Bool.not_false, if_true, Bool.false_eq_true, if_false, usedF]
      omega
    · have hfr : f ∈ r := by rcases List.mem_cons.1 hf with h | h; exact absurd h.symm e; exact h
      have e1 : (Lit.string a.name.data.toList).sameKey (.string f.name.data.toList) = false := Maps.sameKey_ne (fun e => by have := ltN_ne (h1 f hfr); exact this (name_inj e))
      have := ih h2 left f hfr hl
      unfold comeF at this
      replace this : usedF (r.filter fun g => !(left (.string g.name.data.toList) && !(Lit.string g.name.data.toList).sameKey (.string f.name.data.toList))) = usedF (r.filter fun g => !left (.string g.name.data.toList)) + f.data.size := this
      simp only [e1, Bool.not_false, Bool.and_true]
      split
      · simp only [usedF]; omega
      · exact this

open Go.Proofs (encStr)

/-- a file of the map as a value, by its parts. -/
def mkV (t : Option Addr × Nat × Nat × Int) : Value := .agg #[.slice t.1 t.2.1 t.2.2.1, .int .i64 t.2.2.2]

theorem inv_key (key : Value) (kl : Lit) (h : keyOf Tryz.prog 9 key = some kl) : ∃ x, key = encStr x := by
  obtain ⟨x, hx, _⟩ := Maps.keyOf_str Tryz.underlying9 h
  exact ⟨x, hx⟩

theorem inv_file (v : Value) (y : DataW Value × List MemPlace) (h : RFile v = some y) : ∃ t, v = mkV t := by
  obtain ⟨a, n, c, s, e, _⟩ := RFile_inv h
  exact ⟨(a, n, c, s), e⟩

theorem map_step {D : DataW Value} {l : List FileM} {cv : ByteArray → Value} {w : World} (hD : MapIs D l cv) (hr : ∀ f ∈ l, w.ownsRow 0 5 1 (cv f.name) f.data.size (u8s f.data.data.toList)) {x : List UInt8} {t : Option Addr × Nat × Nat × Int} {yd : DataW Value} {yp : List MemPlace}
    (hR : RFile (mkV t) = some (yd, yp)) (hat : ∀ zd, D.atKey (.string x) zd = yd) : ∃ f ∈ l, f.name.data.toList = x ∧ cv f.name = .slice t.1 t.2.1 t.2.2.1 ∧ t.2.1 = f.data.size ∧ t.2.2.2 = (f.sync : Int) := by
  obtain ⟨_, _, _, _, _, ey⟩ := RFile_inv hR
  have ey1 : yd = .held (mkV t) := congrArg Prod.fst ey
  subst ey1
  have h := fun zd => (hD (⟨x.toArray⟩ : ByteArray) zd)
  simp only at h
  cases hl : lookF (⟨x.toArray⟩ : ByteArray) l with
  | none =>
    have h1 := (hat .nil).symm.trans (h .nil)
    rw [hl] at h1
    cases h1
  | some f =>
    obtain ⟨h2, h3⟩ := lookF_spec hl
    have h1 := (hat .nil).symm.trans (h .nil)
    rw [hl] at h1
    simp only [mkV] at h1
    injection h1 with h1
    injection h1 with h1
    have h4 : ([Value.slice t.1 t.2.1 t.2.2.1, .int .i64 t.2.2.2] : List Value) = [cv f.name, .int .i64 (f.sync : Int)] := by
      have := congrArg Array.toList h1; simpa using this
    injection h4 with h5 h6
    injection h6 with h6 _
    injection h6 with _ h6
    refine ⟨f, h2, by rw [h3], h5.symm, ?_, h6⟩
    obtain ⟨a, c, e⟩ := slice_owned (hr f h2)
    rw [← h5] at e
    injection e

set_option maxHeartbeats 4000000 in
theorem used_any (w : World) (S : Nat → Prop) (p b : Nat) (cv : ByteArray → Value) (m : DiskM) (h : IDisk w S p b cv m) (hu : usedF m.files ≤ 4194304) :
    Calls Tryz.prog 139 #[.pointer (some ⟨p, 0, none⟩)] w fun e w' => e = .returned (.int .i64 (usedF m.files : Int)) ∧ Below w.heap.size w w' := by
  obtain ⟨c0, c1, c2, f0, f1, f2, hl⟩ := h.box
  obtain ⟨D, n, hown, hD⟩ := h.map
  have HO := hide h.ord
  have HR := hide h.rows
  clear h
  have HK := hide hD
  clear hD
  generalize m.files = l at *
  go_enter Tryz.func139, Tryz.ntmps139
  go_wp2_with (first | (at_range; refine wpList_range_own _ rfl _ 84 rfl 9 195 str_law Tryz.underlying84 _ b n D rfl hown ?_; intro w0 hrg0 hg0 hs0) | go_in)
  go_frame
  go_loopw [3] (fun x wr => ∃ left cnt, wr.ranges Tryz.prog 9 RFile b w.heap.size n D left cnt ∧ x = .int .i64 (comeF left l : Int) ∧ Below w.heap.size w wr) (fun _ wr => wr.rangeLeft b w.heap.size)
  case atStart =>
    refine ⟨_, _, hrg0, ?_, (Below.refl _ _).grown hg0 (Nat.le_refl _) (fun j hj => by cases hj)⟩
    rw [comeF_none l _ (fun f hf => by rw [HK.out.has, lookF_mem HO.out hf]; rfl)]
    rfl
  case round =>
    obtain ⟨left, cnt, hrg, rfl, hb⟩ := hrel
    clear hrg0 hg0 hs0
    go_wp2_with (first | (at_next; refine wpList_next_ranges _ rfl _ rfl 9 str_law RFile encStr mkV inv_key inv_file b w.heap.size n D left cnt rfl hrg ?_ ?_) | go_in)
    · intro _ hl0
      have HC := comeF_all l left hl0
      rw [HC]
      clear hrg hown
      go_wp2
      go_ret
      exact ⟨rfl, hb⟩
    · intro x a len cap sy kl yd yp w1 cnt1 hkey hlk hRv hat hrg1 hlt hg1 hs1 hen
      obtain ⟨x', ex, rfl, _⟩ := Maps.keyOf_str Tryz.underlying9 hkey
      obtain rfl : x = x' := encStr_inj ex
      obtain ⟨f, hf, rfl, _, hlen, _⟩ := map_step HK.out HR.out hRv hat
      have HC := hide (comeF_step l HO.out left f hf hlk)
      have hle := comeF_le l (fun z => left z && !z.sameKey (.string f.name.data.toList))
      rw [HC.out] at hle
      have HL := hide hlt
      have HM := hide hrg.left_eq
      simp only at hlen
      subst hlen
      simp only [mkV] at hen
      clear hs1 hat hRv hkey hrg hown hlt
      generalize comeF left l = u at *
      go_wp2
      have hrg2 := hrg1.kept (World.grownBy_alloc w1 (Obj.cells #[Value.slice a f.data.size cap, Value.int IntKind.i64 sy] 195) none) (by simp) (by simp)
      refine ⟨⟨_, cnt1, hrg2, by rw [HC.out, Int.natCast_add], (hb.grown hg1 hb.size (fun j hj => by cases hj; exact Nat.le_refl _)).alloc (Nat.le_trans hb.size hg1.size) _⟩, ?_⟩
      rw [hrg2.left_eq, HM.out]
      exact HL.out

end Go.Proofs.YthcnkbeognkjgaaGreatDoor
