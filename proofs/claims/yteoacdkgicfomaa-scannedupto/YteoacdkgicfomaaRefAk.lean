/-
  routelogref's attributes, walked: what is kept, in a table by type.
-/
import Derived.Test.YteoacdkgicfomaaTakes
import Derived.Deep.RegionHeld
import Derived.Deep.CutBlock
import Derived.Deep.CutRange
namespace Go.Proofs.Yteoacdkgicfomaa
open Go.RowKit
open Rl

theorem zero69 : Try.zeroCells72 = Array.replicate 256 (.int .i64 0) ++ Array.replicate 256 (.string ⟨#[]⟩) ++ Array.replicate 256 (.bool false) ++ #[.bool false, .bool false] := by kernel_rfl

theorem KeptAt.congr {w : World} {b : Nat} {fl fl' : Nat → Int} {vl vl' : Nat → ByteArray} {sn : Nat → Bool} {sp en : Bool} (h : KeptAt w b fl vl sn sp en) (h1 : ∀ i, i < 256 → fl' i = fl i) (h2 : ∀ i, i < 256 → vl' i = vl i) : KeptAt w b fl' vl' sn sp en :=
  ⟨fun i hi => by rw [h1 i hi]; exact h.flag i hi, fun i hi => by rw [h2 i hi]; exact h.val i hi, h.seen, h.spoilt, h.ends, h.free, h.lt⟩

theorem z69_val (i : Nat) (hi : i < 256) : (Array.replicate 256 (Value.int .i64 0) ++ Array.replicate 256 (.string ⟨#[]⟩) ++ Array.replicate 256 (.bool false) ++ #[.bool false, .bool false])[256 + i]? = some (Value.string ⟨#[]⟩) := by
  rw [Array.getElem?_append_left (by simp; omega), Array.getElem?_append_left (by simp; omega), Array.getElem?_append_right (by simp)]; simp [hi]
theorem z69_seen (i : Nat) (hi : i < 256) : (Array.replicate 256 (Value.int .i64 0) ++ Array.replicate 256 (.string ⟨#[]⟩) ++ Array.replicate 256 (.bool false) ++ #[.bool false, .bool false])[512 + i]? = some (Value.bool false) := by
  rw [Array.getElem?_append_left (by simp; omega), Array.getElem?_append_right (by simp)]; simp [hi]

theorem kept_start (w : World) (T : TypeId) : KeptAt (w.alloc (.cells Try.zeroCells72 T)) w.heap.size (fun j => if j < 0 then -1 else 0) (fun _ => ⟨#[]⟩) (fun _ => false) false false := by
  rw [zero69]
  refine ⟨fun i hi => ?_, fun i hi => ?_, fun i hi => ?_, ?_, ?_, fun o ho => ?_, by simp⟩
  · simp [Array.getElem?_append, hi]
  · have h := z69_val i hi
    simpa using h
  · have h := z69_seen i hi
    simpa using h
  · simp
  · simp
  · simp

/-- where the reader stands: what is kept, or that the session has ended. -/
def RefMid (s t : ByteArray) (sn : Nat → Bool) (l : List At) (sp en : Bool) : Prop := (en = false ∧ akOf s = akAll t sn l sp) ∨ (en = true ∧ akOf s = none)

/-- the number behind the first two bytes. -/
theorem numZ_call (t : ByteArray) (z : Nat) (w : World) (hz : z ≤ 2) :
    Calls Try.prog 34 #[.string (t.extract 2 (2 + z))] w fun e w' => e = .returned (.int .i64 (lenZ z t : Int)) ∧ w' = w := by
  refine (number_any _ w (by rw [ByteArray.size_extract]; omega)).mono ?_
  rintro e w' ⟨he, hw⟩
  exact ⟨by rw [he, lenZ_cast], hw⟩

/-- what is said at the end. -/
def RefEnd (s : ByteArray) (l : List At) (sp en : Bool) : Prop := (en = false ∧ akOf s = some (l, sp)) ∨ (en = true ∧ akOf s = none)

theorem refEnd_cut {s t : ByteArray} {sn : Nat → Bool} {l : List At} {sp en : Bool} (h : RefMid s t sn l sp en) (h0 : ¬ t.size = 0) (hw : akW t = false) : RefEnd s l true en := by
  rcases h with ⟨e1, e2⟩ | h
  · exact .inl ⟨e1, e2.trans (akAll_cut h0 hw)⟩
  · exact .inr h

theorem refMid_again {s t : ByteArray} {sn : Nat → Bool} {l : List At} {sp en : Bool} (h : RefMid s t sn l sp en) (h0 : ¬ t.size = 0) (hw : akW t = true) (hs : sn (akH t).kind = true) : RefMid s (akR t) sn l sp en := by
  rcases h with ⟨e1, e2⟩ | h
  · exact .inl ⟨e1, e2.trans (akAll_again h0 hw hs)⟩
  · exact .inr h

/-- behind a new attribute: the table, and where the reader stands. -/
theorem refMid_new {s t : ByteArray} {sn : Nat → Bool} {l : List At} {sp en : Bool} {w' : World} {b : Nat} (h : RefMid s t sn l sp en) (h0 : ¬ t.size = 0) (hw : akW t = true) (hs : sn (akH t).kind = false) (hall : ∀ a ∈ l, sn a.kind = true)
    (hT : Taken w' b (flagAt l) (valAt l) sn sp en (akH t).kind (akH t).val (didOf (akH t).flags (akH t).kind (akH t).val)) :
    ∃ l' sp' en', RefMid s (akR t) (met sn (akH t).kind) l' sp' en' ∧ (∀ a ∈ l', met sn (akH t).kind a.kind = true) ∧ KeptAt w' b (flagAt l') (valAt l') (met sn (akH t).kind) sp' en' := by
  have hfr : ∀ a ∈ l, a.kind ≠ (akH t).kind := by
    intro a ha e
    have := hall a ha
    rw [e, hs] at this; simp at this
  have hall2 : ∀ a ∈ l, met sn (akH t).kind a.kind = true := fun a ha => met_of _ _ _ (hall a ha)
  cases hd : didOf (akH t).flags (akH t).kind (akH t).val with
  | keep g =>
    rw [hd] at hT
    refine ⟨l ++ [⟨g, (akH t).kind, (akH t).val⟩], sp, en, ?_, ?_, ?_⟩
    · rcases h with ⟨e1, e2⟩ | h
      · exact .inl ⟨e1, e2.trans (akAll_keep h0 hw hs g hd)⟩
      · exact .inr h
    · intro a ha
      rcases List.mem_append.1 ha with ha | ha
      · exact hall2 a ha
      · simp at ha; subst ha; exact met_self _ _
    · exact KeptAt.congr hT (fun i _ => by rw [flagAt_snoc hfr]; rfl) (fun i _ => by rw [valAt_snoc hfr]; rfl)
  | pass =>
    rw [hd] at hT
    refine ⟨l, sp, en, ?_, hall2, hT⟩
    rcases h with ⟨e1, e2⟩ | h
    · exact .inl ⟨e1, e2.trans (akAll_pass h0 hw hs hd)⟩
    · exact .inr h
  | spoil =>
    rw [hd] at hT
    refine ⟨l, true, en, ?_, hall2, hT⟩
    rcases h with ⟨e1, e2⟩ | h
    · exact .inl ⟨e1, e2.trans (akAll_spoil h0 hw hs hd)⟩
    · exact .inr h
  | ends =>
    rw [hd] at hT
    refine ⟨l, sp, true, ?_, hall2, hT⟩
    rcases h with ⟨e1, e2⟩ | h
    · exact .inr ⟨rfl, e2.trans (akAll_ends h0 hw hs hd)⟩
    · exact .inr ⟨rfl, h.2⟩

/-- what the table is behind an attribute, met before or not. -/
def After (w' : World) (b : Nat) (fl : Nat → Int) (vl : Nat → ByteArray) (sn : Nat → Bool) (sp en : Bool) (f k : Nat) (v : ByteArray) : Prop :=
  (sn k = true ∧ KeptAt w' b fl vl sn sp en) ∨ (sn k = false ∧ Taken w' b fl vl sn sp en k v (didOf f k v))

/-- the second time an attribute does nothing. -/
theorem takes_both (b f k : Nat) (v : ByteArray) (w : World) (fl : Nat → Int) (vl : Nat → ByteArray) (sn : Nat → Bool) (sp en : Bool) (h : KeptAt w b fl vl sn sp en ∨ After w b fl vl sn sp en f k v) (hf : f < 256) (hk : k < 256) (hv : v.size ≤ maxLen) :
    Calls Try.prog 57 #[.pointer (some ⟨b, 0, none⟩), .int .i64 f, .int .i64 k, .string v] w fun e w' => e = .returned (.tuple #[]) ∧ Below b w w' ∧ After w' b fl vl sn sp en f k v := by
  have hseen : sn k = true → KeptAt w b fl vl sn sp en → Calls Try.prog 57 #[.pointer (some ⟨b, 0, none⟩), .int .i64 f, .int .i64 k, .string v] w fun e w' => e = .returned (.tuple #[]) ∧ Below b w w' ∧ After w' b fl vl sn sp en f k v := by
    intro hs hK
    refine (takes_seen b f k v w _ _ _ _ _ hK hk hs).mono ?_
    rintro e w' ⟨he, hw⟩
    rw [hw]
    exact ⟨he, Below.refl _ _, .inl ⟨hs, hK⟩⟩
  rcases h with hK | ⟨hs, hK⟩ | ⟨hs, hT⟩
  · cases hs : sn k with
    | true => exact hseen hs hK
    | false =>
      refine (takes_new b f k v w _ _ _ _ _ hK hf hk hv hs).mono ?_
      rintro e w' ⟨he, hb, hT⟩
      exact ⟨he, hb, .inr ⟨hs, hT⟩⟩
  · exact hseen hs hK
  · have key : ∀ fl2 vl2 sp2 en2, KeptAt w b fl2 vl2 (met sn k) sp2 en2 → Calls Try.prog 57 #[.pointer (some ⟨b, 0, none⟩), .int .i64 f, .int .i64 k, .string v] w fun e w' => e = .returned (.tuple #[]) ∧ Below b w w' ∧ After w' b fl vl sn sp en f k v := by
      intro fl2 vl2 sp2 en2 hK
      refine (takes_seen b f k v w _ _ _ _ _ hK hk (met_self _ _)).mono ?_
      rintro e w' ⟨he, hw⟩
      rw [hw]
      exact ⟨he, Below.refl _ _, .inr ⟨hs, hT⟩⟩
    have hT2 := hT
    cases hd : didOf f k v with
    | keep g => rw [hd] at hT2; exact key _ _ _ _ hT2
    | pass => rw [hd] at hT2; exact key _ _ _ _ hT2
    | spoil => rw [hd] at hT2; exact key _ _ _ _ hT2
    | ends => rw [hd] at hT2; exact key _ _ _ _ hT2

/-- behind an attribute: the table, and where the reader stands. -/
theorem refMid_after {s t : ByteArray} {sn : Nat → Bool} {l : List At} {sp en : Bool} {w' : World} {b : Nat} (h : RefMid s t sn l sp en) (h0 : ¬ t.size = 0) (hw : akW t = true) (hall : ∀ a ∈ l, sn a.kind = true)
    (hA : After w' b (flagAt l) (valAt l) sn sp en (akH t).flags (akH t).kind (akH t).val) :
    ∃ sn' l' sp' en', RefMid s (akR t) sn' l' sp' en' ∧ (∀ a ∈ l', sn' a.kind = true) ∧ KeptAt w' b (flagAt l') (valAt l') sn' sp' en' := by
  rcases hA with ⟨hs, hK⟩ | ⟨hs, hT⟩
  · exact ⟨sn, l, sp, en, refMid_again h h0 hw hs, hall, hK⟩
  · obtain ⟨l', sp', en', h1, h2, h3⟩ := refMid_new h h0 hw hs hall hT
    exact ⟨_, l', sp', en', h1, h2, h3⟩

/-- what holds of every world of the region. -/
def HeldS (w wx : World) (b f k : Nat) (v : ByteArray) (l : List At) (sn : Nat → Bool) (sp en : Bool) : Prop :=
  Below b w wx ∧ (KeptAt wx b (flagAt l) (valAt l) sn sp en ∨ After wx b (flagAt l) (valAt l) sn sp en f k v)

theorem held_after {w wx w2 : World} {b f k : Nat} {v : ByteArray} {l : List At} {sn : Nat → Bool} {sp en : Bool} (hS : HeldS w wx b f k v l sn sp en) (hb : Below b wx w2) (hA : After w2 b (flagAt l) (valAt l) sn sp en f k v) :
    HeldS w w2 b f k v l sn sp en := ⟨hS.1.trans hb, .inr hA⟩

theorem held_drew {w wx : World} {b f k : Nat} {v : ByteArray} {l : List At} {sn : Nat → Bool} {sp en : Bool} (hb : Below b w wx) (hK : KeptAt wx b (flagAt l) (valAt l) sn sp en) : HeldS w wx.drew b f k v l sn sp en :=
  ⟨hb.drew, .inl (hK.later (Below.refl _ _).drew)⟩

theorem held_drewN {w wx : World} {b f k : Nat} {v : ByteArray} {l : List At} {sn : Nat → Bool} {sp en : Bool} (hb : Below b w wx) (hK : KeptAt wx b (flagAt l) (valAt l) sn sp en) (n : Nat) : HeldS w (wx.drewN n) b f k v l sn sp en :=
  ⟨below_drewN hb n, .inl (hK.drewN n)⟩

theorem takes_held {w : World} {b f k : Nat} {v : ByteArray} {l : List At} {sn : Nat → Bool} {sp en : Bool} (hf : f < 256) (hk : k < 256) (hv : v.size ≤ maxLen) (wx : World) (hS : HeldS w wx b f k v l sn sp en) :
    Calls Try.prog 57 #[.pointer (some ⟨b, 0, none⟩), .int .i64 f, .int .i64 k, .string v] wx fun e w' => e = .returned (.tuple #[]) ∧ HeldS w w' b f k v l sn sp en ∧ After w' b (flagAt l) (valAt l) sn sp en f k v := by
  refine (takes_both b f k v wx _ _ _ _ _ hS.2 hf hk hv).mono ?_
  rintro e w' ⟨he, hb, hA⟩
  exact ⟨he, held_after hS hb hA, hA⟩

theorem byte_wrap (b : Nat) (h : b < 256) : IntKind.i64.wrap (b : Int) = b ∧ wrap64 (b : Int) = b := ⟨wrap_i64_in _ (by omega) (by omega), wrap64_in' _ (by omega) (by omega)⟩

theorem nums4 (t : ByteArray) (n : Nat) (h : ¬ t.size < 4 + n) (ht : t.size ≤ 1048576) : (4 : Int) ≤ 4 + (n : Int) ∧ (4 : Int) + (n : Int) ≤ (t.size : Int) ∧ IntKind.i64.wrap (4 + (n : Int)) = 4 + (n : Int) ∧ wrap64 (4 + (n : Int)) = 4 + (n : Int) ∧ IntKind.i64.wrap 4 = 4 ∧ (4 + (n : Int)).toNat = 4 + n :=
  ⟨by omega, by omega, wrap_i64_in _ (by omega) (by omega), wrap64_in' _ (by omega) (by omega), by decide, by omega⟩
theorem nums3 (t : ByteArray) (n : Nat) (h : ¬ t.size < 3 + n) (ht : t.size ≤ 1048576) : (3 : Int) ≤ 3 + (n : Int) ∧ (3 : Int) + (n : Int) ≤ (t.size : Int) ∧ IntKind.i64.wrap (3 + (n : Int)) = 3 + (n : Int) ∧ wrap64 (3 + (n : Int)) = 3 + (n : Int) ∧ IntKind.i64.wrap 3 = 3 ∧ (3 + (n : Int)).toNat = 3 + n :=
  ⟨by omega, by omega, wrap_i64_in _ (by omega) (by omega), wrap64_in' _ (by omega) (by omega), by decide, by omega⟩

theorem ref_step (s t : ByteArray) (z h : Nat) (eh : h = 2 + z) (hz2 : zOf t = z) (h4 : ¬ t.size < h) (h5 : ¬ t.size < h + lenZ z t) (hs : t.size ≤ s.size) (hs2 : s.size ≤ 1048576) (hz : 1 ≤ z) :
    akW t = true ∧ (t.extract h (h + lenZ z t)).size ≤ maxLen ∧ (t.extract (h + lenZ z t) t.size).size < t.size ∧ (t.extract (h + lenZ z t) t.size).size ≤ s.size ∧ (1 : Int) < (t.size : Int) ∧ 1 < t.size ∧ t.size ≤ 1048576 := by
  subst eh
  refine ⟨?_, ?_, ?_, ?_, by omega, by omega, by omega⟩
  · unfold akW wholeZ; rw [hz2]; simp; omega
  · rw [ByteArray.size_extract]; unfold maxLen; omega
  · rw [ByteArray.size_extract]; omega
  · rw [ByteArray.size_extract]; omega

set_option maxRecDepth 20000 in
set_option maxHeartbeats 1600000 in
theorem attributes_any (s : ByteArray) (w : World) (hs : s.size ≤ 1048576) :
    Calls Try.prog 38 #[.string s] w fun e w' => e = .returned (.pointer (some ⟨w.heap.size, 0, none⟩)) ∧ Below w.heap.size w w' ∧ ∃ l sn sp en, KeptAt w' w.heap.size (flagAt l) (valAt l) sn sp en ∧ RefEnd s l sp en := by
  go_enter Try.func38, Try.ntmps38
  go_upto_block 0 with fail
  go_cut [4] from 9 to 17 (fun _ wx => KeptAt wx w.heap.size (flagAt []) (valAt []) (fun _ => false) false false ∧ Below w.heap.size w wx)
  case first =>
    go_wp2_with fail
    go_loopw [4] (fun i wr => ∃ n : Nat, n ≤ 256 ∧ i = .int .i64 n ∧ KeptAt wr w.heap.size (fun j => if j < n then -1 else 0) (fun _ => ⟨#[]⟩) (fun _ => false) false false ∧ Below w.heap.size w wr) (fun i _ => 256 - (intOf i).toNat)
    case atStart => exact ⟨0, by omega, rfl, kept_start w _, (Below.refl _ _).alloc (Nat.le_refl _) _⟩
    case round =>
      obtain ⟨n, hn, rfl, hK, hbel⟩ := hrel
      by_cases hlt : n < 256
      · have c1 := hK.flag n hlt
        have z1 := hK.free n (by omega)
        have hl := hK.lt
        have HK := hide (hK.setFlag n hlt (-1))
        clear hK
        go_wp2
        refine ⟨⟨n + 1, by omega, by go_num, HK.out.congr (fun i _ => ?_) (fun _ _ => rfl), hbel.setCell (p := ⟨w.heap.size, n, none⟩) (Nat.le_refl _) _⟩, by simp [intOf]; omega⟩
        unfold put
        by_cases e : i = n
        · rw [if_pos (by omega), if_pos e]
        · by_cases e2 : i < n
          · simp only [e, e2, if_true, if_false]; rw [if_pos (by omega)]
          · simp only [e, e2, if_false]; rw [if_neg (by omega)]
      · have hn2 : n = 256 := by omega
        subst hn2
        have hK0 := hide (hK.congr (fl' := flagAt []) (vl' := valAt []) (fun i hi => by rw [if_pos hi]; rfl) (fun _ _ => rfl))
        clear hK
        go_wp2_with fail
        go_meet
        case rel => exact ⟨hK0.out, hbel⟩
  case rest =>
    obtain ⟨hK0, hbel⟩ := hcut
    go_wp2_with fail
    go_loopw [0] (fun x wy => ∃ (t : ByteArray) (sn : Nat → Bool) (l : List At) (sp en : Bool), x = .string t ∧ t.size ≤ s.size ∧ RefMid s t sn l sp en ∧ (∀ a ∈ l, sn a.kind = true) ∧ KeptAt wy w.heap.size (flagAt l) (valAt l) sn sp en ∧ Below w.heap.size w wy) (fun x _ => strLen x)
    case atStart => exact ⟨s, _, [], false, false, rfl, Nat.le_refl _, .inl ⟨rfl, rfl⟩, by simp, hK0, hbel⟩
    case round =>
      obtain ⟨t, sn, l, sp, en, rfl, hts, hmid, hsn, hK, hbel2⟩ := hrel
      have HM := hide hmid
      have HS := hide hsn
      have HK := hide hK
      have hl := hK.lt
      have c3 := hK.spoilt
      have z3 := hK.free 768 (by omega)
      clear hmid hsn hK hbel hK0
      by_cases h0 : t.size = 0
      · have hem : t.toList.isEmpty = true := by rw [isEmpty_size]; simp [h0]
        have H0 := hide h0
        clear h0
        go_wp2
        go_ret
        refine ⟨rfl, hbel2, l, sn, sp, en, HK.out, ?_⟩
        rcases HM.out with ⟨e1, e2⟩ | h
        · exact .inl ⟨e1, e2.trans (akAll_end H0.out)⟩
        · exact .inr h
      · have hem : t.toList.isEmpty = false := by rw [isEmpty_size]; simp [h0]
        have H0 := hide h0
        have hp : 0 < t.size := by omega
        have hb0 := at8_bytes t 0 hp
        have hl0 := at8_lt t.data.toList 0
        have hx0 : (0 : Int) < (t.size : Int) := by omega
        clear h0
        by_cases hz : 16 ≤ at8 t.data.toList 0 % 32
        · have hz2 : zOf t = 2 := by unfold zOf; rw [if_pos (by omega)]
          have hnum := fun w => numZ_call t 2 w (by omega)
          have hlC := lenZ_lt 2 t (by omega)
          by_cases h4 : t.size < 4
          · have hw : akW t = false := by unfold akW wholeZ; rw [hz2]; simp; omega
            have HE := hide (refEnd_cut HM.out H0.out hw)
            clear hw hz2 hnum hlC
            generalize at8 t.data.toList 0 = b0 at *
            go_wp2
            go_ret
            exact ⟨rfl, hbel2.setCell (p := ⟨w.heap.size, 768, none⟩) (Nat.le_refl _) _, l, sn, true, en, HK.out.setSpoilt, HE.out⟩
          · by_cases h5 : t.size < 4 + lenZ 2 t
            · have hw : akW t = false := by unfold akW wholeZ; rw [hz2]; simp; omega
              have HE := hide (refEnd_cut HM.out H0.out hw)
              clear hw hz2
              generalize at8 t.data.toList 0 = b0 at *
              generalize lenZ 2 t = n at *
              go_wp2_with (go_at_call 34; refine (hnum _).mono ?_; rintro e w' ⟨rfl, hw⟩; rw [hw]; clear hw w')
              go_ret
              exact ⟨rfl, hbel2.setCell (p := ⟨w.heap.size, 768, none⟩) (Nat.le_refl _) _, l, sn, true, en, HK.out.setSpoilt, HE.out⟩
            · obtain ⟨hw, hv, hrs, hrs2, hx1, hx1', htm⟩ := ref_step s t 2 4 rfl hz2 h4 h5 hts hs (by decide)
              have hb1 := at8_bytes t 1 hx1'
              have hl1 := at8_lt t.data.toList 1
              have EH : Hid (akH t = ⟨at8 t.data.toList 0, at8 t.data.toList 1, t.extract 4 (4 + lenZ 2 t)⟩) := by unfold Hid akH headZ; rw [hz2]
              have ER : Hid (akR t = t.extract (4 + lenZ 2 t) t.size) := by unfold Hid akR restZ; rw [hz2]
              have HA := hide (fun w' => refMid_after (w' := w') (b := w.heap.size) HM.out H0.out hw HS.out)
              rw [EH.out, ER.out] at HA
              simp only at HA
              clear EH ER hw hz2
              generalize at8 t.data.toList 0 = b0 at *
              generalize at8 t.data.toList 1 = b1 at *
              generalize lenZ 2 t = n at *
              have htk := takes_held (w := w) (b := w.heap.size) (l := l) (sn := sn) (sp := sp) (en := en) hl0 hl1 hv
              clear hl c3 z3 hv
              go_upto_region 17 with (go_at_call 34; refine (hnum _).mono ?_; rintro e w' ⟨rfl, hw⟩; rw [hw]; clear hw w')
              clear hnum hlC
              go_cut [5, 6] from 18 to 71 (fun s5 s6 wx => s5 = .int .i64 2 ∧ s6 = .int .i64 (n : Int) ∧ After wx w.heap.size (flagAt l) (valAt l) sn sp en b0 b1 (t.extract 4 (4 + n)) ∧ Below w.heap.size w wx)
              case first =>
                obtain ⟨i1, i2, i3, i4, i5, i6⟩ := nums4 t n h5 htm
                obtain ⟨j0, j2⟩ := byte_wrap b0 hl0
                obtain ⟨j1, j3⟩ := byte_wrap b1 hl1
                go_region_held (fun w' => HeldS w w' w.heap.size b0 b1 (t.extract 4 (4 + n)) l sn sp en) (first | assumption | (exact ⟨hbel2, .inl HK.out⟩) | (exact held_drew hbel2 HK.out) | (exact held_drewN hbel2 HK.out _)) (first | (go_at_call 57; refine (htk _ (by assumption)).mono ?_; rintro e w2 ⟨rfl, hS3, hA3⟩))
                all_goals
                  go_wp2_with fail
                  go_meet
                all_goals exact ⟨rfl, rfl, hA3, hS3.1⟩
              case rest =>
                obtain ⟨rfl, rfl, hA, hb3⟩ := hcut
                obtain ⟨sn', l', sp', en', q1, q2, q3⟩ := HA.out _ hA
                go_wp2_with fail
                exact ⟨⟨_, sn', l', sp', en', rfl, hrs2, q1, q2, q3, hb3⟩, hrs⟩
        · have hz2 : zOf t = 1 := by unfold zOf; rw [if_neg (by omega)]
          have hnum := fun w => numZ_call t 1 w (by omega)
          have hlC := lenZ_lt 1 t (by omega)
          by_cases h4 : t.size < 3
          · have hw : akW t = false := by unfold akW wholeZ; rw [hz2]; simp; omega
            have HE := hide (refEnd_cut HM.out H0.out hw)
            clear hw hz2 hnum hlC
            generalize at8 t.data.toList 0 = b0 at *
            go_wp2
            go_ret
            exact ⟨rfl, hbel2.setCell (p := ⟨w.heap.size, 768, none⟩) (Nat.le_refl _) _, l, sn, true, en, HK.out.setSpoilt, HE.out⟩
          · by_cases h5 : t.size < 3 + lenZ 1 t
            · have hw : akW t = false := by unfold akW wholeZ; rw [hz2]; simp; omega
              have HE := hide (refEnd_cut HM.out H0.out hw)
              clear hw hz2
              generalize at8 t.data.toList 0 = b0 at *
              generalize lenZ 1 t = n at *
              go_wp2_with (go_at_call 34; refine (hnum _).mono ?_; rintro e w' ⟨rfl, hw⟩; rw [hw]; clear hw w')
              go_ret
              exact ⟨rfl, hbel2.setCell (p := ⟨w.heap.size, 768, none⟩) (Nat.le_refl _) _, l, sn, true, en, HK.out.setSpoilt, HE.out⟩
            · obtain ⟨hw, hv, hrs, hrs2, hx1, hx1', htm⟩ := ref_step s t 1 3 rfl hz2 h4 h5 hts hs (by decide)
              have hb1 := at8_bytes t 1 hx1'
              have hl1 := at8_lt t.data.toList 1
              have EH : Hid (akH t = ⟨at8 t.data.toList 0, at8 t.data.toList 1, t.extract 3 (3 + lenZ 1 t)⟩) := by unfold Hid akH headZ; rw [hz2]
              have ER : Hid (akR t = t.extract (3 + lenZ 1 t) t.size) := by unfold Hid akR restZ; rw [hz2]
              have HA := hide (fun w' => refMid_after (w' := w') (b := w.heap.size) HM.out H0.out hw HS.out)
              rw [EH.out, ER.out] at HA
              simp only at HA
              clear EH ER hw hz2
              generalize at8 t.data.toList 0 = b0 at *
              generalize at8 t.data.toList 1 = b1 at *
              generalize lenZ 1 t = n at *
              have htk := takes_held (w := w) (b := w.heap.size) (l := l) (sn := sn) (sp := sp) (en := en) hl0 hl1 hv
              clear hl c3 z3 hv
              go_upto_region 17 with (go_at_call 34; refine (hnum _).mono ?_; rintro e w' ⟨rfl, hw⟩; rw [hw]; clear hw w')
              clear hnum hlC
              go_cut [5, 6] from 18 to 71 (fun s5 s6 wx => s5 = .int .i64 1 ∧ s6 = .int .i64 (n : Int) ∧ After wx w.heap.size (flagAt l) (valAt l) sn sp en b0 b1 (t.extract 3 (3 + n)) ∧ Below w.heap.size w wx)
              case first =>
                obtain ⟨i1, i2, i3, i4, i5, i6⟩ := nums3 t n h5 htm
                obtain ⟨j0, j2⟩ := byte_wrap b0 hl0
                obtain ⟨j1, j3⟩ := byte_wrap b1 hl1
                go_region_held (fun w' => HeldS w w' w.heap.size b0 b1 (t.extract 3 (3 + n)) l sn sp en) (first | assumption | (exact ⟨hbel2, .inl HK.out⟩) | (exact held_drew hbel2 HK.out) | (exact held_drewN hbel2 HK.out _)) (first | (go_at_call 57; refine (htk _ (by assumption)).mono ?_; rintro e w2 ⟨rfl, hS3, hA3⟩))
                all_goals
                  go_wp2_with fail
                  go_meet
                all_goals exact ⟨rfl, rfl, hA3, hS3.1⟩
              case rest =>
                obtain ⟨rfl, rfl, hA, hb3⟩ := hcut
                obtain ⟨sn', l', sp', en', q1, q2, q3⟩ := HA.out _ hA
                go_wp2_with fail
                exact ⟨⟨_, sn', l', sp', en', rfl, hrs2, q1, q2, q3, hb3⟩, hrs⟩


end Go.Proofs.Yteoacdkgicfomaa
