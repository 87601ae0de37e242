/-
  routelogref's Kept, walked: what one attribute does to the table by type.
-/
import Derived.Test.YteoacdkgicfomaaAkWalk
namespace Go.Proofs.Yteoacdkgicfomaa
open Go.RowKit
open Rl

/-- the table's cells. -/
structure KeptAt (w : World) (b : Nat) (fl : Nat → Int) (vl : Nat → ByteArray) (sn : Nat → Bool) (sp en : Bool) : Prop where
  flag : ∀ i, i < 256 → w.cell? ⟨b, i, none⟩ = some (.int .i64 (fl i))
  val : ∀ i, i < 256 → w.cell? ⟨b, 256 + i, none⟩ = some (.string (vl i))
  seen : ∀ i, i < 256 → w.cell? ⟨b, 512 + i, none⟩ = some (.bool (sn i))
  spoilt : w.cell? ⟨b, 768, none⟩ = some (.bool sp)
  ends : w.cell? ⟨b, 769, none⟩ = some (.bool en)
  free : ∀ o, o < 770 → w.frozen? ⟨b, o, none⟩ = false
  lt : b < w.heap.size

section
variable {w w' : World} {b : Nat} {fl : Nat → Int} {vl : Nat → ByteArray} {sn : Nat → Bool} {sp en : Bool}

theorem KeptAt.block (h : KeptAt w b fl vl sn sp en) (hk : w'.heap[b]? = w.heap[b]?) (hlt : b < w'.heap.size) : KeptAt w' b fl vl sn sp en :=
  ⟨fun i hi => (World.cell?_of_block (a := ⟨b, i, none⟩) hk).trans (h.flag i hi), fun i hi => (World.cell?_of_block (a := ⟨b, 256 + i, none⟩) hk).trans (h.val i hi), fun i hi => (World.cell?_of_block (a := ⟨b, 512 + i, none⟩) hk).trans (h.seen i hi), (World.cell?_of_block (a := ⟨b, 768, none⟩) hk).trans h.spoilt, (World.cell?_of_block (a := ⟨b, 769, none⟩) hk).trans h.ends, fun o ho => (World.frozen?_of_block (a := ⟨b, o, none⟩) hk).trans (h.free o ho), hlt⟩

theorem KeptAt.later (h : KeptAt w b fl vl sn sp en) (hl : Below w.heap.size w w') : KeptAt w' b fl vl sn sp en :=
  h.block (hl.block b h.lt) (Nat.lt_of_lt_of_le h.lt hl.size)

theorem KeptAt.drewN (h : KeptAt w b fl vl sn sp en) (n : Nat) : KeptAt (w.drewN n) b fl vl sn sp en := h.later (below_drewN (Below.refl _ _) _)

/-- one entry of a table. -/
def put {α : Type} (f : Nat → α) (k : Nat) (x : α) : Nat → α := fun i => if i = k then x else f i

theorem off_ne {b o o' : Nat} (h : o ≠ o') : (⟨b, o, none⟩ : Addr) ≠ ⟨b, o', none⟩ := by intro e; injection e; omega

theorem KeptAt.setFlag (h : KeptAt w b fl vl sn sp en) (k : Nat) (hk : k < 256) (g : Int) : KeptAt (w.setCell ⟨b, k, none⟩ (.int .i64 g)) b (put fl k g) vl sn sp en := by
  refine ⟨fun i hi => ?_, fun i hi => ?_, fun i hi => ?_, ?_, ?_, fun o ho => by rw [World.frozen?_setCell]; exact h.free o ho, by simp; exact h.lt⟩
  · unfold put
    by_cases e : i = k
    · subst e; rw [World.cell?_setCell_same _ _ _ (h.flag i hi), if_pos rfl]
    · rw [World.cell?_setCell_other _ _ _ _ (off_ne (by omega)), if_neg e]; exact h.flag i hi
  · rw [World.cell?_setCell_other _ _ _ _ (off_ne (by omega))]; exact h.val i hi
  · rw [World.cell?_setCell_other _ _ _ _ (off_ne (by omega))]; exact h.seen i hi
  · rw [World.cell?_setCell_other _ _ _ _ (off_ne (by omega))]; exact h.spoilt
  · rw [World.cell?_setCell_other _ _ _ _ (off_ne (by omega))]; exact h.ends

theorem KeptAt.setVal (h : KeptAt w b fl vl sn sp en) (k : Nat) (hk : k < 256) (v : ByteArray) : KeptAt (w.setCell ⟨b, 256 + k, none⟩ (.string v)) b fl (put vl k v) sn sp en := by
  refine ⟨fun i hi => ?_, fun i hi => ?_, fun i hi => ?_, ?_, ?_, fun o ho => by rw [World.frozen?_setCell]; exact h.free o ho, by simp; exact h.lt⟩
  · rw [World.cell?_setCell_other _ _ _ _ (off_ne (by omega))]; exact h.flag i hi
  · unfold put
    by_cases e : i = k
    · subst e; rw [World.cell?_setCell_same _ _ _ (h.val i hi), if_pos rfl]
    · rw [World.cell?_setCell_other _ _ _ _ (off_ne (by omega)), if_neg e]; exact h.val i hi
  · rw [World.cell?_setCell_other _ _ _ _ (off_ne (by omega))]; exact h.seen i hi
  · rw [World.cell?_setCell_other _ _ _ _ (off_ne (by omega))]; exact h.spoilt
  · rw [World.cell?_setCell_other _ _ _ _ (off_ne (by omega))]; exact h.ends

theorem KeptAt.setSeen (h : KeptAt w b fl vl sn sp en) (k : Nat) (hk : k < 256) : KeptAt (w.setCell ⟨b, 512 + k, none⟩ (.bool true)) b fl vl (met sn k) sp en := by
  refine ⟨fun i hi => ?_, fun i hi => ?_, fun i hi => ?_, ?_, ?_, fun o ho => by rw [World.frozen?_setCell]; exact h.free o ho, by simp; exact h.lt⟩
  · rw [World.cell?_setCell_other _ _ _ _ (off_ne (by omega))]; exact h.flag i hi
  · rw [World.cell?_setCell_other _ _ _ _ (off_ne (by omega))]; exact h.val i hi
  · by_cases e : i = k
    · subst e; rw [World.cell?_setCell_same _ _ _ (h.seen i hi), met_self]
    · rw [World.cell?_setCell_other _ _ _ _ (off_ne (by omega)), met_other _ _ _ e]; exact h.seen i hi
  · rw [World.cell?_setCell_other _ _ _ _ (off_ne (by omega))]; exact h.spoilt
  · rw [World.cell?_setCell_other _ _ _ _ (off_ne (by omega))]; exact h.ends

theorem KeptAt.setSpoilt (h : KeptAt w b fl vl sn sp en) : KeptAt (w.setCell ⟨b, 768, none⟩ (.bool true)) b fl vl sn true en := by
  refine ⟨fun i hi => ?_, fun i hi => ?_, fun i hi => ?_, ?_, ?_, fun o ho => by rw [World.frozen?_setCell]; exact h.free o ho, by simp; exact h.lt⟩
  · rw [World.cell?_setCell_other _ _ _ _ (off_ne (by omega))]; exact h.flag i hi
  · rw [World.cell?_setCell_other _ _ _ _ (off_ne (by omega))]; exact h.val i hi
  · rw [World.cell?_setCell_other _ _ _ _ (off_ne (by omega))]; exact h.seen i hi
  · rw [World.cell?_setCell_same _ _ _ h.spoilt]
  · rw [World.cell?_setCell_other _ _ _ _ (off_ne (by omega))]; exact h.ends

theorem KeptAt.setEnds (h : KeptAt w b fl vl sn sp en) : KeptAt (w.setCell ⟨b, 769, none⟩ (.bool true)) b fl vl sn sp true := by
  refine ⟨fun i hi => ?_, fun i hi => ?_, fun i hi => ?_, ?_, ?_, fun o ho => by rw [World.frozen?_setCell]; exact h.free o ho, by simp; exact h.lt⟩
  · rw [World.cell?_setCell_other _ _ _ _ (off_ne (by omega))]; exact h.flag i hi
  · rw [World.cell?_setCell_other _ _ _ _ (off_ne (by omega))]; exact h.val i hi
  · rw [World.cell?_setCell_other _ _ _ _ (off_ne (by omega))]; exact h.seen i hi
  · rw [World.cell?_setCell_other _ _ _ _ (off_ne (by omega))]; exact h.spoilt
  · rw [World.cell?_setCell_same _ _ _ h.ends]
end

/-- what the table is behind an attribute. -/
def Taken (w' : World) (b : Nat) (fl : Nat → Int) (vl : Nat → ByteArray) (sn : Nat → Bool) (sp en : Bool) (k : Nat) (v : ByteArray) : Did → Prop
  | .keep g => KeptAt w' b (put fl k (g : Int)) (put vl k v) (met sn k) sp en
  | .pass => KeptAt w' b fl vl (met sn k) sp en
  | .spoil => KeptAt w' b fl vl (met sn k) true en
  | .ends => KeptAt w' b fl vl (met sn k) sp true

set_option maxRecDepth 20000 in
set_option maxHeartbeats 1600000 in
theorem takes_seen (b f k : Nat) (v : ByteArray) (w : World) (fl : Nat → Int) (vl : Nat → ByteArray) (sn : Nat → Bool) (sp en : Bool) (hK : KeptAt w b fl vl sn sp en) (hk : k < 256) (hs : sn k = true) :
    Calls Try.prog 57 #[.pointer (some ⟨b, 0, none⟩), .int .i64 f, .int .i64 k, .string v] w fun e w' => e = .returned (.tuple #[]) ∧ w' = w := by
  have hc := hK.seen k hk
  rw [hs] at hc
  have hl := hK.lt
  clear hK
  go_enter Try.func57, Try.ntmps57
  go_wp2
  (try simp only [Exit.inBlock, Exit.then]); refine bodyPost_ret (results_none rfl _ _ _) rfl ?_
  exact ⟨rfl, rfl⟩

set_option maxRecDepth 20000 in
set_option maxHeartbeats 4000000 in
theorem takes_new (b f k : Nat) (v : ByteArray) (w : World) (fl : Nat → Int) (vl : Nat → ByteArray) (sn : Nat → Bool) (sp en : Bool) (hK : KeptAt w b fl vl sn sp en) (hf : f < 256) (hk : k < 256) (hv : v.size ≤ maxLen) (hs : sn k = false) :
    Calls Try.prog 57 #[.pointer (some ⟨b, 0, none⟩), .int .i64 f, .int .i64 k, .string v] w fun e w' => e = .returned (.tuple #[]) ∧ Below b w w' ∧ Taken w' b fl vl sn sp en k v (didOf f k v) := by
  have hc := hK.seen k hk
  rw [hs] at hc
  have hl := hK.lt
  have hfz := hK.free (512 + k) (by omega)
  have HK := hide hK
  have hkc := fun w => known_any k w
  have c1 := hK.flag k hk
  have c2 := hK.val k hk
  have c3 := hK.spoilt
  have c4 := hK.ends
  have z1 := hK.free k (by omega)
  have z2 := hK.free (256 + k) (by omega)
  have z3 := hK.free 768 (by omega)
  have z4 := hK.free 769 (by omega)
  have HM := hide (hK.setSeen k hk)
  have hbel : Below b w (w.setCell ⟨b, 512 + k, none⟩ (.bool true)) := (Below.refl b w).setCell (p := ⟨b, 512 + k, none⟩) (Nat.le_refl b) _
  clear hK
  cases hkn : knownB k with
  | true =>
    have hr := fun w => right_any k v w hv hkn
    have hg := flagsI_known k hkn
    by_cases heq : ((f / 64 * 64 : Nat) : Int) = flagsI k
    · have eb : ((f : Int) / 64 * 64 != flagsI k) = false := by rw [bne_eq_false_iff_eq]; omega
      cases hrb : rightB k v with
      | true =>
        have hd : didOf f k v = .keep (flagsI k).toNat := by unfold didOf; rw [if_pos hkn, if_pos ⟨heq, hrb⟩]
        rw [hd]
        rw [hrb] at hr
        obtain ⟨g, eg⟩ : ∃ g : Nat, flagsI k = (g : Int) := ⟨(flagsI k).toNat, by omega⟩
        rw [eg] at hkc eb ⊢
        rw [Int.toNat_natCast]
        have hge : (0 : Int) ≤ (g : Int) := by omega
        clear heq hrb hd eg hkn hg
        go_enter Try.func57, Try.ntmps57
        go_wp2_with (first | (go_at_call 64; refine (hkc _).mono ?_; rintro e w' ⟨rfl, hw⟩; rw [hw]; clear hw w') | (go_at_call 65; refine (hr _).mono ?_; rintro e w' ⟨rfl, hw⟩; rw [hw]; clear hw w'))
        go_end0
        exact ⟨rfl, (hbel.setCell (p := ⟨b, k, none⟩) (Nat.le_refl b) _).setCell (p := ⟨b, 256 + k, none⟩) (Nat.le_refl b) _, (HM.out.setFlag k hk g).setVal k hk v⟩
      | false =>
        have hd : didOf f k v = if k = 6 ∨ k = 7 then .pass else .spoil := by unfold didOf; rw [if_pos hkn, if_neg (fun h => by rw [hrb] at h; exact absurd h.2 (by simp))]
        rw [hrb] at hr
        have hge : 0 ≤ flagsI k := by omega
        clear heq hrb hkn hg
        generalize flagsI k = g at *
        by_cases h6 : k = 6
        · rw [hd, if_pos (.inl h6)]
          have e6 : ((k : Int) != 6) = false := by rw [bne_eq_false_iff_eq]; omega
          clear h6 hd
          go_enter Try.func57, Try.ntmps57
          go_wp2_with (first | (go_at_call 64; refine (hkc _).mono ?_; rintro e w' ⟨rfl, hw⟩; rw [hw]; clear hw w') | (go_at_call 65; refine (hr _).mono ?_; rintro e w' ⟨rfl, hw⟩; rw [hw]; clear hw w'))
          go_end0
          exact ⟨rfl, hbel, HM.out⟩
        by_cases h7 : k = 7
        · rw [hd, if_pos (.inr h7)]
          have e6 : ((k : Int) != 6) = true := by rw [bne_iff_ne]; omega
          have e7 : ((k : Int) != 7) = false := by rw [bne_eq_false_iff_eq]; omega
          clear h6 h7 hd
          go_enter Try.func57, Try.ntmps57
          go_wp2_with (first | (go_at_call 64; refine (hkc _).mono ?_; rintro e w' ⟨rfl, hw⟩; rw [hw]; clear hw w') | (go_at_call 65; refine (hr _).mono ?_; rintro e w' ⟨rfl, hw⟩; rw [hw]; clear hw w'))
          go_end0
          exact ⟨rfl, hbel, HM.out⟩
        rw [hd, if_neg (by omega)]
        have e6 : ((k : Int) != 6) = true := by rw [bne_iff_ne]; omega
        have e7 : ((k : Int) != 7) = true := by rw [bne_iff_ne]; omega
        clear h6 h7 hd
        go_enter Try.func57, Try.ntmps57
        go_wp2_with (first | (go_at_call 64; refine (hkc _).mono ?_; rintro e w' ⟨rfl, hw⟩; rw [hw]; clear hw w') | (go_at_call 65; refine (hr _).mono ?_; rintro e w' ⟨rfl, hw⟩; rw [hw]; clear hw w'))
        go_end0
        exact ⟨rfl, hbel.setCell (p := ⟨b, 768, none⟩) (Nat.le_refl b) _, HM.out.setSpoilt⟩
    · have eb : ((f : Int) / 64 * 64 != flagsI k) = true := by rw [bne_iff_ne]; omega
      have hd : didOf f k v = if k = 6 ∨ k = 7 then .pass else .spoil := by unfold didOf; rw [if_pos hkn, if_neg (fun h => heq h.1)]
      have hge : 0 ≤ flagsI k := by omega
      clear heq hkn hg hr
      generalize flagsI k = g at *
      by_cases h6 : k = 6
      · rw [hd, if_pos (.inl h6)]
        have e6 : ((k : Int) != 6) = false := by rw [bne_eq_false_iff_eq]; omega
        clear h6 hd
        go_enter Try.func57, Try.ntmps57
        go_wp2_with (first | (go_at_call 64; refine (hkc _).mono ?_; rintro e w' ⟨rfl, hw⟩; rw [hw]; clear hw w'))
        go_end0
        exact ⟨rfl, hbel, HM.out⟩
      by_cases h7 : k = 7
      · rw [hd, if_pos (.inr h7)]
        have e6 : ((k : Int) != 6) = true := by rw [bne_iff_ne]; omega
        have e7 : ((k : Int) != 7) = false := by rw [bne_eq_false_iff_eq]; omega
        clear h6 h7 hd
        go_enter Try.func57, Try.ntmps57
        go_wp2_with (first | (go_at_call 64; refine (hkc _).mono ?_; rintro e w' ⟨rfl, hw⟩; rw [hw]; clear hw w'))
        go_end0
        exact ⟨rfl, hbel, HM.out⟩
      rw [hd, if_neg (by omega)]
      have e6 : ((k : Int) != 6) = true := by rw [bne_iff_ne]; omega
      have e7 : ((k : Int) != 7) = true := by rw [bne_iff_ne]; omega
      clear h6 h7 hd
      go_enter Try.func57, Try.ntmps57
      go_wp2_with (first | (go_at_call 64; refine (hkc _).mono ?_; rintro e w' ⟨rfl, hw⟩; rw [hw]; clear hw w'))
      go_end0
      exact ⟨rfl, hbel.setCell (p := ⟨b, 768, none⟩) (Nat.le_refl b) _, HM.out.setSpoilt⟩
  | false =>
    have hd : didOf f k v = if f < 128 then .ends else if f % 128 < 64 then .pass else .keep (192 + f % 64 / 32 * 32) := by unfold didOf; rw [if_neg (by simp [hkn])]
    have hge : flagsI k = -1 := flagsI_unknown k hkn
    rw [hge] at hkc
    rw [hd]
    clear hd hge hkn
    by_cases h1 : f < 128
    · rw [if_pos h1]
      go_enter Try.func57, Try.ntmps57
      go_wp2_with (first | (go_at_call 64; refine (hkc _).mono ?_; rintro e w' ⟨rfl, hw⟩; rw [hw]; clear hw w'))
      go_end0
      exact ⟨rfl, hbel.setCell (p := ⟨b, 769, none⟩) (Nat.le_refl b) _, HM.out.setEnds⟩
    · rw [if_neg h1]
      by_cases h2 : f % 128 < 64
      · rw [if_pos h2]
        go_enter Try.func57, Try.ntmps57
        go_wp2_with (first | (go_at_call 64; refine (hkc _).mono ?_; rintro e w' ⟨rfl, hw⟩; rw [hw]; clear hw w'))
        go_end0
        exact ⟨rfl, hbel, HM.out⟩
      · rw [if_neg h2]
        go_enter Try.func57, Try.ntmps57
        go_wp2_with (first | (go_at_call 64; refine (hkc _).mono ?_; rintro e w' ⟨rfl, hw⟩; rw [hw]; clear hw w'))
        go_end0
        refine ⟨rfl, (hbel.setCell (p := ⟨b, k, none⟩) (Nat.le_refl b) _).setCell (p := ⟨b, 256 + k, none⟩) (Nat.le_refl b) _, ?_⟩
        have h := (HM.out.setFlag k hk ((192 + f % 64 / 32 * 32 : Nat) : Int)).setVal k hk v
        exact h

end Go.Proofs.Yteoacdkgicfomaa
