/-
  message.readAttributes, walked: what is kept of an update's attributes.
-/
import Derived.Test.YteoacdkgicfomaaSortWalks
import Derived.Test.YteoacdkgicfomaaCanonOwn
import Derived.Test.YteoacdkgicfomaaJoinWalks
import Derived.Test.YteoacdkgicfomaaAnnOwn
import Derived.WalkMore
namespace Go.Proofs.Yteoacdkgicfomaa
open Go.RowKit
open Rl

/-- the cells of a table of truths. -/
def TruthsAt (w : World) (b o : Nat) (sn : Nat → Bool) : Prop := ∀ i, i < 256 → w.cell? ⟨b, o + i, none⟩ = some (.bool (sn i)) ∧ w.frozen? ⟨b, o + i, none⟩ = false

theorem TruthsAt.later {w w' : World} {b o : Nat} {sn : Nat → Bool} (h : TruthsAt w b o sn) (hb : b < w.heap.size) (hl : Below w.heap.size w w') : TruthsAt w' b o sn := by
  intro i hi
  obtain ⟨h1, h2⟩ := h i hi
  exact ⟨(hl.cell (p := ⟨b, o + i, none⟩) hb).trans h1, (hl.frozen (p := ⟨b, o + i, none⟩) hb).trans h2⟩

theorem TruthsAt.alloc {w : World} {b o : Nat} {sn : Nat → Bool} (h : TruthsAt w b o sn) (hb : b < w.heap.size) (ob : Obj) : TruthsAt (w.alloc ob) b o sn :=
  h.later hb ((Below.refl _ _).alloc (Nat.le_refl _) ob)

theorem TruthsAt.other {w : World} {b o : Nat} {sn : Nat → Bool} (h : TruthsAt w b o sn) {a : Addr} (ha : a.block ≠ b) (u : Value) : TruthsAt (w.setCell a u) b o sn := by
  intro i hi
  obtain ⟨h1, h2⟩ := h i hi
  have hk : (w.setCell a u).heap[b]? = w.heap[b]? := Below.heap_setCell w a u b (Ne.symm ha)
  exact ⟨(World.cell?_of_block (a := ⟨b, o + i, none⟩) hk).trans h1, (World.frozen?_of_block (a := ⟨b, o + i, none⟩) hk).trans h2⟩

theorem TruthsAt.grown {w w' : World} {b o : Nat} {sn : Nat → Bool} {row : Option Nat} (h : TruthsAt w b o sn) (hg : w.grownBy w' row) (hb : b < w.heap.size) (hne : some b ≠ row) : TruthsAt w' b o sn := by
  intro i hi
  obtain ⟨h1, h2⟩ := h i hi
  have hk := hg.block b hb hne
  exact ⟨(World.cell?_of_block (a := ⟨b, o + i, none⟩) hk).trans h1, (World.frozen?_of_block (a := ⟨b, o + i, none⟩) hk).trans h2⟩

theorem TruthsAt.met {w : World} {b o : Nat} {sn : Nat → Bool} (h : TruthsAt w b o sn) (k : Nat) (hk : k < 256) : TruthsAt (w.setCell ⟨b, o + k, none⟩ (.bool true)) b o (met sn k) := by
  intro i hi
  obtain ⟨h1, h2⟩ := h i hi
  refine ⟨?_, ?_⟩
  · by_cases e : i = k
    · subst e
      rw [World.cell?_setCell_same _ _ _ h1, met_self]
    · rw [World.cell?_setCell_other _ _ _ _ (by intro h; injection h; omega), met_other _ _ _ e]; exact h1
  · rw [World.frozen?_setCell]; exact h2

theorem owns_mono {w : World} {B B' : Nat} {e : TypeId} {size : Nat} {v : Value} {n : Nat} {xs : List Value} (h : w.ownsRow B e size v n xs) (hB : B' ≤ B) : w.ownsRow B' e size v n xs := by
  refine ⟨h.1, ?_⟩
  rcases h.2 with hn | ⟨g, cap, cur, rfl, hbg, rest⟩
  · exact .inl hn
  · exact .inr ⟨g, cap, cur, rfl, Nat.le_trans hB hbg, rest⟩

theorem zero67 : Try.zeroCells70 = Array.replicate 256 (.bool false) := by kernel_rfl

theorem truths_start (w : World) (T : TypeId) : TruthsAt (w.alloc (.cells Try.zeroCells70 T)) w.heap.size 0 (fun _ => false) := by
  intro i hi
  rw [zero67]
  refine ⟨?_, ?_⟩
  · simp [hi]
  · simp

theorem lenSize_call (t : ByteArray) (b0 : Nat) (w : World) (hb : at8 t.data.toList 0 = b0) :
    Calls Try.prog 75 #[.int .i64 b0] w fun e w' => e = .returned (.int .i64 (zOf t : Int)) ∧ w' = w := by
  subst hb
  exact lengthSize_any _ w (at8_lt _ _)

theorem and192 (f : Nat) (h : f < 256) : bits .and .i64 (f : Int) 192 = ((f / 64 * 64 : Nat) : Int) := by
  have e : (2 : Nat) ^ 63 = 9223372036854775808 := by decide
  have hb := (bits_nat .i64 63 (by decide) wrap_i64_in f 192 (by omega) (by omega)).1
  rw [show (192 : Int) = ((192 : Nat) : Int) from rfl, hb]
  congr 1
  have h2 : ∀ x : Fin 256, x.val &&& 192 = x.val / 64 * 64 := by decide +kernel
  exact h2 ⟨f, h⟩

theorem and128 (f : Nat) (h : f < 256) : bits .and .i64 (f : Int) 128 = ((f / 128 * 128 : Nat) : Int) := by
  have e : (2 : Nat) ^ 63 = 9223372036854775808 := by decide
  have hb := (bits_nat .i64 63 (by decide) wrap_i64_in f 128 (by omega) (by omega)).1
  rw [show (128 : Int) = ((128 : Nat) : Int) from rfl, hb]
  congr 1
  have h2 : ∀ x : Fin 256, x.val &&& 128 = x.val / 128 * 128 := by decide +kernel
  exact h2 ⟨f, h⟩

theorem and64 (f : Nat) (h : f < 256) : bits .and .i64 (f : Int) 64 = ((f / 64 % 2 * 64 : Nat) : Int) := by
  have e : (2 : Nat) ^ 63 = 9223372036854775808 := by decide
  have hb := (bits_nat .i64 63 (by decide) wrap_i64_in f 64 (by omega) (by omega)).1
  rw [show (64 : Int) = ((64 : Nat) : Int) from rfl, hb]
  congr 1
  have h2 : ∀ x : Fin 256, x.val &&& 64 = x.val / 64 % 2 * 64 := by decide +kernel
  exact h2 ⟨f, h⟩

theorem and224 (f : Nat) (h : f < 256) (h1 : 128 ≤ f) (h2 : 64 ≤ f % 128) : bits .and .i64 (f : Int) 224 = ((192 + f % 64 / 32 * 32 : Nat) : Int) := by
  have e : (2 : Nat) ^ 63 = 9223372036854775808 := by decide
  have hb := (bits_nat .i64 63 (by decide) wrap_i64_in f 224 (by omega) (by omega)).1
  rw [show (224 : Int) = ((224 : Nat) : Int) from rfl, hb]
  congr 1
  have h3 : ∀ x : Fin 256, 128 ≤ x.val → 64 ≤ x.val % 128 → x.val &&& 224 = 192 + x.val % 64 / 32 * 32 := by decide +kernel
  exact h3 ⟨f, h⟩ h1 h2

/-- the type is marked as met. -/
theorem ak_marked {w wr w' : World} {lv : Value} {xs : List At} {sn : Nat → Bool} {T : TypeId} {o : Obj} (k : Nat) (hk : k < 256) (htr : TruthsAt wr w.heap.size 0 sn) (hlt : w.heap.size < wr.heap.size) (hown : wr.ownsRow (w.heap.size + 1) T 3 lv xs.length (atCells xs)) (hbel : Below w.heap.size w wr) (hb2 : Below wr.heap.size wr w') :
    TruthsAt ((w'.setCell ⟨w.heap.size, k, none⟩ (.bool true)).alloc o) w.heap.size 0 (met sn k) ∧ w.heap.size < ((w'.setCell ⟨w.heap.size, k, none⟩ (.bool true)).alloc o).heap.size ∧ ((w'.setCell ⟨w.heap.size, k, none⟩ (.bool true)).alloc o).ownsRow (w.heap.size + 1) T 3 lv xs.length (atCells xs) ∧ Below w.heap.size w ((w'.setCell ⟨w.heap.size, k, none⟩ (.bool true)).alloc o) := by
  have hlt2 := Nat.lt_of_lt_of_le hlt hb2.size
  have h1 := (htr.later hlt hb2).met k hk
  rw [Nat.zero_add] at h1
  refine ⟨h1.alloc (by simp; exact hlt2) o, by simp; omega, (ownsRow_setCell_below (owns_later hown hb2) (Nat.lt_succ_self _) _).alloc o, ((later_below hbel hb2 hbel.size).setCell (Nat.le_refl _) _).alloc (by simp; omega) o⟩

/-- the cells of a new block, behind another one and a cell that has turned. -/
theorem cells_new3 (w : World) (p : Addr) (u0 : Value) (o : Obj) (cs : Array Value) (T : TypeId) : ∀ (j : Nat) (u : Value), cs.toList[j]? = some u → (((w.setCell p u0).alloc o).alloc (.cells cs T)).cell? ((⟨w.heap.size + 1, 0, none⟩ : Addr).add j) = some u := by
  intro j u h
  have h2 := cells_new2' (w.setCell p u0) o cs T j u h
  rwa [show (w.setCell p u0).heap.size = w.heap.size from by simp] at h2

/-- what is said at the end. -/
theorem ak_end {s : ByteArray} {w wr w' : World} {lv : Value} {xs l' : List At} {sp : Bool} {sn : Nat → Bool} {T : TypeId} (hbel : Below w.heap.size w wr) (hE : akOf s = some (xs, sp)) (hk : Kep s.size sn xs) (hlen : xs.length ≤ s.size) (hp : l'.Perm xs) (hby : ByKind l')
    (hown2 : w'.ownsRow (w.heap.size + 1) T 3 lv l'.length (atCells l')) (hb2 : Below (w.heap.size + 1) wr w') :
    Below w.heap.size w w' ∧ (akOf s = none → Ending.returned (.tuple #[lv, .bool sp, .int .i64 0]) = .returned (.tuple #[.slice none 0 0, .bool false, .int .i64 3])) ∧ (∀ l sp', akOf s = some (l, sp') → ∃ v l', Ending.returned (.tuple #[lv, .bool sp, .int .i64 0]) = .returned (.tuple #[v, .bool sp', .int .i64 0]) ∧ l'.Perm l ∧ ByKind l' ∧ w'.ownsRow w.heap.size T 3 v l'.length (atCells l') ∧ Kep s.size (fun _ => true) l ∧ l.length ≤ s.size) := by
  refine ⟨hbel.trans (hb2.mono (Nat.le_succ _)), fun h => ?_, fun l sp' h => ?_⟩
  · rw [hE] at h; exact absurd h (by simp)
  · rw [hE] at h
    simp only [Option.some.injEq, Prod.mk.injEq] at h
    obtain ⟨rfl, rfl⟩ := h
    exact ⟨lv, l', rfl, hp, hby, owns_mono hown2 (Nat.le_succ _), ⟨fun _ _ => rfl, hk.once, hk.fine⟩, hlen⟩

set_option maxRecDepth 20000 in
set_option maxHeartbeats 1600000 in
theorem readAttributes_any (s : ByteArray) (w : World) (hs : s.size ≤ 1048576) :
    Calls Try.prog 55 #[.string s] w fun e w' => Below w.heap.size w w' ∧ (akOf s = none → e = .returned (.tuple #[.slice none 0 0, .bool false, .int .i64 3])) ∧ (∀ l sp, akOf s = some (l, sp) → ∃ v l', e = .returned (.tuple #[v, .bool sp, .int .i64 0]) ∧ l'.Perm l ∧ ByKind l' ∧ w'.ownsRow w.heap.size 104 3 v l'.length (atCells l') ∧ Kep s.size (fun _ => true) l ∧ l.length ≤ s.size) := by
  obtain ⟨i0, hi, hz0, hz1, hz2⟩ := info_parts info_attr
  go_enter Try.func55, Try.ntmps55
  go_wp2
  go_step3
  go_wp2
  go_step3
  go_wp2
  go_loopw [0, 2, 3] (fun x l p wr => ∃ (t : ByteArray) (sn : Nat → Bool) (xs : List At) (sp : Bool) (lv : Value), lv = l ∧ x = .string t ∧ p = .bool sp ∧ t.size + xs.length ≤ s.size ∧ akOf s = akAll t sn xs sp ∧ Kep s.size sn xs ∧ TruthsAt wr w.heap.size 0 sn ∧ w.heap.size < wr.heap.size ∧ wr.ownsRow (w.heap.size + 1) 104 3 lv xs.length (atCells xs) ∧ Below w.heap.size w wr) (fun x _ _ _ => strLen x)
  case atStart => exact ⟨s, fun _ => false, [], false, _, rfl, rfl, rfl, by simp, rfl, Kep.start _, truths_start w _, by simp, World.ownsRow_nil _ _ _ _, (Below.refl _ _).alloc (Nat.le_refl _) _⟩
  case round =>
    obtain ⟨t, sn, xs, sp, lv, rfl, rfl, rfl, hsz, hread, hkep, htr, hlt, hown, hbel⟩ := hrel
    have HR := hide hread
    have HK := hide hkep
    clear hread hkep
    have htm : t.size ≤ maxLen := by unfold maxLen; omega
    by_cases h0 : t.size = 0
    · have hem : t.toList.isEmpty = true := by rw [isEmpty_size]; simp [h0]
      have HE := hide (HR.out.trans (akAll_end h0))
      clear h0
      have hsort := sort_any (w.heap.size + 1) lv xs wr (by omega) HK.out.once hown
      go_wp2_with (go_at_call 78; refine hsort.mono ?_; rintro e w' ⟨rfl, l', hp, hby, hown2, hb2⟩)
      try rw [Exit.noGoto_ret]
      go_ret3
      exact ak_end hbel HE.out HK.out (by omega) hp hby hown2 hb2
    · have hem : t.toList.isEmpty = false := by rw [isEmpty_size]; simp [h0]
      have H0 := hide h0
      have hp : 0 < t.size := by omega
      have hb0 := at8_bytes t 0 hp
      have hl0 := at8_lt t.data.toList 0
      have hx0 : (0 : Int) < (t.size : Int) := by omega
      clear h0
      have hlen := fun w => lenSize_call t _ w rfl
      have hz := zOf_le t
      cases hw : akW t with
      | false =>
        have HE := hide (HR.out.trans (akAll_cut H0.out hw))
        have hcut := fun w => cut_none t (zOf t) w htm hz hw
        generalize at8 t.data.toList 0 = b0 at *
        generalize zOf t = z at *
        have hsort := fun wx (hb : Below wr.heap.size wr wx) => sort_any (w.heap.size + 1) lv xs wx (by omega) HK.out.once (owns_later hown hb)
        go_wp2_with (first | (go_at_call 75; refine (hlen _).mono ?_; rintro e w' ⟨rfl, hw⟩; rw [hw]; clear hw w') | (go_at_call 74; refine (hcut _).mono ?_; rintro e w' ⟨rfl, hb2⟩) | (go_at_call 78; refine (hsort _ (hb2.alloc hb2.size _)).mono ?_; rintro e w2 ⟨rfl, l', hp, hby, hown2, hb3⟩))
        try rw [Exit.noGoto_ret]
        go_ret3
        exact ak_end ((later_below hbel hb2 hbel.size).alloc (Nat.le_trans hbel.size hb2.size) _) HE.out HK.out (by omega) hp hby hown2 hb3
      | true =>
        have hrs := akR_size t hw
        have hcut := fun w => cut_some t (zOf t) w htm hz hw
        change ∀ w, Calls Try.prog 74 #[.string t, .int .i64 (zOf t)] w fun e w' => e = .returned (.tuple #[.agg #[.int .i64 ((akH t).flags : Int), .int .i64 ((akH t).kind : Int), .string (akH t).val], .string (akR t), .bool true]) ∧ Below w.heap.size w w' at hcut
        have hv := akH_val t
        have hk := akH_kind t
        have hf := akH_flags t
        cases hsn : sn (akH t).kind with
        | true =>
          have HT := hide (HR.out.trans (akAll_again H0.out hw hsn))
          have htk := htr (akH t).kind hk
          rw [hsn, Nat.zero_add] at htk
          obtain ⟨htc, htf⟩ := htk
          generalize akH t = a at *
          generalize akR t = r at *
          generalize at8 t.data.toList 0 = b0 at *
          generalize zOf t = z at *
          go_wp2_with (first | (go_at_call 75; refine (hlen _).mono ?_; rintro e w' ⟨rfl, hw⟩; rw [hw]; clear hw w') | (go_at_call 74; refine (hcut _).mono ?_; rintro e w' ⟨rfl, hb2⟩; have hc2 := (hb2.cell (p := ⟨w.heap.size, a.kind, none⟩) hlt).trans htc; have hlt2 := Nat.lt_of_lt_of_le hlt hb2.size))
          refine ⟨⟨r, sn, xs, sp, lv, rfl, rfl, rfl, by omega, HT.out, HK.out, (htr.later hlt hb2).alloc hlt2 _, by simp; omega, (owns_later hown hb2).alloc _, (later_below hbel hb2 hbel.size).alloc (Nat.le_trans hbel.size hb2.size) _⟩, by simp only [strLen]; omega⟩
        | false =>
          have htk := htr (akH t).kind hk
          rw [hsn, Nat.zero_add] at htk
          obtain ⟨htc, htf⟩ := htk
          have hmark := fun w' o (hb2 : Below wr.heap.size wr w') => ak_marked (o := o) (akH t).kind hk htr hlt hown hbel hb2
          cases hkn : knownB (akH t).kind with
          | true =>
            have hfl := fun w => flagsOf_known (akH t).kind w hkn
            have hvf := fun w => valueFits_any (akH t).kind (akH t).val w (by omega) hkn
            have hand := and192 (akH t).flags hf
            have hbad : ¬ ((((akH t).flags / 64 * 64 : Nat) : Int) = flagsI (akH t).kind ∧ rightB (akH t).kind (akH t).val = true) → akOf s = akAll (akR t) (met sn (akH t).kind) xs (if (akH t).kind = 6 ∨ (akH t).kind = 7 then sp else true) := by
              intro hn
              by_cases h67 : (akH t).kind = 6 ∨ (akH t).kind = 7
              · rw [if_pos h67]
                exact HR.out.trans (akAll_pass H0.out hw hsn (by unfold didOf; rw [if_pos (by simpa using hkn), if_neg hn, if_pos h67]))
              · rw [if_neg h67]
                exact HR.out.trans (akAll_spoil H0.out hw hsn (by unfold didOf; rw [if_pos (by simpa using hkn), if_neg hn, if_neg h67]))
            have hkey : (((akH t).flags / 64 * 64 : Nat) : Int) = flagsI (akH t).kind ∧ rightB (akH t).kind (akH t).val = true → ∃ g : Nat, flagsI (akH t).kind = (g : Int) ∧ akOf s = akAll (akR t) (met sn (akH t).kind) (xs ++ [⟨g, (akH t).kind, (akH t).val⟩]) sp ∧ Kep s.size (met sn (akH t).kind) (xs ++ [⟨g, (akH t).kind, (akH t).val⟩]) := by
              intro hy
              have hd : didOf (akH t).flags (akH t).kind (akH t).val = .keep (flagsI (akH t).kind).toNat := by unfold didOf; rw [if_pos (by simpa using hkn), if_pos hy]
              refine ⟨(flagsI (akH t).kind).toNat, ?_, HR.out.trans (akAll_keep H0.out hw hsn _ hd), HK.out.keep _ hsn _ _ (didOf_keep _ _ _ _ hd) hk (by omega)⟩
              have := flagsI_known (akH t).kind (by simpa using hkn)
              omega
            clear hw hsn hkn
            have HBAD := hide hbad
            have HKEY := hide hkey
            clear hbad hkey
            generalize akH t = a at *
            generalize akR t = r at *
            generalize at8 t.data.toList 0 = b0 at *
            generalize zOf t = z at *
            have HM := hide (HK.out.met a.kind)
            by_cases heq : ((a.flags / 64 * 64 : Nat) : Int) = flagsI a.kind
            · have eb : (((a.flags / 64 * 64 : Nat) : Int) == flagsI a.kind) = true := by rw [beq_iff_eq]; exact heq
              cases hr : rightB a.kind a.val with
              | true =>
                obtain ⟨g, hg, HT, HKK⟩ := HKEY.out ⟨heq, hr⟩
                have HT2 := hide HT
                have HKK2 := hide HKK
                rw [hr] at hvf
                rw [hg] at eb hfl
                clear heq HBAD HKEY HT HKK hg hr
                generalize a.flags / 64 * 64 = f2 at *
                go_wp2_with (first | (go_at_call 75; refine (hlen _).mono ?_; rintro e w' ⟨rfl, hw⟩; rw [hw]; clear hw w') | (go_at_call 74; refine (hcut _).mono ?_; rintro e w' ⟨rfl, hb2⟩; have hc2 := (hb2.cell (p := ⟨w.heap.size, a.kind, none⟩) hlt).trans htc; have hf2 := (hb2.frozen (p := ⟨w.heap.size, a.kind, none⟩) hlt).trans htf; have hlt2 := Nat.lt_of_lt_of_le hlt hb2.size) | (go_at_call 76; refine (hfl _).mono ?_; rintro e w1 ⟨rfl, hw⟩; rw [hw]; clear hw w1) | (go_at_call 77; refine (hvf _).mono ?_; rintro e w1 ⟨rfl, hw⟩; rw [hw]; clear hw w1) | (at_builtin; refine wpList_append_own _ rfl _ _ 86 rfl (w.heap.size + 1) 104 i0 (.agg #[.int .i64 0, .int .i64 0, .string ⟨#[]⟩]) 3 32 Try.underlying86 hi hz0 hz1 hz2 rfl (by decide) _ _ _ rfl ((hmark w' _ hb2).2.2.1.alloc _) ⟨w'.heap.size + 1, 0, none⟩ 1 1 [.int .i64 (g : Int), .int .i64 (a.kind : Int), .string a.val] rfl rfl (cells_new3 _ _ _ _ _ _) (one3 _ _ _) (by unfold maxLen; omega) (by omega) (by simp; omega) ?_; intro v' w4 hown4 hgrow4 _))
                obtain ⟨m1, m2, m3, m4⟩ := hmark w' _ hb2
                refine ⟨⟨r, met sn a.kind, xs ++ [⟨g, a.kind, a.val⟩], sp, v', rfl, rfl, rfl, by simp; omega, HT2.out, HKK2.out, (m1.alloc m2 _).grown hgrow4 (by have := m2; simp at this ⊢; omega) (by intro e; have := (m3.lt _ e.symm).1; omega), Nat.lt_of_lt_of_le m2 (Nat.le_trans (by simp) hgrow4.size), ?_, below_app m4 (Nat.le_of_lt m2) (owns_mono m3 (Nat.le_succ _)) hgrow4⟩, by simp only [strLen]; omega⟩
                rw [List.length_append, atCells_snoc]
                exact hown4
              | false =>
                have HN := hide (HBAD.out (fun h => by rw [hr] at h; exact absurd h.2 (by simp)))
                rw [hr] at hvf
                clear heq HBAD HKEY hr
                generalize flagsI a.kind = g at *
                generalize a.flags / 64 * 64 = f2 at *
                by_cases h6 : a.kind = 6
                · rw [if_pos (.inl h6)] at HN
                  have e6 : ((a.kind : Int) == 6) = true := by rw [beq_iff_eq]; omega
                  clear h6
                  go_wp2_with (first | (go_at_call 75; refine (hlen _).mono ?_; rintro e w' ⟨rfl, hw⟩; rw [hw]; clear hw w') | (go_at_call 74; refine (hcut _).mono ?_; rintro e w' ⟨rfl, hb2⟩; have hc2 := (hb2.cell (p := ⟨w.heap.size, a.kind, none⟩) hlt).trans htc; have hf2 := (hb2.frozen (p := ⟨w.heap.size, a.kind, none⟩) hlt).trans htf; have hlt2 := Nat.lt_of_lt_of_le hlt hb2.size) | (go_at_call 76; refine (hfl _).mono ?_; rintro e w1 ⟨rfl, hw⟩; rw [hw]; clear hw w1) | (go_at_call 77; refine (hvf _).mono ?_; rintro e w1 ⟨rfl, hw⟩; rw [hw]; clear hw w1))
                  obtain ⟨m1, m2, m3, m4⟩ := hmark w' _ hb2
                  refine ⟨⟨r, met sn a.kind, xs, sp, lv, rfl, rfl, rfl, by omega, HN.out, HM.out, m1, m2, m3, m4⟩, by simp only [strLen]; omega⟩
                by_cases h7 : a.kind = 7
                · rw [if_pos (.inr h7)] at HN
                  have e6 : ((a.kind : Int) == 6) = false := by rw [beq_eq_false_iff_ne]; omega
                  have e7 : ((a.kind : Int) == 7) = true := by rw [beq_iff_eq]; omega
                  clear h6 h7
                  go_wp2_with (first | (go_at_call 75; refine (hlen _).mono ?_; rintro e w' ⟨rfl, hw⟩; rw [hw]; clear hw w') | (go_at_call 74; refine (hcut _).mono ?_; rintro e w' ⟨rfl, hb2⟩; have hc2 := (hb2.cell (p := ⟨w.heap.size, a.kind, none⟩) hlt).trans htc; have hf2 := (hb2.frozen (p := ⟨w.heap.size, a.kind, none⟩) hlt).trans htf; have hlt2 := Nat.lt_of_lt_of_le hlt hb2.size) | (go_at_call 76; refine (hfl _).mono ?_; rintro e w1 ⟨rfl, hw⟩; rw [hw]; clear hw w1) | (go_at_call 77; refine (hvf _).mono ?_; rintro e w1 ⟨rfl, hw⟩; rw [hw]; clear hw w1))
                  obtain ⟨m1, m2, m3, m4⟩ := hmark w' _ hb2
                  refine ⟨⟨r, met sn a.kind, xs, sp, lv, rfl, rfl, rfl, by omega, HN.out, HM.out, m1, m2, m3, m4⟩, by simp only [strLen]; omega⟩
                rw [if_neg (by omega)] at HN
                have e6 : ((a.kind : Int) == 6) = false := by rw [beq_eq_false_iff_ne]; omega
                have e7 : ((a.kind : Int) == 7) = false := by rw [beq_eq_false_iff_ne]; omega
                clear h6 h7
                go_wp2_with (first | (go_at_call 75; refine (hlen _).mono ?_; rintro e w' ⟨rfl, hw⟩; rw [hw]; clear hw w') | (go_at_call 74; refine (hcut _).mono ?_; rintro e w' ⟨rfl, hb2⟩; have hc2 := (hb2.cell (p := ⟨w.heap.size, a.kind, none⟩) hlt).trans htc; have hf2 := (hb2.frozen (p := ⟨w.heap.size, a.kind, none⟩) hlt).trans htf; have hlt2 := Nat.lt_of_lt_of_le hlt hb2.size) | (go_at_call 76; refine (hfl _).mono ?_; rintro e w1 ⟨rfl, hw⟩; rw [hw]; clear hw w1) | (go_at_call 77; refine (hvf _).mono ?_; rintro e w1 ⟨rfl, hw⟩; rw [hw]; clear hw w1))
                obtain ⟨m1, m2, m3, m4⟩ := hmark w' _ hb2
                refine ⟨⟨r, met sn a.kind, xs, true, lv, rfl, rfl, rfl, by omega, HN.out, HM.out, m1, m2, m3, m4⟩, by simp only [strLen]; omega⟩
            · have HN := hide (HBAD.out (fun h => heq h.1))
              have eb : (((a.flags / 64 * 64 : Nat) : Int) == flagsI a.kind) = false := by rw [beq_eq_false_iff_ne]; exact heq
              clear heq HBAD HKEY hvf
              generalize flagsI a.kind = g at *
              generalize a.flags / 64 * 64 = f2 at *
              by_cases h6 : a.kind = 6
              · rw [if_pos (.inl h6)] at HN
                have e6 : ((a.kind : Int) == 6) = true := by rw [beq_iff_eq]; omega
                clear h6
                go_wp2_with (first | (go_at_call 75; refine (hlen _).mono ?_; rintro e w' ⟨rfl, hw⟩; rw [hw]; clear hw w') | (go_at_call 74; refine (hcut _).mono ?_; rintro e w' ⟨rfl, hb2⟩; have hc2 := (hb2.cell (p := ⟨w.heap.size, a.kind, none⟩) hlt).trans htc; have hf2 := (hb2.frozen (p := ⟨w.heap.size, a.kind, none⟩) hlt).trans htf; have hlt2 := Nat.lt_of_lt_of_le hlt hb2.size) | (go_at_call 76; refine (hfl _).mono ?_; rintro e w1 ⟨rfl, hw⟩; rw [hw]; clear hw w1))
                obtain ⟨m1, m2, m3, m4⟩ := hmark w' _ hb2
                refine ⟨⟨r, met sn a.kind, xs, sp, lv, rfl, rfl, rfl, by omega, HN.out, HM.out, m1, m2, m3, m4⟩, by simp only [strLen]; omega⟩
              by_cases h7 : a.kind = 7
              · rw [if_pos (.inr h7)] at HN
                have e6 : ((a.kind : Int) == 6) = false := by rw [beq_eq_false_iff_ne]; omega
                have e7 : ((a.kind : Int) == 7) = true := by rw [beq_iff_eq]; omega
                clear h6 h7
                go_wp2_with (first | (go_at_call 75; refine (hlen _).mono ?_; rintro e w' ⟨rfl, hw⟩; rw [hw]; clear hw w') | (go_at_call 74; refine (hcut _).mono ?_; rintro e w' ⟨rfl, hb2⟩; have hc2 := (hb2.cell (p := ⟨w.heap.size, a.kind, none⟩) hlt).trans htc; have hf2 := (hb2.frozen (p := ⟨w.heap.size, a.kind, none⟩) hlt).trans htf; have hlt2 := Nat.lt_of_lt_of_le hlt hb2.size) | (go_at_call 76; refine (hfl _).mono ?_; rintro e w1 ⟨rfl, hw⟩; rw [hw]; clear hw w1))
                obtain ⟨m1, m2, m3, m4⟩ := hmark w' _ hb2
                refine ⟨⟨r, met sn a.kind, xs, sp, lv, rfl, rfl, rfl, by omega, HN.out, HM.out, m1, m2, m3, m4⟩, by simp only [strLen]; omega⟩
              rw [if_neg (by omega)] at HN
              have e6 : ((a.kind : Int) == 6) = false := by rw [beq_eq_false_iff_ne]; omega
              have e7 : ((a.kind : Int) == 7) = false := by rw [beq_eq_false_iff_ne]; omega
              clear h6 h7
              go_wp2_with (first | (go_at_call 75; refine (hlen _).mono ?_; rintro e w' ⟨rfl, hw⟩; rw [hw]; clear hw w') | (go_at_call 74; refine (hcut _).mono ?_; rintro e w' ⟨rfl, hb2⟩; have hc2 := (hb2.cell (p := ⟨w.heap.size, a.kind, none⟩) hlt).trans htc; have hf2 := (hb2.frozen (p := ⟨w.heap.size, a.kind, none⟩) hlt).trans htf; have hlt2 := Nat.lt_of_lt_of_le hlt hb2.size) | (go_at_call 76; refine (hfl _).mono ?_; rintro e w1 ⟨rfl, hw⟩; rw [hw]; clear hw w1))
              obtain ⟨m1, m2, m3, m4⟩ := hmark w' _ hb2
              refine ⟨⟨r, met sn a.kind, xs, true, lv, rfl, rfl, rfl, by omega, HN.out, HM.out, m1, m2, m3, m4⟩, by simp only [strLen]; omega⟩
          | false =>
            have hfl := fun w => flagsOf_unknown (akH t).kind w hkn
            have hun := unknown_cases _ hkn
            have h128 := and128 (akH t).flags hf
            have h64 := and64 (akH t).flags hf
            have h224 := and224 (akH t).flags hf
            have hd : didOf (akH t).flags (akH t).kind (akH t).val = if (akH t).flags < 128 then .ends else if (akH t).flags % 128 < 64 then .pass else .keep (192 + (akH t).flags % 64 / 32 * 32) := by unfold didOf; rw [if_neg (by simp [hkn])]
            have e6 : (((akH t).kind : Int) == 6) = false := by rw [beq_eq_false_iff_ne]; omega
            have e7 : (((akH t).kind : Int) == 7) = false := by rw [beq_eq_false_iff_ne]; omega
            have HM := hide (HK.out.met (akH t).kind)
            clear hun
            by_cases hf1 : (akH t).flags < 128
            · rw [if_pos hf1] at hd
              have HN := hide (HR.out.trans (akAll_ends H0.out hw hsn hd))
              rw [show (akH t).flags / 128 * 128 = 0 from by omega] at h128
              clear hw hsn hkn hd h64 h224 hf1
              generalize akH t = a at *
              generalize akR t = r at *
              generalize at8 t.data.toList 0 = b0 at *
              generalize zOf t = z at *
              go_wp2_with (first | (go_at_call 75; refine (hlen _).mono ?_; rintro e w' ⟨rfl, hw⟩; rw [hw]; clear hw w') | (go_at_call 74; refine (hcut _).mono ?_; rintro e w' ⟨rfl, hb2⟩; have hc2 := (hb2.cell (p := ⟨w.heap.size, a.kind, none⟩) hlt).trans htc; have hf2 := (hb2.frozen (p := ⟨w.heap.size, a.kind, none⟩) hlt).trans htf; have hlt2 := Nat.lt_of_lt_of_le hlt hb2.size) | (go_at_call 76; refine (hfl _).mono ?_; rintro e w1 ⟨rfl, hw⟩; rw [hw]; clear hw w1))
              try rw [Exit.noGoto_ret]
              go_ret3
              obtain ⟨m1, m2, m3, m4⟩ := hmark w' _ hb2
              refine ⟨m4, fun _ => rfl, fun l sp' h => ?_⟩
              rw [HN.out] at h; exact absurd h (by simp)
            · rw [if_neg hf1] at hd
              rw [show (akH t).flags / 128 * 128 = 128 from by omega] at h128
              by_cases hf2 : (akH t).flags % 128 < 64
              · rw [if_pos hf2] at hd
                have HN := hide (HR.out.trans (akAll_pass H0.out hw hsn hd))
                rw [show (akH t).flags / 64 % 2 * 64 = 0 from by omega] at h64
                clear hw hsn hkn hd h224 hf1 hf2
                generalize akH t = a at *
                generalize akR t = r at *
                generalize at8 t.data.toList 0 = b0 at *
                generalize zOf t = z at *
                go_wp2_with (first | (go_at_call 75; refine (hlen _).mono ?_; rintro e w' ⟨rfl, hw⟩; rw [hw]; clear hw w') | (go_at_call 74; refine (hcut _).mono ?_; rintro e w' ⟨rfl, hb2⟩; have hc2 := (hb2.cell (p := ⟨w.heap.size, a.kind, none⟩) hlt).trans htc; have hf2 := (hb2.frozen (p := ⟨w.heap.size, a.kind, none⟩) hlt).trans htf; have hlt2 := Nat.lt_of_lt_of_le hlt hb2.size) | (go_at_call 76; refine (hfl _).mono ?_; rintro e w1 ⟨rfl, hw⟩; rw [hw]; clear hw w1))
                obtain ⟨m1, m2, m3, m4⟩ := hmark w' _ hb2
                refine ⟨⟨r, met sn a.kind, xs, sp, lv, rfl, rfl, rfl, by omega, HN.out, HM.out, m1, m2, m3, m4⟩, by simp only [strLen]; omega⟩
              · rw [if_neg hf2] at hd
                have HT2 := hide (HR.out.trans (akAll_keep H0.out hw hsn _ hd))
                have HKK2 := hide (HK.out.keep _ hsn _ (akH t).val (didOf_keep _ _ _ _ hd) hk (by omega))
                rw [show (akH t).flags / 64 % 2 * 64 = 64 from by omega] at h64
                have h224 := h224 (by omega) (by omega)
                clear hw hsn hkn hd hf1 hf2
                generalize 192 + (akH t).flags % 64 / 32 * 32 = g at *
                generalize akH t = a at *
                generalize akR t = r at *
                generalize at8 t.data.toList 0 = b0 at *
                generalize zOf t = z at *
                go_wp2_with (first | (go_at_call 75; refine (hlen _).mono ?_; rintro e w' ⟨rfl, hw⟩; rw [hw]; clear hw w') | (go_at_call 74; refine (hcut _).mono ?_; rintro e w' ⟨rfl, hb2⟩; have hc2 := (hb2.cell (p := ⟨w.heap.size, a.kind, none⟩) hlt).trans htc; have hf2 := (hb2.frozen (p := ⟨w.heap.size, a.kind, none⟩) hlt).trans htf; have hlt2 := Nat.lt_of_lt_of_le hlt hb2.size) | (go_at_call 76; refine (hfl _).mono ?_; rintro e w1 ⟨rfl, hw⟩; rw [hw]; clear hw w1) | (at_builtin; refine wpList_append_own _ rfl _ _ 86 rfl (w.heap.size + 1) 104 i0 (.agg #[.int .i64 0, .int .i64 0, .string ⟨#[]⟩]) 3 32 Try.underlying86 hi hz0 hz1 hz2 rfl (by decide) _ _ _ rfl ((hmark w' _ hb2).2.2.1.alloc _) ⟨w'.heap.size + 1, 0, none⟩ 1 1 [.int .i64 (g : Int), .int .i64 (a.kind : Int), .string a.val] rfl rfl (cells_new3 _ _ _ _ _ _) (one3 _ _ _) (by unfold maxLen; omega) (by omega) (by simp; omega) ?_; intro v' w4 hown4 hgrow4 _))
                obtain ⟨m1, m2, m3, m4⟩ := hmark w' _ hb2
                refine ⟨⟨r, met sn a.kind, xs ++ [⟨g, a.kind, a.val⟩], sp, v', rfl, rfl, rfl, by simp; omega, HT2.out, HKK2.out, (m1.alloc m2 _).grown hgrow4 (by have := m2; simp at this ⊢; omega) (by intro e; have := (m3.lt _ e.symm).1; omega), Nat.lt_of_lt_of_le m2 (Nat.le_trans (by simp) hgrow4.size), ?_, below_app m4 (Nat.le_of_lt m2) (owns_mono m3 (Nat.le_succ _)) hgrow4⟩, by simp only [strLen]; omega⟩
                rw [List.length_append, atCells_snoc]
                exact hown4

end Go.Proofs.Yteoacdkgicfomaa
