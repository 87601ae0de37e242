/-
  The table of known types, walked: routelogref.known and right, message.flagsOf and valueFits.
-/
import Derived.Test.YtjjakgmjoplhoaaB02
import Derived.Test.YtjjakgmjoplhoaaB01
import Derived.RegionTactic
import Derived.ChangeAlike
import Derived.Laws.ResultCell
import Derived.BigRegion
import Derived.OwnWalk
import Derived.Deep.RegionLaw
import Derived.Lib.AppendStr
import Derived.Laws.IdiomStrings
import Derived.Laws.OwnMore
import Derived.Lib.BufferRead
namespace Go.Proofs.Ytjjakgmjoplhoaa
open Go.RowKit
open Rl

set_option maxHeartbeats 800000 in
theorem known_any (k : Int) (w : World) :
    Calls Try.prog 64 #[.int .i64 k] w fun e w' => e = .returned (.int .i64 (flagsI k)) ∧ w' = w := by
  cases h : knownB k with
  | true =>
    rcases known_cases k h with rfl | rfl | rfl | rfl | rfl | rfl | rfl
    all_goals
      go_enter Try.func64, Try.ntmps64
      go_wp2
      go_ret
      exact ⟨rfl, rfl⟩
  | false =>
    have hk := unknown_cases k h
    rw [flagsI_unknown k h]
    clear h
    have e1 : (k == 1) = false := by rw [beq_eq_false_iff_ne]; omega
    have e2 : (k == 2) = false := by rw [beq_eq_false_iff_ne]; omega
    have e3 : (k == 3) = false := by rw [beq_eq_false_iff_ne]; omega
    have e4 : (k == 4) = false := by rw [beq_eq_false_iff_ne]; omega
    have e6 : (k == 6) = false := by rw [beq_eq_false_iff_ne]; omega
    have e7 : (k == 7) = false := by rw [beq_eq_false_iff_ne]; omega
    have e8 : (k == 8) = false := by rw [beq_eq_false_iff_ne]; omega
    clear hk
    go_enter Try.func64, Try.ntmps64
    go_wp2
    go_ret
    exact ⟨rfl, rfl⟩

theorem flagsOf_known (k : Int) (w : World) (h : knownB k = true) :
    Calls Try.prog 76 #[.int .i64 k] w fun e w' => e = .returned (.tuple #[.int .i64 (flagsI k), .bool true]) ∧ w' = w := by
  rcases known_cases k h with rfl | rfl | rfl | rfl | rfl | rfl | rfl
  all_goals
    go_enter Try.func76, Try.ntmps76
    go_wp2
    go_ret2
    exact ⟨rfl, rfl⟩

theorem flagsOf_unknown (k : Int) (w : World) (h : knownB k = false) :
    Calls Try.prog 76 #[.int .i64 k] w fun e w' => e = .returned (.tuple #[.int .i64 0, .bool false]) ∧ w' = w := by
  have hk := unknown_cases k h
  clear h
  have e1 : (k == 1) = false := by rw [beq_eq_false_iff_ne]; omega
  have e2 : (k == 2) = false := by rw [beq_eq_false_iff_ne]; omega
  have e3 : (k == 3) = false := by rw [beq_eq_false_iff_ne]; omega
  have e4 : (k == 4) = false := by rw [beq_eq_false_iff_ne]; omega
  have e6 : (k == 6) = false := by rw [beq_eq_false_iff_ne]; omega
  have e7 : (k == 7) = false := by rw [beq_eq_false_iff_ne]; omega
  have e8 : (k == 8) = false := by rw [beq_eq_false_iff_ne]; omega
  clear hk
  go_enter Try.func76, Try.ntmps76
  go_wp2
  go_ret2
  exact ⟨rfl, rfl⟩

theorem right_one (v : ByteArray) : rightB 1 v = decide (v.size = 1 ∧ at8 v.data.toList 0 ≤ 2) := by simp [rightB]
theorem right_two (v : ByteArray) : rightB 2 v = pathB v.data.toList := by simp [rightB]
theorem right_four (k : Int) (v : ByteArray) (h : k = 3 ∨ k = 4) : rightB k v = decide (v.size = 4) := by rcases h with rfl | rfl <;> simp [rightB]
theorem right_six (v : ByteArray) : rightB 6 v = decide (v.size = 0) := by simp [rightB]
theorem right_seven (v : ByteArray) : rightB 7 v = decide (v.size = 8) := by simp [rightB]
theorem right_eight (v : ByteArray) : rightB 8 v = decide (4 ≤ v.size ∧ v.size % 4 = 0) := by simp [rightB]

theorem isEmpty_size (v : ByteArray) : v.toList.isEmpty = decide (v.size = 0) := by
  rw [Lib.toList_data]
  by_cases h : v.size = 0
  · rw [nil_of_size v h]; simp [h]
  · have := ne_nil_of_size v (by omega)
    revert this
    cases v.data.toList <;> simp [h]

theorem int_size (v : ByteArray) (n : Nat) : ((v.size : Int) == (n : Int)) = decide (v.size = n) := by
  rw [Bool.eq_iff_iff]; simp; omega

theorem mod_size (v : ByteArray) (h : 4 ≤ v.size) : ((v.size : Int) % 4 == 0) = decide (4 ≤ v.size ∧ v.size % 4 = 0) := by
  rw [Bool.eq_iff_iff]; simp; omega

theorem mod_size' (v : ByteArray) (h : ¬ v.size = 0) : ((v.size : Int) % 4 == 0) = decide (4 ≤ v.size ∧ v.size % 4 = 0) := by
  rw [Bool.eq_iff_iff]; simp; omega

set_option maxHeartbeats 1600000 in
theorem right_any (k : Int) (v : ByteArray) (w : World) (hv : v.size ≤ maxLen) (h : knownB k = true) :
    Calls Try.prog 65 #[.int .i64 k, .string v] w fun e w' => e = .returned (.bool (rightB k v)) ∧ w' = w := by
  have hv' := hv
  unfold maxLen at hv
  rcases known_cases k h with rfl | rfl | rfl | rfl | rfl | rfl | rfl
  · clear h
    by_cases h1 : v.size = 1
    · have h0 : 0 < v.size := by omega
      have hb := at8_bytes v 0 h0
      have hx : (0 : Int) < (v.size : Int) := by omega
      have H := hide (right_one v)
      have hs : ((v.size : Int) == 1) = true := by rw [beq_iff_eq]; omega
      have H1 := hide h1
      clear h1
      generalize at8 v.data.toList 0 = b at *
      go_enter Try.func65, Try.ntmps65
      go_wp2
      all_goals
        go_ret
        refine ⟨ret_bool ?_, rfl⟩
        rw [H.out]
        simp [H1.out]; omega
    · have hs : ((v.size : Int) == 1) = false := by rw [beq_eq_false_iff_ne]; omega
      rw [right_one]
      have H1 := hide h1
      clear h1
      go_enter Try.func65, Try.ntmps65
      go_wp2
      go_ret
      refine ⟨ret_bool ?_, rfl⟩
      simp [H1.out]
  · clear h
    rw [right_two]
    go_enter Try.func65, Try.ntmps65
    go_wp2_with (go_at_call 86; refine (segments_any v _ hv').mono ?_; rintro e w' ⟨rfl, rfl⟩)
    go_ret
    exact ⟨rfl, rfl⟩
  · clear h
    rw [right_four _ _ (.inl rfl)]
    go_enter Try.func65, Try.ntmps65
    go_wp2
    go_ret
    exact ⟨ret_bool (int_size v 4), rfl⟩
  · clear h
    rw [right_four _ _ (.inr rfl)]
    go_enter Try.func65, Try.ntmps65
    go_wp2
    go_ret
    exact ⟨ret_bool (int_size v 4), rfl⟩
  · clear h
    rw [right_six]
    go_enter Try.func65, Try.ntmps65
    go_wp2
    go_ret
    exact ⟨ret_bool (isEmpty_size v), rfl⟩
  · clear h
    rw [right_seven]
    go_enter Try.func65, Try.ntmps65
    go_wp2
    go_ret
    exact ⟨ret_bool (int_size v 8), rfl⟩
  · clear h
    rw [right_eight]
    by_cases h4 : 4 ≤ v.size
    · have H4 := hide h4
      go_enter Try.func65, Try.ntmps65
      go_wp2
      go_ret
      exact ⟨ret_bool (mod_size v H4.out), rfl⟩
    · have H4 := hide h4
      go_enter Try.func65, Try.ntmps65
      go_wp2
      go_ret
      exact ⟨ret_bool (by simp), rfl⟩

set_option maxHeartbeats 1600000 in
theorem valueFits_any (k : Int) (v : ByteArray) (w : World) (hv : v.size ≤ maxLen) (h : knownB k = true) :
    Calls Try.prog 77 #[.int .i64 k, .string v] w fun e w' => e = .returned (.bool (rightB k v)) ∧ w' = w := by
  have hv' := hv
  unfold maxLen at hv
  rcases known_cases k h with rfl | rfl | rfl | rfl | rfl | rfl | rfl
  · clear h
    by_cases h1 : v.size = 1
    · have h0 : 0 < v.size := by omega
      have hb := at8_bytes v 0 h0
      have hx : (0 : Int) < (v.size : Int) := by omega
      have H := hide (right_one v)
      have hs : ((v.size : Int) == 1) = true := by rw [beq_iff_eq]; omega
      have H1 := hide h1
      clear h1
      generalize at8 v.data.toList 0 = b at *
      go_enter Try.func77, Try.ntmps77
      go_wp2
      all_goals
        go_ret
        refine ⟨ret_bool ?_, rfl⟩
        rw [H.out]
        simp [H1.out]; omega
    · have hs : ((v.size : Int) == 1) = false := by rw [beq_eq_false_iff_ne]; omega
      rw [right_one]
      have H1 := hide h1
      clear h1
      go_enter Try.func77, Try.ntmps77
      go_wp2
      go_ret
      refine ⟨ret_bool ?_, rfl⟩
      simp [H1.out]
  · clear h
    rw [right_two]
    go_enter Try.func77, Try.ntmps77
    go_wp2_with (go_at_call 91; refine (isPath_any v _ hv').mono ?_; rintro e w' ⟨rfl, rfl⟩)
    go_ret
    exact ⟨rfl, rfl⟩
  · clear h
    rw [right_four _ _ (.inl rfl)]
    go_enter Try.func77, Try.ntmps77
    go_wp2
    go_ret
    exact ⟨ret_bool (int_size v 4), rfl⟩
  · clear h
    rw [right_four _ _ (.inr rfl)]
    go_enter Try.func77, Try.ntmps77
    go_wp2
    go_ret
    exact ⟨ret_bool (int_size v 4), rfl⟩
  · clear h
    rw [right_six]
    go_enter Try.func77, Try.ntmps77
    go_wp2
    go_ret
    exact ⟨ret_bool (isEmpty_size v), rfl⟩
  · clear h
    rw [right_seven]
    go_enter Try.func77, Try.ntmps77
    go_wp2
    go_ret
    exact ⟨ret_bool (int_size v 8), rfl⟩
  · clear h
    rw [right_eight]
    by_cases h0 : v.size = 0
    · have hem : v.toList.isEmpty = true := by rw [isEmpty_size]; simp [h0]
      have H0 := hide h0
      clear h0
      go_enter Try.func77, Try.ntmps77
      go_wp2
      go_ret
      exact ⟨ret_bool (by simp [H0.out]), rfl⟩
    · have hem : v.toList.isEmpty = false := by rw [isEmpty_size]; simp [h0]
      have H0 := hide h0
      go_enter Try.func77, Try.ntmps77
      go_wp2
      go_ret
      exact ⟨ret_bool (mod_size' v H0.out), rfl⟩

end Go.Proofs.Ytjjakgmjoplhoaa
/-
  message.cutAttribute, walked: what attribute begins a text, and what is left.
-/
namespace Go.Proofs.Ytjjakgmjoplhoaa
open Go.RowKit
open Rl

theorem lenZ_call (t : ByteArray) (z : Nat) (w : World) (hz : 1 ≤ z ∧ z ≤ 2) :
    Calls Try.prog 52 #[.string (t.extract 2 (2 + z))] w fun e w' => e = .returned (.int .i64 (lenZ z t : Int)) ∧ w' = w := by
  refine (read_any _ w (by rw [ByteArray.size_extract]; omega)).mono ?_
  rintro e w' ⟨he, hw⟩
  exact ⟨by rw [he, lenZ_cast], hw⟩

set_option maxHeartbeats 800000 in
theorem cut_none (t : ByteArray) (z : Nat) (w : World) (ht : t.size ≤ maxLen) (hz : 1 ≤ z ∧ z ≤ 2) (h : wholeZ z t = false) :
    Calls Try.prog 74 #[.string t, .int .i64 z] w fun e w' => e = .returned (.tuple #[.agg #[.int .i64 0, .int .i64 0, .string ⟨#[]⟩], .string ⟨#[]⟩, .bool false]) ∧ Below w.heap.size w w' := by
  unfold maxLen at ht
  unfold wholeZ at h
  rw [decide_eq_false_iff_not] at h
  have hl := lenZ_lt z t hz.2
  have hz' := hz
  obtain ⟨z1, z2⟩ := hz
  by_cases h2 : t.size < 2 + z
  · clear h
    go_enter Try.func74, Try.ntmps74
    go_wp2
    exact bodyPost_ret (v := .tuple #[.agg #[.int .i64 0, .int .i64 0, .string ⟨#[]⟩], .string ⟨#[]⟩, .bool false]) (by simp [results, Try.results74, go_sem]) rfl ⟨rfl, (Below.refl _ _).alloc (Nat.le_refl _) _⟩
  · have h3 : t.size < 2 + z + lenZ z t := by omega
    clear h
    go_enter Try.func74, Try.ntmps74
    go_wp2_with (go_at_call 52; refine (lenZ_call t z _ hz').mono ?_; rintro e w' ⟨rfl, rfl⟩)
    exact bodyPost_ret (v := .tuple #[.agg #[.int .i64 0, .int .i64 0, .string ⟨#[]⟩], .string ⟨#[]⟩, .bool false]) (by simp [results, Try.results74, go_sem]) rfl ⟨rfl, (Below.refl _ _).alloc (Nat.le_refl _) _⟩

set_option maxHeartbeats 1600000 in
theorem cut_some (t : ByteArray) (z : Nat) (w : World) (ht : t.size ≤ maxLen) (hz : 1 ≤ z ∧ z ≤ 2) (h : wholeZ z t = true) :
    Calls Try.prog 74 #[.string t, .int .i64 z] w fun e w' => e = .returned (.tuple #[.agg #[.int .i64 ((headZ z t).flags : Int), .int .i64 ((headZ z t).kind : Int), .string (headZ z t).val], .string (restZ z t), .bool true]) ∧ Below w.heap.size w w' := by
  unfold maxLen at ht
  unfold wholeZ at h
  rw [decide_eq_true_iff] at h
  have hl := lenZ_lt z t hz.2
  have hz' := hz
  obtain ⟨z1, z2⟩ := hz
  obtain ⟨h2, h3⟩ := h
  have hb0 := at8_bytes t 0 (by omega)
  have hb1 := at8_bytes t 1 (by omega)
  have hl0 := at8_lt t.data.toList 0
  have hl1 := at8_lt t.data.toList 1
  have hx0 : (0 : Int) < (t.size : Int) := by omega
  have hx1 : (1 : Int) < (t.size : Int) := by omega
  have hcall := fun w => lenZ_call t z w hz'
  unfold headZ restZ
  simp only
  generalize at8 t.data.toList 0 = b0 at *
  generalize at8 t.data.toList 1 = b1 at *
  generalize lenZ z t = n at *
  go_enter Try.func74, Try.ntmps74
  go_wp2_with (go_at_call 52; refine (hcall _).mono ?_; rintro e w' ⟨rfl, rfl⟩)
  go_region
  go_wp2
  refine bodyPost_ret (v := .tuple #[.agg #[.int .i64 b0, .int .i64 b1, .string (t.extract (2 + z) (2 + z + n))], .string (t.extract (2 + z + n) t.size), .bool true]) (by simp [results, Try.results74, go_sem]) rfl ⟨rfl, ?_⟩
  exact below_drewN (n := 1) ((Below.refl _ _).alloc (Nat.le_refl _) _)

end Go.Proofs.Ytjjakgmjoplhoaa
/-
  message.isCanonical and hasNeeded, walked.
-/
namespace Go.Proofs.Ytjjakgmjoplhoaa
open Go.RowKit
open Rl

theorem atOk_known (f k : Int) (v : ByteArray) (h : knownB k = true) : atOk f k v = (decide (f = flagsI k) && rightB k v) := by unfold atOk; rw [if_pos h]
theorem atOk_unknown (f k : Int) (v : ByteArray) (h : knownB k = false) : atOk f k v = decide (f = 192 ∨ f = 224) := by unfold atOk; rw [if_neg (by simp [h])]
theorem int_eq (a b : Int) : (a == b) = decide (a = b) := by rw [Bool.eq_iff_iff]; simp

set_option maxHeartbeats 800000 in
theorem isCanonical_any (f k : Int) (v : ByteArray) (w : World) (hv : v.size ≤ maxLen) :
    Calls Try.prog 83 #[.agg #[.int .i64 f, .int .i64 k, .string v]] w fun e w' => e = .returned (.bool (atOk f k v)) ∧ Below w.heap.size w w' := by
  cases h : knownB k with
  | true =>
    rw [atOk_known f k v h]
    have hcall := fun w => flagsOf_known k w h
    have hcall2 := fun w => valueFits_any k v w hv h
    clear h
    generalize flagsI k = g at *
    generalize rightB k v = r at *
    by_cases e : f = g
    · subst e
      have eb : (f == f) = true := by simp
      go_enter Try.func83, Try.ntmps83
      go_wp2_with (first | (go_at_call 76; refine (hcall _).mono ?_; rintro e w' ⟨rfl, rfl⟩) | (go_at_call 77; refine (hcall2 _).mono ?_; rintro e w' ⟨rfl, rfl⟩))
      go_ret
      exact ⟨ret_bool (by simp), (Below.refl _ _).alloc (Nat.le_refl _) _⟩
    · have eb : (f == g) = false := by rw [beq_eq_false_iff_ne]; exact e
      have E := hide e
      clear e
      go_enter Try.func83, Try.ntmps83
      go_wp2_with (first | (go_at_call 76; refine (hcall _).mono ?_; rintro e w' ⟨rfl, rfl⟩) | (go_at_call 77; refine (hcall2 _).mono ?_; rintro e w' ⟨rfl, rfl⟩))
      go_ret
      exact ⟨ret_bool (by simp [E.out]), (Below.refl _ _).alloc (Nat.le_refl _) _⟩
  | false =>
    rw [atOk_unknown f k v h]
    have hcall := fun w => flagsOf_unknown k w h
    clear h
    go_enter Try.func83, Try.ntmps83
    go_wp2_with (first | (go_at_call 76; refine (hcall _).mono ?_; rintro e w' ⟨rfl, rfl⟩))
    · go_ret
      exact ⟨ret_bool (by simp; omega), (Below.refl _ _).alloc (Nat.le_refl _) _⟩
    · have hn : ¬ f = 192 := by assumption
      go_ret
      exact ⟨ret_bool (by simp [hn, int_eq]), (Below.refl _ _).alloc (Nat.le_refl _) _⟩

set_option maxHeartbeats 800000 in
theorem hasNeeded_any (v : Value) (xs : List At) (w : World) (hx : xs.length ≤ 1073741824) (hr : RowAt w v xs.length 3 (atCells xs)) :
    Calls Try.prog 81 #[v] w fun e w' => e = .returned (.bool (needN xs == 3)) ∧ Below w.heap.size w w' := by
  obtain ⟨_, hr⟩ := hr
  rcases hr with ⟨a, c, rfl, hn⟩ | ⟨b, o, cap, rfl, hn, hb, hc⟩
  · have hn0 : xs = [] := List.eq_nil_of_length_eq_zero hn
    subst hn0
    go_enter Try.func81, Try.ntmps81
    go_wp2
    refine wp_loop_rounds 1 ?_
    rw [rounds_succ]
    go_wp2
    go_ret
    exact ⟨ret_bool (by simp [needN]), Below.refl _ _⟩
  · go_enter Try.func81, Try.ntmps81
    go_wp2
    go_loopw [3, 8] (fun x i wr => ∃ k : Nat, k ≤ xs.length ∧ i = .int .i64 k ∧ x = .int .i64 (needN (xs.take k)) ∧ Below w.heap.size w wr) (fun _ i _ => xs.length - (intOf i).toNat)
    case atStart => exact ⟨0, Nat.zero_le _, rfl, rfl, Below.refl _ _⟩
    case round =>
      obtain ⟨k, hk, rfl, rfl, hbel⟩ := hrel
      have hnl : needN (xs.take k) ≤ k := Nat.le_trans (needN_le _) (List.length_take_le _ _)
      by_cases hlt : k < xs.length
      · obtain ⟨g1, g2, g3⟩ := atCells_get xs k hlt
        have c1 := (hbel.cell (p := ⟨b, o + k * 3, none⟩) hb).trans (hc _ _ g1)
        have c2 := (hbel.cell (p := ⟨b, o + k * 3 + 1, none⟩) hb).trans (hc _ _ g2)
        have c3 := (hbel.cell (p := ⟨b, o + k * 3 + 2, none⟩) hb).trans (hc _ _ g3)
        have HN := hide (needN_take xs k hlt)
        clear hc g1 g2 g3
        generalize xs[k] = a at *
        generalize needN (xs.take k) = n at *
        by_cases h13 : 1 ≤ a.kind ∧ a.kind ≤ 3
        · have h3 : a.kind = 1 ∨ a.kind = 2 ∨ a.kind = 3 := by omega
          rw [if_pos h13] at HN
          obtain ⟨af, ak, av⟩ := a
          simp only at *
          clear h13
          rcases h3 with rfl | rfl | rfl
          all_goals
            go_wp2
            go_roundw
            case rel => exact ⟨k + 1, by omega, by go_num, by rw [HN.out]; go_num, hbel.alloc (by exact hbel.size) _⟩
            case measure => simp [intOf]; omega
        · rw [if_neg h13] at HN
          have e1 : ((a.kind : Int) == 1) = false := by rw [beq_eq_false_iff_ne]; omega
          have e2 : ((a.kind : Int) == 2) = false := by rw [beq_eq_false_iff_ne]; omega
          have e3 : ((a.kind : Int) == 3) = false := by rw [beq_eq_false_iff_ne]; omega
          clear h13
          go_wp2
          go_roundw
          case rel => exact ⟨k + 1, by omega, by go_num, by rw [HN.out]; go_num, hbel.alloc (by exact hbel.size) _⟩
          case measure => simp [intOf]; omega
      · clear hc
        go_wp2
        go_ret
        exact ⟨ret_bool (by rw [List.take_of_length_le (by omega), int_eq]; rw [Bool.eq_iff_iff]; simp; omega), hbel⟩

end Go.Proofs.Ytjjakgmjoplhoaa
/-
  Canonical texts: the two readers' rounds, as plain facts.
-/
namespace Go.Proofs.Ytjjakgmjoplhoaa
open Go.RowKit
namespace Rl

theorem canOk_false_whole (t : ByteArray) (last : Int) (h : wholeZ 2 t = false) : canOk t last = false := by simp [canOk, h]
theorem canOk_false_last (t : ByteArray) (last : Int) (h : ((headC t).kind : Int) ≤ last) : canOk t last = false := by
  unfold canOk
  have : decide (last < ((headC t).kind : Int)) = false := by simp; omega
  simp [this]
theorem canOk_false_at (t : ByteArray) (last : Int) (h : atOk (headC t).flags (headC t).kind (headC t).val = false) : canOk t last = false := by
  simp [canOk, h]
theorem canOk_true (t : ByteArray) (last : Int) (h1 : wholeZ 2 t = true) (h2 : last < ((headC t).kind : Int)) (h3 : atOk (headC t).flags (headC t).kind (headC t).val = true) : canOk t last = true := by
  simp [canOk, h1, h2, h3]

/-- what has been read of s: xs, and t is left behind a type 'last'. -/
def ReadTo (s t : ByteArray) (last : Int) (xs : List At) : Prop := canR s (-1) = (canR t last).map (xs ++ ·)

theorem readTo_start (s : ByteArray) : ReadTo s s (-1) [] := by
  unfold ReadTo; cases canR s (-1) <;> simp

theorem readTo_fail {s t : ByteArray} {last : Int} {xs : List At} (h : ReadTo s t last xs) (h0 : ¬ t.size = 0) (o : canOk t last = false) : canB s = false :=
  canB_none (by rw [h, canR_bad t last h0 o]; rfl)

theorem readTo_step {s t : ByteArray} {last : Int} {xs : List At} (h : ReadTo s t last xs) (o : canOk t last = true) : ReadTo s (restC t) (headC t).kind (xs ++ [headC t]) := by
  unfold ReadTo at *
  rw [h, canR_step t last o, Option.map_map]
  congr 1
  funext l
  simp

theorem readTo_end {s t : ByteArray} {last : Int} {xs : List At} (h : ReadTo s t last xs) (h0 : t.size = 0) : canB s = (needN xs == 3) ∧ canL s = xs := by
  have e : canR s (-1) = some xs := by rw [h, canR_nil t last h0]; simp
  exact ⟨canB_some e, canL_some e⟩

theorem restC_size (t : ByteArray) (h : wholeZ 2 t = true) : (restC t).size + 4 ≤ t.size := by
  unfold wholeZ at h
  rw [decide_eq_true_iff] at h
  unfold restC restZ; rw [ByteArray.size_extract]; omega

theorem headC_val (t : ByteArray) : (headC t).val.size ≤ t.size := by
  unfold headC headZ; simp only; rw [ByteArray.size_extract]; omega

theorem headC_kind (t : ByteArray) : (headC t).kind < 256 := at8_lt _ _
theorem headC_flags (t : ByteArray) : (headC t).flags < 256 := at8_lt _ _

end Rl
end Go.Proofs.Ytjjakgmjoplhoaa
/-
  message.readCanonical, walked: the attributes of a canonical text; false, if it is none.
-/
namespace Go.Proofs.Ytjjakgmjoplhoaa
open Go.RowKit
open Rl

theorem info_attr : (Try.prog.info? 104).map (fun i => (i.zero, i.size, i.bytes)) = some (some (.agg #[.int .i64 0, .int .i64 0, .string ⟨#[]⟩]), 3, 32) := by kernel_rfl

set_option maxRecDepth 20000 in
set_option maxHeartbeats 1600000 in
theorem readCanonical_any (s : ByteArray) (w : World) (hs : s.size ≤ 1048576) :
    Calls Try.prog 58 #[.string s] w fun e w' => ∃ v, e = .returned (.tuple #[v, .bool (canB s)]) ∧ Below w.heap.size w w' ∧ (canB s = true → w'.ownsRow w.heap.size 104 3 v (canL s).length (atCells (canL s)) ∧ (canL s).length ≤ s.size) := by
  obtain ⟨i0, hi, hz0, hz1, hz2⟩ := info_parts info_attr
  go_enter Try.func58, Try.ntmps58
  go_wp2
  go_loopw [0, 4, 5] (fun x l p wr => ∃ (t : ByteArray) (last : Int) (xs : List At) (lv : Value), lv = l ∧ x = .string t ∧ p = .int .i64 last ∧ -1 ≤ last ∧ last < 256 ∧ t.size + 4 * xs.length ≤ s.size ∧ ReadTo s t last xs ∧ wr.ownsRow w.heap.size 104 3 lv xs.length (atCells xs) ∧ Below w.heap.size w wr) (fun x _ _ _ => strLen x)
  case atStart => exact ⟨s, -1, [], _, rfl, rfl, rfl, by omega, by omega, by simp, readTo_start s, World.ownsRow_nil _ _ _ _, Below.refl _ _⟩
  case round =>
    obtain ⟨t, last, xs, lv, rfl, rfl, rfl, hl0, hl1, hsz, hread, hown, hbel⟩ := hrel
    have HR := hide hread
    clear hread
    have htm : t.size ≤ maxLen := by unfold maxLen; omega
    by_cases h0 : t.size = 0
    · have hem : t.toList.isEmpty = true := by rw [isEmpty_size]; simp [h0]
      have HE := hide (readTo_end HR.out h0)
      clear h0
      go_wp2_with (go_at_call 81; refine (hasNeeded_any _ xs _ (by omega) (rowAt_of_owns hown)).mono ?_; rintro e w' ⟨rfl, hb2⟩)
      go_ret2
      refine ⟨lv, ?_, later_below hbel hb2 hbel.size, fun _ => ?_⟩
      · rw [HE.out.1]; rfl
      · rw [HE.out.2]; exact ⟨owns_later hown hb2, by omega⟩
    · have hem : t.toList.isEmpty = false := by rw [isEmpty_size]; simp [h0]
      have H0 := hide h0
      clear h0
      cases hw : wholeZ 2 t with
      | false =>
        have HB := hide (readTo_fail HR.out H0.out (canOk_false_whole t last hw))
        go_wp2_with (go_at_call 74; refine (cut_none t 2 _ htm (by omega) hw).mono ?_; rintro e w' ⟨rfl, hb2⟩)
        go_ret2
        refine ⟨.slice none 0 0, ?_, (later_below hbel hb2 hbel.size).alloc (Nat.le_trans hbel.size hb2.size) _, fun h => ?_⟩
        · rw [HB.out]; rfl
        · rw [HB.out] at h; exact absurd h (by simp)
      | true =>
        have hrs := restC_size t hw
        have hcut := fun w => cut_some t 2 w htm (by omega) hw
        change ∀ w, Calls Try.prog 74 #[.string t, .int .i64 2] w fun e w' => e = .returned (.tuple #[.agg #[.int .i64 ((headC t).flags : Int), .int .i64 ((headC t).kind : Int), .string (headC t).val], .string (restC t), .bool true]) ∧ Below w.heap.size w w' at hcut
        have hv := headC_val t
        have hk := headC_kind t
        by_cases hlast : ((headC t).kind : Int) ≤ last
        · have HB := hide (readTo_fail HR.out H0.out (canOk_false_last t last hlast))
          generalize headC t = a at *
          clear hrs
          generalize restC t = r at *
          go_wp2_with (go_at_call 74; refine (hcut _).mono ?_; rintro e w' ⟨rfl, hb2⟩)
          go_ret2
          refine ⟨.slice none 0 0, ?_, (later_below hbel hb2 hbel.size).alloc (Nat.le_trans hbel.size hb2.size) _, fun h => ?_⟩
          · rw [HB.out]; rfl
          · rw [HB.out] at h; exact absurd h (by simp)
        · cases hok : atOk (headC t).flags (headC t).kind (headC t).val with
          | false =>
            have HB := hide (readTo_fail HR.out H0.out (canOk_false_at t last hok))
            have hcan := fun w => isCanonical_any (headC t).flags (headC t).kind (headC t).val w (by unfold maxLen; omega)
            rw [hok] at hcan
            clear hok
            generalize headC t = a at *
            clear hrs
            generalize restC t = r at *
            go_wp2_with (first | (go_at_call 74; refine (hcut _).mono ?_; rintro e w' ⟨rfl, hb2⟩) | (go_at_call 83; refine (hcan _).mono ?_; rintro e w'' ⟨rfl, hb3⟩))
            go_ret2
            refine ⟨.slice none 0 0, ?_, later_below ((later_below hbel hb2 hbel.size).alloc (Nat.le_trans hbel.size hb2.size) _) hb3 (by simp; exact Nat.le_succ_of_le (Nat.le_trans hbel.size hb2.size)), fun h => ?_⟩
            · rw [HB.out]; rfl
            · rw [HB.out] at h; exact absurd h (by simp)
          | true =>
            have HT := hide (readTo_step HR.out (canOk_true t last hw (by omega) hok))
            have hcan := fun w => isCanonical_any (headC t).flags (headC t).kind (headC t).val w (by unfold maxLen; omega)
            rw [hok] at hcan
            clear hok
            generalize headC t = a at *
            generalize restC t = r at *
            go_wp2_with (go_at_call 74; refine (hcut _).mono ?_; rintro e w' ⟨rfl, hb2⟩)
            refine (hcan _).mono ?_
            rintro e w2 ⟨rfl, hb3⟩
            obtain ⟨k1, k2, k3, k4⟩ := new3 hb3
            have hown2 := owns_later ((owns_later hown hb2).alloc _) hb3
            have hbel2 : Below w.heap.size w w2 := later_below ((later_below hbel hb2 hbel.size).alloc (Nat.le_trans hbel.size hb2.size) _) hb3 (by simp; exact Nat.le_succ_of_le (Nat.le_trans hbel.size hb2.size))
            have hne := own_ne (owns_later hown hb2) w'.heap.size (Nat.le_refl _)
            clear hown hbel hb2 hb3 hcan hcut
            go_wp2_with (at_builtin; refine wpList_append_own _ rfl _ _ 86 rfl w.heap.size 104 i0 (.agg #[.int .i64 0, .int .i64 0, .string ⟨#[]⟩]) 3 32 Try.underlying86 hi hz0 hz1 hz2 rfl (by decide) _ _ _ rfl (hown2.alloc _) ⟨w2.heap.size, 0, none⟩ 1 1 [.int .i64 (a.flags : Int), .int .i64 (a.kind : Int), .string a.val] rfl rfl (cells_new _ _ _) ?c2 ?c3 ?c4 ?c5 ?_)
            case c2 => intro u hu; simp at hu; rcases hu with rfl | rfl | rfl <;> rfl
            case c3 => unfold maxLen; omega
            case c4 => omega
            case c5 => have := hbel2.size; simp; omega
            intro v' w4 hown4 hgrow4 _
            have q2 := grown_cell hgrow4 k2 hne
            have hbel4 := below_app hbel2 hbel2.size hown2 hgrow4
            clear hgrow4 hown2 hbel2 k1 k2 k3 k4
            go_wp2
            go_quiet (fail)
            go_wp2
            refine ⟨⟨r, a.kind, xs ++ [a], v', rfl, rfl, rfl, by omega, by omega, by simp; omega, HT.out, ?_, below_drewN hbel4 _⟩, by simp only [strLen]; omega⟩
            rw [List.length_append, atCells_snoc]
            exact owns_drewN hown4 _

end Go.Proofs.Ytjjakgmjoplhoaa
/-
  What Announce answers, as a plain function of the attributes' text and the prefixes.
-/
namespace Go.Proofs.Ytjjakgmjoplhoaa
open Go.RowKit
namespace Rl

/-- an attribute's bytes, its value's length in z bytes. -/
def atBytes (f k z : Nat) (v : ByteArray) : List UInt8 := be 1 f ++ (be 1 k ++ (be z v.size ++ v.data.toList))

theorem atBytes_length (f k z : Nat) (v : ByteArray) : (atBytes f k z v).length = 2 + z + v.size := by
  simp [atBytes, be_length]; omega

/-- an attribute as an update has it: its flags have 16 more just if its value has more than 255 bytes. -/
def atWire (a : At) : List UInt8 := if a.val.size ≤ 255 then atBytes a.flags a.kind 1 a.val else atBytes (a.flags + 16) a.kind 2 a.val

theorem atWire_length (a : At) : (atWire a).length ≤ 4 + a.val.size := by
  unfold atWire; split <;> rw [atBytes_length] <;> omega

/-- an attribute of a canonical text of at most m bytes. -/
def atFine (m : Nat) (a : At) : Prop := a.flags < 240 ∧ a.flags / 16 % 2 = 0 ∧ a.kind < 256 ∧ a.val.size ≤ m

theorem atOk_flags (f k : Nat) (v : ByteArray) (h : atOk f k v = true) : f < 240 ∧ f / 16 % 2 = 0 := by
  unfold atOk at h
  cases hk : knownB k with
  | true =>
    rw [if_pos hk, Bool.and_eq_true] at h
    have h1 := of_decide_eq_true h.1
    rcases flagsI_known k hk with e | e | e <;> rw [e] at h1 <;> omega
  | false =>
    rw [if_neg (by simp [hk])] at h
    have h1 := of_decide_eq_true h
    omega

theorem canF_fine : ∀ (f : Nat) (t : ByteArray) (last : Int) (l : List At), canF f t last = some l → (∀ a ∈ l, atFine t.size a) ∧ (l.flatMap atWire).length ≤ t.size := by
  intro f; induction f with
  | zero => intro t last l h; simp [canF] at h
  | succ f ih =>
    intro t last l h
    simp only [canF] at h
    by_cases h0 : t.size = 0
    · rw [if_pos h0] at h; cases h; exact ⟨by simp, by simp⟩
    · rw [if_neg h0] at h
      by_cases ho : canOk t last = true
      · rw [if_pos ho] at h
        cases hr : canF f (restC t) (headC t).kind with
        | none => rw [hr] at h; simp at h
        | some r =>
          rw [hr] at h
          simp at h
          subst h
          obtain ⟨h1, h2⟩ := ih _ _ _ hr
          unfold canOk at ho
          rw [Bool.and_eq_true, Bool.and_eq_true] at ho
          have hw := ho.1.1
          have hs := restC_size t hw
          have hfl := atOk_flags _ _ _ ho.2
          have hvs : (headC t).val.size + 4 + (restC t).size ≤ t.size := by
            unfold wholeZ at hw
            rw [decide_eq_true_iff] at hw
            have e1 : (headC t).val.size ≤ lenZ 2 t := by unfold headC headZ; simp only; rw [ByteArray.size_extract]; omega
            have e2 : (restC t).size = t.size - (2 + 2 + lenZ 2 t) := by unfold restC restZ; rw [ByteArray.size_extract]; omega
            omega
          refine ⟨?_, ?_⟩
          · intro a ha
            rcases List.mem_cons.1 ha with rfl | ha
            · exact ⟨hfl.1, hfl.2, headC_kind t, headC_val t⟩
            · obtain ⟨g1, g2, g3, g4⟩ := h1 a ha
              exact ⟨g1, g2, g3, by omega⟩
          · rw [List.flatMap_cons, List.length_append]
            have := atWire_length (headC t)
            omega
      · rw [if_neg ho] at h; simp at h

theorem canL_fine (s : ByteArray) : (∀ a ∈ canL s, atFine s.size a) ∧ ((canL s).flatMap atWire).length ≤ s.size := by
  unfold canL
  cases h : canR s (-1) with
  | none => exact ⟨by simp, by simp⟩
  | some l => exact canF_fine _ _ _ _ h

/-- the attributes' bytes in an update. -/
def annA (s : ByteArray) : List UInt8 := (canL s).flatMap atWire

/-- prefixes as naturals. -/
def pfNats (l : List (Int × Int)) : List (Nat × Nat) := l.map fun p => (p.1.toNat, p.2.toNat)

theorem pfNats_length (l : List (Int × Int)) : (pfNats l).length = l.length := by simp [pfNats]

theorem pfNats_ints (l : List (Int × Int)) (h : pfAll l = true) : pfInts (pfNats l) = l := by
  unfold pfAll at h
  rw [List.all_eq_true] at h
  unfold pfInts pfNats
  rw [List.map_map]
  conv => rhs; rw [← List.map_id l]
  apply List.map_congr_left
  intro p hp
  obtain ⟨h0, h1, h2, h3⟩ := pfxOk_bounds _ _ (h p hp)
  simp only [Function.comp, id]
  rw [Int.toNat_of_nonneg h2, Int.toNat_of_nonneg h0]

theorem pfNats_bounds (l : List (Int × Int)) (h : pfAll l = true) : ∀ p ∈ pfNats l, p.1 ≤ 4294967295 ∧ p.2 ≤ 32 := by
  intro p hp
  unfold pfNats at hp
  rw [List.mem_map] at hp
  obtain ⟨q, hq, rfl⟩ := hp
  unfold pfAll at h
  rw [List.all_eq_true] at h
  obtain ⟨h0, h1, h2, h3⟩ := pfxOk_bounds _ _ (h q hq)
  simp only
  omega

/-- the content of the update. -/
def annC (s : ByteArray) (l : List (Int × Int)) : List UInt8 := be 2 0 ++ (be 2 (annA s).length ++ (annA s ++ pfWire (pfNats l)))

/-- a message of a type with its content. -/
def msgOf (k : Nat) (c : List UInt8) : List UInt8 := mark16 ++ (be 2 (19 + c.length) ++ (be 1 k ++ c))

theorem msgOf_length (k : Nat) (c : List UInt8) : (msgOf k c).length = 19 + c.length := by
  simp [msgOf, mark16, be_length]; omega

def annOk (s : ByteArray) (l : List (Int × Int)) : Bool := canB s && (!l.isEmpty && pfAll l)

def annM (s : ByteArray) (l : List (Int × Int)) : List UInt8 :=
  if annOk s l = true then (if 200 < 19 + (annC s l).length then [] else msgOf 2 (annC s l)) else []
def annE (s : ByteArray) (l : List (Int × Int)) : Int :=
  if annOk s l = true then (if 200 < 19 + (annC s l).length then 4 else 0) else 5

theorem ann_bad (s : ByteArray) (l : List (Int × Int)) (h : annOk s l = false) : annM s l = [] ∧ annE s l = 5 := by
  unfold annM annE; rw [if_neg (by simp [h]), if_neg (by simp [h])]; exact ⟨rfl, rfl⟩

theorem ann_long (s : ByteArray) (l : List (Int × Int)) (h : annOk s l = true) (h2 : 200 < 19 + (annC s l).length) : annM s l = [] ∧ annE s l = 4 := by
  unfold annM annE; rw [if_pos h, if_pos h, if_pos h2, if_pos h2]; exact ⟨rfl, rfl⟩

theorem ann_good (s : ByteArray) (l : List (Int × Int)) (h : annOk s l = true) (h2 : ¬ 200 < 19 + (annC s l).length) : annM s l = msgOf 2 (annC s l) ∧ annE s l = 0 := by
  unfold annM annE; rw [if_pos h, if_pos h, if_neg h2, if_neg h2]; exact ⟨rfl, rfl⟩

theorem annOk_can (s : ByteArray) (l : List (Int × Int)) (h : canB s = false) : annOk s l = false := by simp [annOk, h]
theorem annOk_nil (s : ByteArray) : annOk s [] = false := by simp [annOk]
theorem annOk_all (s : ByteArray) (l : List (Int × Int)) (h : pfAll l = false) : annOk s l = false := by simp [annOk, h]
theorem annOk_yes (s : ByteArray) (l : List (Int × Int)) (h : canB s = true) (h0 : l.length ≠ 0) (h1 : pfAll l = true) : annOk s l = true := by
  cases l with
  | nil => simp at h0
  | cons p l => simp [annOk, h, h1]

theorem pfWire_nats_le (l : List (Int × Int)) (h : pfAll l = true) : (pfWire (pfNats l)).length ≤ 5 * l.length := by
  have := pfWire_le (pfNats l) fun p hp => (pfNats_bounds l h p hp).2
  rwa [pfNats_length] at this

theorem annC_length (s : ByteArray) (l : List (Int × Int)) : (annC s l).length = 4 + (annA s).length + (pfWire (pfNats l)).length := by
  simp [annC, be_length]; omega

end Rl
end Go.Proofs.Ytjjakgmjoplhoaa
/-
  An append of a text's bytes as one step of a region that draws its order. Nothing of the program is named here.
-/
namespace Go.Proofs.Ytjjakgmjoplhoaa

theorem step_append_string {P : Program} {ops : Array Oper} {o : Oper} {a : Act} {w : World} {K : Act → World → Prop} {Q : Exit → Act → World → Prop} {E : Prop}
    (hg : o.guard = none) (s x : Operand) (t u : TypeId) (hop : o.op = Op.call { callee := Callee.builtin Builtin.append, args := #[s, x], argTypes := #[t, u] })
    (base : Nat) (e : TypeId) (i : TypeInfo) (ht : P.underlying t = some (.slice e)) (hu : P.underlying u = some .string) (hi : P.info? e = some i) (hz : i.zero = some (.int .u8 0))
    (hsize : i.size = 1) (hby : i.bytes = 1)
    (v : Value) (n : Nat) (xs : List Value) (hs : a.eval s = v) (hown : w.ownsRow base e 1 v n xs) (b : ByteArray) (hx : a.eval x = .string b)
    (h63 : n + b.size ≤ maxLen) (hbytes : n + b.size ≤ 140737488355328) (hbase : base ≤ w.heap.size)
    (hK : ∀ v' w', w'.ownsRow base e 1 v' (n + b.size) (xs ++ Lib.strCells b) → w.grownBy w' v.ownBlock → K (a.put o.dst v') w') :
    if Region.wanted o (yielded ops a.tmps) = true then Oper.wp P o a w K Q else E := by
  have hw : Region.wanted o (yielded ops a.tmps) = true := by simp [Region.wanted, hg]
  rw [if_pos hw]
  obtain ⟨v', w', hr, h2, h3, _⟩ := Lib.run_append_own_string (P := P) w base t u o.type e i ht hu hi hz hsize hby v n xs hown b h63 hbytes hbase
  unfold Oper.wp
  simp [execOp, hop, resolve, invoke, builtin, hs, hx, hr, Result.andThen]
  exact hK v' w' h2 h3

/-- an append onto a row of the call's own, as one step of a region that draws its order. -/
theorem step_append_own {P : Program} {ops : Array Oper} {o : Oper} {a : Act} {w : World} {K : Act → World → Prop} {Q : Exit → Act → World → Prop} {E : Prop}
    (hg : o.guard = none) (s x : Operand) (t : TypeId) (hop : o.op = Op.call { callee := Callee.builtin Builtin.append, args := #[s, x], argTypes := #[t, t] })
    (base : Nat) (e : TypeId) (i : TypeInfo) (z : Value) (size bytes : Nat) (ht : P.underlying t = some (.slice e)) (hi : P.info? e = some i) (hz : i.zero = some z)
    (hsize : i.size = size) (hby : i.bytes = bytes) (hzs : z.cells.size = size) (hsz : 0 < size)
    (v : Value) (n : Nat) (xs : List Value) (hs : a.eval s = v) (hown : w.ownsRow base e size v n xs)
    (ad : Addr) (m c : Nat) (news : List Value) (hx : a.eval x = .slice (some ad) m c) (hl : news.length = m * size) (hnews : ∀ j u, news[j]? = some u → w.cell? (ad.add j) = some u) (h1 : ∀ u ∈ news, u.oneCell' = true)
    (h63 : n + m ≤ maxLen) (hbytes : (n + m) * bytes ≤ 140737488355328) (hbase : base ≤ w.heap.size)
    (hK : ∀ v' w', w'.ownsRow base e size v' (n + m) (xs ++ news) → w.grownBy w' v.ownBlock → K (a.put o.dst v') w') :
    if Region.wanted o (yielded ops a.tmps) = true then Oper.wp P o a w K Q else E := by
  have hw : Region.wanted o (yielded ops a.tmps) = true := by simp [Region.wanted, hg]
  rw [if_pos hw]
  obtain ⟨v', w', hr, h2, h3, _⟩ := run_append_own (P := P) w base t o.type e i z size bytes ht hi hz hsize hby hzs hsz v n xs hown ad m c news hl hnews h1 h63 hbytes hbase
  unfold Oper.wp
  simp [execOp, hop, resolve, invoke, builtin, hs, hx, hr, Result.andThen]
  exact hK v' w' h2 h3

open Rl

/-- 'string(b)' of a row of bytes of the call's own. -/
theorem run_convert_own {P : Program} {w : World} {base : Nat} {e : TypeId} {v : Value} {n : Nat} {xs : List UInt8} (src dst : TypeId) (hs : P.underlying src = some (.slice e)) (he : P.underlying e = some (.int .u8)) (hd : P.underlying dst = some .string)
    (h : w.ownsRow base e 1 v n (u8s xs)) : (convert src dst v).run P w = .ok (.string ⟨xs.toArray⟩) w := by
  have hl : xs.length = n := by have := h.1; rw [u8s_length] at this; omega
  rcases h.2 with ⟨rfl, rfl⟩ | ⟨g, cap, cur, rfl, _⟩
  · have e0 : xs = [] := List.eq_nil_of_length_eq_zero hl
    subst e0
    exact Lib.run_convert_nil_bytes (P := P) w src dst e 0 hs he hd
  · subst hl
    exact run_convert_bytes_back (P := P) w src dst e ⟨g, 0, none⟩ cap xs hs he hd (by
      intro j hj
      rw [add_head, h.cellAt j (by omega), u8s_get _ _ hj])

theorem strCells_u8s (b : ByteArray) : Lib.strCells b = u8s b.data.toList := rfl

end Go.Proofs.Ytjjakgmjoplhoaa
