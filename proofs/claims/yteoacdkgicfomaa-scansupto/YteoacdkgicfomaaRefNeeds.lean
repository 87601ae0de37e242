/-
  routelogref's needs, walked, over the table by type.
-/
import Derived.Test.YteoacdkgicfomaaTakes
import Derived.Test.YteoacdkgicfomaaAkSort
namespace Go.Proofs.Yteoacdkgicfomaa
open Go.RowKit
open Rl

theorem needs_any (b : Nat) (fl : Nat → Int) (vl : Nat → ByteArray) (sn : Nat → Bool) (sp en : Bool) (w : World) (hK : KeptAt w b fl vl sn sp en) :
    Calls Try.prog 39 #[.pointer (some ⟨b, 0, none⟩)] w fun e w' => e = .returned (.bool (decide (fl 1 < 0) || decide (fl 2 < 0) || decide (fl 3 < 0))) ∧ w' = w := by
  have c1 := hK.flag 1 (by omega)
  have c2 := hK.flag 2 (by omega)
  have c3 := hK.flag 3 (by omega)
  clear hK
  generalize fl 1 = f1 at *
  generalize fl 2 = f2 at *
  generalize fl 3 = f3 at *
  by_cases h1 : f1 < 0
  · have e1 : decide (f1 < 0) = true := decide_eq_true h1
    rw [e1]
    go_enter Try.func39, Try.ntmps39
    go_wp2
    go_ret
    exact ⟨ret_bool (by simp), rfl⟩
  · have e1 : decide (f1 < 0) = false := decide_eq_false h1
    rw [e1]
    by_cases h2 : f2 < 0
    · have e2 : decide (f2 < 0) = true := decide_eq_true h2
      rw [e2]
      go_enter Try.func39, Try.ntmps39
      go_wp2
      go_ret
      exact ⟨ret_bool (by simp), rfl⟩
    · have e2 : decide (f2 < 0) = false := decide_eq_false h2
      rw [e2]
      go_enter Try.func39, Try.ntmps39
      go_wp2
      go_ret
      exact ⟨ret_bool (by simp), rfl⟩

end Go.Proofs.Yteoacdkgicfomaa
