/-
  slices.SortFunc at what is kept of attributes: at none, and at some.
-/
import Derived.Test.YteoacdkgicfomaaShelf
import Derived.Test.YteoacdkgicfomaaSortShelf
import Derived.Test.YteoacdkgicfomaaSortOwn
import Derived.Test.YteoacdkgicfomaaRowAt
namespace Go.Proofs.Yteoacdkgicfomaa
open Go.RowKit Go.Sort
open Rl

theorem insertion_none (p : Option Addr) (cap : Nat) (fv : Value) (w : World) :
    Calls Try.prog 98 #[.slice p 0 cap, .int .i64 0, .int .i64 0, fv] w fun e w' => e = .returned (.tuple #[]) ∧ w' = w := by
  go_enter Try.func98, Try.ntmps98
  go_wp2
  refine wp_loop_rounds 1 ?_
  rw [rounds_succ]
  go_wp2
  go_end0
  exact ⟨rfl, rfl⟩

theorem pdq_none (p : Option Addr) (cap : Nat) (lim : Int) (fv : Value) (w : World) :
    Calls Try.prog 92 #[.slice p 0 cap, .int .i64 0, .int .i64 0, .int .i64 lim, fv] w fun e w' => e = .returned (.tuple #[]) ∧ w' = w := by
  go_enter Try.func92, Try.ntmps92
  go_wp2
  refine wp_loop_rounds 1 ?_
  rw [rounds_succ]
  go_wp2_with (go_at_call 98; refine (insertion_none p cap fv _).mono ?_; rintro e w' ⟨rfl, hw⟩; rw [hw]; clear hw w')
  (try simp only [Exit.inBlock, Exit.then]); refine bodyPost_ret (results_none rfl _ _ _) rfl ?_
  exact ⟨rfl, rfl⟩

theorem sort_none (p : Option Addr) (cap : Nat) (fv : Value) (w : World) :
    Calls Try.prog 78 #[.slice p 0 cap, fv] w fun e w' => e = .returned (.tuple #[]) ∧ w' = w := by
  go_enter Try.func78, Try.ntmps78
  go_wp2_with (first | (go_at_call 93; refine (Try.bits_Len 0 _ (by omega) (by omega)).mono ?_; rintro e w' ⟨rfl, hw⟩; rw [hw]; clear hw w') | (go_at_call 92; refine (pdq_none p cap _ fv _).mono ?_; rintro e w' ⟨rfl, hw⟩; rw [hw]; clear hw w'))
  go_end0
  exact ⟨rfl, rfl⟩

set_option maxHeartbeats 1000000 in
theorem cmpAt_any (x y : At) (W : World) : Calls Try.prog 79 #[.agg (encAt x).toArray, .agg (encAt y).toArray] W fun e w' => e = .returned (.int .i64 (cmpAt x y)) ∧ ∃ q os', w' = grow (W.drewN q) os' := by
  have hcon := fun W' => Try.cmp_Compare_int x.kind y.kind W'
  unfold cmpAt
  generalize Lib.compareInt (x.kind : Int) (y.kind : Int) = r at hcon ⊢
  unfold encAt
  go_enter Try.func79, Try.ntmps79
  go_wp2_with (go_at_call 80; refine (hcon _).mono ?_; rintro e w' ⟨rfl, rfl⟩)
  go_ret
  exact ⟨rfl, 0, _, by rw [alloc_eq_grow, alloc_eq_grow, grow_grow]; rfl⟩

/-- the row, in the order of the types; no type is there twice. -/
theorem sort_any (B : Nat) (v : Value) (l : List At) (w : World) (hl : l.length ≤ 1048576) (ho : (l.map (·.kind)).Nodup) (hown : w.ownsRow B 104 3 v l.length (atCells l)) :
    Calls Try.prog 78 #[v, .func (.func 79) #[] #[]] w fun e w' => e = .returned (.tuple #[]) ∧ ∃ l', l'.Perm l ∧ ByKind l' ∧ w'.ownsRow B 104 3 v l'.length (atCells l') ∧ Below B w w' := by
  have hcase := hown.2
  rcases hcase with ⟨rfl, hn⟩ | ⟨g, cap, cur, rfl, hg, hh, hnc, hcm, _, _⟩
  · have hn0 : l = [] := List.eq_nil_of_length_eq_zero hn
    subst hn0
    refine (sort_none none 0 _ w).mono ?_
    rintro e w' ⟨he, hw⟩
    rw [hw]
    exact ⟨he, [], List.Perm.refl _, List.Pairwise.nil, hown, Below.refl _ _⟩
  · have hlt : g < w.heap.size := (Array.getElem?_eq_some_iff.1 hh).1
    have eg : ∀ args w, (callFunc 79 args).run Try.prog w = .ok (.enter 79 args) w := enters_of Try.func79 (by kernel_rfl) rfl
    have hcon := AnyQ.slices_SortFunc Try.laysSort6 3 Try.isAgg104 Try.sizeOf104 encAt (fun _ => rfl) (fun x v hv => by simp [encAt] at hv; rcases hv with rfl | rfl | rfl <;> rfl) cmpAt cmpAt_swo 79 #[] g 0 cap l.toArray w eg (fun _ _ _ _ x y => cmpAt_any x y _) (holds_of_owns hown rfl) hlt (by simp; omega)
    change Calls Try.prog 78 _ _ _ at hcon
    rw [show l.toArray.size = l.length from by simp] at hcon
    refine hcon.mono ?_
    rintro e w' ⟨he, d', n, os, hp, hs, hw⟩
    obtain ⟨h1, h2⟩ := sorted_ord l d' ho (by simpa using hp) (by simpa using hs)
    have hlen : d'.toList.length = l.length := h1.length_eq
    refine ⟨he, d'.toList, h1, h2, ?_, ?_⟩
    · rw [hw, hlen]
      exact owns_sorted hown n d' os (by simpa using hlen)
    · rw [hw]; exact below_sorted hg hlt n d' os

end Go.Proofs.Yteoacdkgicfomaa
