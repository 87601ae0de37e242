/-
  What the bound of the second form gives: of a text and a slice that are handed over together.
-/
import Derived.Test.YtikigkkkggclhaaRows
namespace Go.Proofs.Ytikigkkkggclhaa
namespace Rl

theorem bulk_pos {H : Type} (d : DataW H) : 1 ≤ Rows.uptoBulk d := by
  cases d with
  | lit l => cases l <;> simp [Rows.uptoBulk]
  | nil => simp [Rows.uptoBulk]
  | ptr d => simp [Rows.uptoBulk]
  | slice elems spare => simp [Rows.uptoBulk]
  | agg parts => simp [Rows.uptoBulk]
  | iface t d => simp [Rows.uptoBulk]
  | map entries => simp [Rows.uptoBulk]
  | held h => simp [Rows.uptoBulk]

theorem bulk_len {H : Type} (l : List (DataW H)) : l.length ≤ Rows.uptoBulkAll l := by
  induction l with
  | nil => simp [Rows.uptoBulkAll]
  | cons x r ih => have := bulk_pos x; simp only [Rows.uptoBulkAll, List.length_cons]; omega

theorem bulk_bound {H : Type} {l : List (DataW H)} (hk : Rows.uptoSmall H l = true) : Rows.uptoBulkAll l ≤ 1048576 := of_decide_eq_true hk

theorem bulk_string {H : Type} (b : List UInt8) (r : List (DataW H)) (h : Rows.uptoBulkAll (DataW.lit (.string b) :: r) ≤ 1048576) : b.length ≤ 1048576 ∧ Rows.uptoBulkAll r ≤ 1048576 := by
  simp only [Rows.uptoBulkAll, Rows.uptoBulk] at h; omega

theorem bulk_slice {H : Type} (es sp : List (DataW H)) (r : List (DataW H)) (h : Rows.uptoBulkAll (DataW.slice es sp :: r) ≤ 1048576) : es.length ≤ 1048576 := by
  simp only [Rows.uptoBulkAll, Rows.uptoBulk] at h
  have := bulk_len es
  omega

end Rl
end Go.Proofs.Ytikigkkkggclhaa
