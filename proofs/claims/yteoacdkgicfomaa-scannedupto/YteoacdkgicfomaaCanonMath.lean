/-
  Canonical texts: the two readers' rounds, as plain facts.
-/
import Derived.Test.YteoacdkgicfomaaAttrMath
namespace Go.Proofs.Yteoacdkgicfomaa
open Go.RowKit
namespace Rl

theorem canOk_false_whole (t : ByteArray) (last : Int) (h : wholeZ 2 t = false) : canOk t last = false := by simp [canOk, h]
theorem canOk_false_last (t : ByteArray) (last : Int) (h : ((headC t).kind : Int) ≤ last) : canOk t last = false := by
  unfold canOk
  have : decide (last < ((headC t).kind : Int)) = false := by simp; omega
  simp [this]
theorem canOk_false_at (t : ByteArray) (last : Int) (h : atOk (headC t).flags (headC t).kind (headC t).val = false) : canOk t last = false := by
  simp [canOk, h]
theorem canOk_true (t : ByteArray) (last : Int) (h1 : wholeZ 2 t = true) (h2 : last < ((headC t).kind : Int)) (h3 : atOk (headC t).flags (headC t).kind (headC t).val = true) : canOk t last = true := by
  simp [canOk, h1, h2, h3]

/-- what has been read of s: xs, and t is left behind a type 'last'. -/
def ReadTo (s t : ByteArray) (last : Int) (xs : List At) : Prop := canR s (-1) = (canR t last).map (xs ++ ·)

theorem readTo_start (s : ByteArray) : ReadTo s s (-1) [] := by
  unfold ReadTo; cases canR s (-1) <;> simp

theorem readTo_fail {s t : ByteArray} {last : Int} {xs : List At} (h : ReadTo s t last xs) (h0 : ¬ t.size = 0) (o : canOk t last = false) : canB s = false :=
  canB_none (by rw [h, canR_bad t last h0 o]; rfl)

theorem readTo_step {s t : ByteArray} {last : Int} {xs : List At} (h : ReadTo s t last xs) (o : canOk t last = true) : ReadTo s (restC t) (headC t).kind (xs ++ [headC t]) := by
  unfold ReadTo at *
  rw [h, canR_step t last o, Option.map_map]
  congr 1
  funext l
  simp

theorem readTo_end {s t : ByteArray} {last : Int} {xs : List At} (h : ReadTo s t last xs) (h0 : t.size = 0) : canB s = (needN xs == 3) ∧ canL s = xs := by
  have e : canR s (-1) = some xs := by rw [h, canR_nil t last h0]; simp
  exact ⟨canB_some e, canL_some e⟩

theorem restC_size (t : ByteArray) (h : wholeZ 2 t = true) : (restC t).size + 4 ≤ t.size := by
  unfold wholeZ at h
  rw [decide_eq_true_iff] at h
  unfold restC restZ; rw [ByteArray.size_extract]; omega

theorem headC_val (t : ByteArray) : (headC t).val.size ≤ t.size := by
  unfold headC headZ; simp only; rw [ByteArray.size_extract]; omega

theorem headC_kind (t : ByteArray) : (headC t).kind < 256 := at8_lt _ _
theorem headC_flags (t : ByteArray) : (headC t).flags < 256 := at8_lt _ _

end Rl
end Go.Proofs.Yteoacdkgicfomaa
