/-
  routelogref's text, walked, over the table by type.
-/
import Derived.Test.YteoacdkgicfomaaTakes
import Derived.Test.YteoacdkgicfomaaAkSort
import Derived.Test.YteoacdkgicfomaaToldWalks
import Derived.Test.YteoacdkgicfomaaWriteAttr
namespace Go.Proofs.Yteoacdkgicfomaa
open Go.RowKit
open Rl

theorem txt_add5 (p : List UInt8) (F kd z : Nat) (v : ByteArray) : (ByteArray.mk p.toArray) ++ (ByteArray.mk (be 1 F).toArray) ++ (ByteArray.mk (be 1 kd).toArray) ++ (ByteArray.mk (be z v.size).toArray) ++ v = ⟨(p ++ atBytes F kd z v).toArray⟩ := by
  apply bytes_ext
  rw [append_data, append_data, append_data, append_data]
  simp [atBytes]

theorem txt_size (l : List UInt8) : (ByteArray.mk l.toArray).size = l.length := by show l.toArray.size = _; simp

theorem keep2 {w wx w2 : World} {b k : Nat} {x y : Value} (hS : wx.cell? ⟨b, k, none⟩ = some x ∧ wx.cell? ⟨b, 256 + k, none⟩ = some y ∧ b < wx.heap.size ∧ Below w.heap.size w wx) (hb : Below wx.heap.size wx w2) :
    w2.cell? ⟨b, k, none⟩ = some x ∧ w2.cell? ⟨b, 256 + k, none⟩ = some y ∧ b < w2.heap.size ∧ Below w.heap.size w w2 := by
  obtain ⟨h0, h1, h2, h3⟩ := hS
  exact ⟨(hb.cell (p := ⟨b, k, none⟩) h2).trans h0, (hb.cell (p := ⟨b, 256 + k, none⟩) h2).trans h1, Nat.lt_of_lt_of_le h2 hb.size, later_below h3 hb h3.size⟩

set_option maxRecDepth 20000 in
set_option maxHeartbeats 16000000 in
theorem text_any (b : Nat) (l : List At) (sn : Nat → Bool) (sp en : Bool) (w : World) (hK : KeptAt w b (flagAt l) (valAt l) sn sp en) (hf : ∀ i, flagAt l i < 256) (hv : ∀ i, (valAt l i).size ≤ 1048576) (hsum : (canTo l 256).length ≤ 1048576) :
    Calls Try.prog 40 #[.pointer (some ⟨b, 0, none⟩)] w fun e w' => e = .returned (.string ⟨(canTo l 256).toArray⟩) ∧ Below w.heap.size w w' := by
  obtain ⟨F, hF0, hFs, hFl, hFe⟩ : ∃ F : Nat → List UInt8, F 0 = [] ∧ (∀ k, F (k + 1) = F k ++ canAt l k) ∧ (∀ k, k ≤ 256 → (F k).length ≤ (F 256).length) ∧ F 256 = canTo l 256 := ⟨canTo l, rfl, fun _ => rfl, fun k hk => canTo_le l k 256 hk, rfl⟩
  rw [← hFe] at hsum ⊢
  have HF0 := hide hF0
  have HFS := hide hFs
  have HFL := hide hFl
  clear hF0 hFs hFl hFe
  have hKf := hide (fun i (hi : i < 256) => hK.flag i hi)
  have hKv := hide (fun i (hi : i < 256) => hK.val i hi)
  have hlt := hK.lt
  clear hK
  go_enter Try.func40, Try.ntmps40
  go_wp2
  go_loopw [3, 4] (fun x i wr => ∃ k : Nat, k ≤ 256 ∧ i = .int .i64 k ∧ x = .string ⟨(F k).toArray⟩ ∧ Below w.heap.size w wr) (fun _ i _ => 256 - (intOf i).toNat)
  case atStart => exact ⟨0, by omega, rfl, by rw [HF0.out], Below.refl _ _⟩
  case round =>
    obtain ⟨k, hk, rfl, rfl, hbel⟩ := hrel
    by_cases hlt2 : k < 256
    · have c1 := (hbel.cell (p := ⟨b, k, none⟩) hlt).trans (hKf.out k hlt2)
      have c2 := (hbel.cell (p := ⟨b, 256 + k, none⟩) hlt).trans (hKv.out k hlt2)
      have hbl : b < wr.heap.size := Nat.lt_of_lt_of_le hlt hbel.size
      have hf' := hf k
      have hv' := hv k
      have hle := HFL.out k hk
      have HW := hide (HFS.out k)
      have HC : Hid (canAt l k = if 0 ≤ flagAt l k then atBytes (flagAt l k).toNat k 2 (valAt l k) else []) := rfl
      clear hf hv
      generalize F k = P at *
      generalize canAt l k = C at *
      generalize valAt l k = val at *
      generalize flagAt l k = g at *
      by_cases hg : 0 ≤ g
      · rw [if_pos hg] at HC
        obtain ⟨f, rfl⟩ : ∃ f : Nat, g = (f : Int) := ⟨g.toNat, by omega⟩
        rw [Int.toNat_natCast] at HC
        have h1 := fun w => bytes_any f 1 w (by omega) (by omega)
        have h2 := fun w => bytes_any k 1 w (by omega) (by omega)
        have h3 := fun w => bytes_any val.size 2 w (by omega) (by omega)
        have HS := hide (txt_add5 P f k 2 val)
        have z1 := txt_size (be 1 f)
        have z2 := txt_size (be 1 k)
        have z3 := txt_size (be 2 val.size)
        have z4 := txt_size P
        rw [be_length] at z1 z2 z3
        obtain ⟨U1, e1⟩ : ∃ U : ByteArray, U = ⟨(be 1 f).toArray⟩ := ⟨_, rfl⟩
        obtain ⟨U2, e2⟩ : ∃ U : ByteArray, U = ⟨(be 1 k).toArray⟩ := ⟨_, rfl⟩
        obtain ⟨U3, e3⟩ : ∃ U : ByteArray, U = ⟨(be 2 val.size).toArray⟩ := ⟨_, rfl⟩
        obtain ⟨U4, e4⟩ : ∃ U : ByteArray, U = ⟨P.toArray⟩ := ⟨_, rfl⟩
        rw [← e1] at h1
        rw [← e2] at h2
        rw [← e3] at h3
        rw [← e1, ← e2, ← e3, ← e4] at HS
        rw [← e1] at z1
        rw [← e2] at z2
        rw [← e3] at z3
        rw [← e4] at z4
        rw [← e4]
        have y1 : U1.size ≤ 1 := by omega
        have y2 : U2.size ≤ 1 := by omega
        have y3 : U3.size ≤ 2 := by omega
        have y4 : U4.size ≤ 1048576 := by omega
        have k1 : (k : Int) < 256 := by omega
        clear e1 e2 e3 e4 z1 z2 z3 z4 hle hsum
        go_wp2
        go_region_held (fun w' => w'.cell? ⟨b, k, none⟩ = some (.int .i64 (f : Int)) ∧ w'.cell? ⟨b, 256 + k, none⟩ = some (.string val) ∧ b < w'.heap.size ∧ Below w.heap.size w w') (first | assumption | (exact ⟨c1, c2, hbl, hbel.drew⟩) | (exact ⟨c1, c2, hbl, hbel⟩) | (exact keep2 (by assumption) (by assumption))) (first | (go_at_call_of 45 (f : Int); refine (h1 _).mono ?_; rintro e w2 ⟨rfl, hb2⟩) | (go_at_call_of 45 (k : Int); refine (h2 _).mono ?_; rintro e w2 ⟨rfl, hb2⟩) | (go_at_call_of 45 (val.size : Int); refine (h3 _).mono ?_; rintro e w2 ⟨rfl, hb2⟩))
        all_goals
          have hS := ‹w2.cell? _ = some _ ∧ w2.cell? _ = some _ ∧ b < w2.heap.size ∧ Below w.heap.size w w2›
          clear h1 h2 h3 c1 c2
          go_wp2
          refine ⟨⟨k + 1, by omega, by go_num, ?_, hS.2.2.2⟩, by simp [intOf]; omega⟩
          rw [HW.out, HC.out, HS.out]
      · rw [if_neg hg] at HC
        go_wp2
        refine ⟨⟨k + 1, by omega, by go_num, ?_, hbel⟩, by simp [intOf]; omega⟩
        rw [HW.out, HC.out, List.append_nil]
    · have hk2 : k = 256 := by omega
      subst hk2
      clear hf hv
      go_wp2
      go_ret
      exact ⟨rfl, hbel⟩

end Go.Proofs.Yteoacdkgicfomaa
