/-
  The program's Announce, walked.
-/
import Derived.Test.YteoacdkgicfomaaWriteAttr
import Derived.Test.YteoacdkgicfomaaWritePfx
import Derived.Test.YteoacdkgicfomaaCanonOwn
namespace Go.Proofs.Yteoacdkgicfomaa
open Go.RowKit
open Rl

theorem flat_msg (k : Nat) (c : List UInt8) : flat [⟨#[255, 255, 255, 255, 255, 255, 255, 255, 255, 255, 255, 255, 255, 255, 255, 255]⟩, ⟨(be 2 (19 + c.length)).toArray⟩, ⟨(be 1 k).toArray⟩, ⟨c.toArray⟩] = msgOf k c := by
  simp [flat, msgOf, mark16, List.replicate]

set_option maxRecDepth 20000 in
set_option maxHeartbeats 2000000 in
theorem build_any (k : Nat) (v : Value) (xs : List ByteArray) (w : World) (hk : k < 256) (hr : RowAt w v xs.length 1 (strs xs)) (hcap : ∀ a n c, v = .slice a n c → n ≤ c) (hN : xs.length ≤ 1073741824) (hlen : (flat xs).length ≤ 1073741824) :
    Calls Try.prog 61 #[.int .i64 (k : Int), v] w fun e w' => e = .returned (.string ⟨(msgOf k (flat xs)).toArray⟩) ∧ Below w.heap.size w w' := by
  have hj := join_any v xs w hr hcap hN (by omega)
  have hs : (ByteArray.mk (flat xs).toArray).size = (flat xs).length := by show (flat xs).toArray.size = _; simp
  generalize flat xs = c at *
  have h1 := fun w => write_any (19 + c.length) 2 w (by omega) (by omega)
  have h2 := fun w => write_any k 1 w (by omega) (by omega)
  have H : Hid ((⟨c.toArray⟩ : ByteArray) = ⟨c.toArray⟩) := rfl
  have HF := hide (flat_msg k c)
  have hl4 : (flat [⟨#[255, 255, 255, 255, 255, 255, 255, 255, 255, 255, 255, 255, 255, 255, 255, 255]⟩, ⟨(be 2 (19 + c.length)).toArray⟩, ⟨(be 1 k).toArray⟩, ⟨c.toArray⟩]).length ≤ 140737488355328 := by rw [flat_msg, msgOf_length]; omega
  have hj2 := fun (w : World) (T : TypeId) => join_any (.slice (some ⟨w.heap.size, 0, none⟩) 4 4) [⟨#[255, 255, 255, 255, 255, 255, 255, 255, 255, 255, 255, 255, 255, 255, 255, 255]⟩, ⟨(be 2 (19 + c.length)).toArray⟩, ⟨(be 1 k).toArray⟩, ⟨c.toArray⟩] _ (rowAt_new w #[.string ⟨#[255, 255, 255, 255, 255, 255, 255, 255, 255, 255, 255, 255, 255, 255, 255, 255]⟩, .string ⟨(be 2 (19 + c.length)).toArray⟩, .string ⟨(be 1 k).toArray⟩, .string ⟨c.toArray⟩] T 4 4 rfl (by omega)) (cap_of (Nat.le_refl _)) (by simp) hl4
  rw [HF.out] at hj2
  clear hl4 HF
  obtain ⟨N, eN⟩ : ∃ N, N = 19 + c.length := ⟨_, rfl⟩
  have hlc : 19 + ((c.length : Nat) : Int) = (N : Int) := by omega
  rw [← eN] at h1 hj2
  clear eN
  obtain ⟨C, eC⟩ : ∃ C : ByteArray, C = ⟨c.toArray⟩ := ⟨_, rfl⟩
  rw [← eC] at hj hj2 hs
  have hsz : 19 + (C.size : Int) = (N : Int) := by rw [hs]; exact hlc
  clear eC hs H
  go_enter Try.func61, Try.ntmps61
  go_wp2_with (first | (go_at_call 85; refine hj.mono ?_; rintro e w1 ⟨rfl, hb1⟩))
  refine (h1 _).mono ?_
  rintro e w2 ⟨rfl, hb2⟩
  go_wp2_with fail
  refine (h2 _).mono ?_
  rintro e w3 ⟨rfl, hb3⟩
  go_wp2_with (first | (go_at_call 85; refine (hj2 w3 9).mono ?_; rintro e w4 ⟨rfl, hb4⟩))
  go_ret
  have b2 := later_below hb1 hb2 hb1.size
  have b3 := later_below b2 hb3 b2.size
  exact ⟨rfl, later_below (b3.alloc b3.size _) hb4 (by have := b3.size; simp; omega)⟩

theorem arr_nil : (⟨#[]⟩ : ByteArray) = ⟨([] : List UInt8).toArray⟩ := rfl

set_option maxRecDepth 20000 in
set_option maxHeartbeats 4000000 in
theorem announce_any (s : ByteArray) (v : Value) (l : List (Int × Int)) (a0 : Option Addr) (c0 : Nat) (w : World) (hs : s.size ≤ 1048576) (hl : l.length ≤ 1048576) (hv : v = .slice a0 l.length c0) (hr : RowAt w v l.length 2 (pfCells l)) :
    Calls Try.prog 41 #[.string s, v] w fun e w' => e = .returned (.tuple #[.string ⟨(annM s l).toArray⟩, .int .i64 (annE s l)]) ∧ Below w.heap.size w w' := by
  have hcan := fun w => readCanonical_any s w hs
  cases hb : canB s with
  | false =>
    have HB := hide (ann_bad s l (annOk_can s l hb))
    rw [hb] at hcan
    subst hv
    go_enter Try.func41, Try.ntmps41
    go_wp2_with (go_at_call 58; refine (hcan _).mono ?_; rintro e w1 ⟨lv, rfl, hb1, _⟩)
    go_ret2
    exact ⟨ret_se (by rw [HB.out.1]) HB.out.2.symm, hb1⟩
  | true =>
    rw [hb] at hcan
    by_cases h0 : l.length = 0
    · have e0 : l = [] := List.eq_nil_of_length_eq_zero h0
      subst e0
      have HB := hide (ann_bad s [] (annOk_nil s))
      subst hv
      go_enter Try.func41, Try.ntmps41
      go_wp2_with (go_at_call 58; refine (hcan _).mono ?_; rintro e w1 ⟨lv, rfl, hb1, _⟩)
      go_ret2
      exact ⟨ret_se (by rw [HB.out.1]) HB.out.2.symm, hb1⟩
    · have hz : ((l.length : Int) == 0) = false := by rw [beq_eq_false_iff_ne]; omega
      cases hp : pfAll l with
      | false =>
        have HB := hide (ann_bad s l (annOk_all s l hp))
        have hare := fun w' (hb : Below w.heap.size w w') => arePrefixes_any v l w' (by omega) (hr.later hb)
        rw [hp] at hare
        subst hv
        go_enter Try.func41, Try.ntmps41
        go_wp2_with (first | (go_at_call 58; refine (hcan _).mono ?_; rintro e w1 ⟨lv, rfl, hb1, _⟩) | (go_at_call 59; refine (hare _ hb1).mono ?_; rintro e w2 ⟨rfl, hb2⟩))
        go_ret2
        exact ⟨ret_se (by rw [HB.out.1]) HB.out.2.symm, later_below hb1 hb2 hb1.size⟩
      | true =>
        have hok := annOk_yes s l hb h0 hp
        obtain ⟨hfine, hsum⟩ := canL_fine s
        have hpw := pfWire_nats_le l hp
        have hcl := annC_length s l
        have hgood := ann_good s l hok
        have hlong := ann_long s l hok
        have hare := fun w' (hb : Below w.heap.size w w') => arePrefixes_any v l w' (by omega) (hr.later hb)
        have hwp := fun w' (hb : Below w.heap.size w w') => writePrefixes_any v (pfNats l) w' (by rw [pfNats_length]; exact hl) (pfNats_bounds l hp) (by rw [pfNats_length, pfNats_ints l hp]; exact hr.later hb)
        have hfl : flat [⟨(be 2 0).toArray⟩, ⟨(be 2 (annA s).length).toArray⟩, ⟨(annA s).toArray⟩, ⟨(pfWire (pfNats l)).toArray⟩] = annC s l := by simp [flat, annC]
        have hbd := fun (w : World) (T : TypeId) => build_any 2 (.slice (some ⟨w.heap.size, 0, none⟩) 4 4) [⟨(be 2 0).toArray⟩, ⟨(be 2 (annA s).length).toArray⟩, ⟨(annA s).toArray⟩, ⟨(pfWire (pfNats l)).toArray⟩] _ (by omega) (rowAt_new w #[.string ⟨(be 2 0).toArray⟩, .string ⟨(be 2 (annA s).length).toArray⟩, .string ⟨(annA s).toArray⟩, .string ⟨(pfWire (pfNats l)).toArray⟩] T 4 4 rfl (by omega)) (cap_of (Nat.le_refl _)) (by simp) (by rw [hfl, hcl]; unfold annA; omega)
        rw [hfl] at hbd
        have hwa := fun (w' : World) (lv : Value) (ho : w'.ownsRow w.heap.size 104 3 lv (canL s).length (atCells (canL s))) (hle : (canL s).length ≤ s.size) => writeAttributes_any lv (canL s) w' (by omega) (fun a ha => by obtain ⟨g1, g2, g3, g4⟩ := hfine a ha; exact ⟨g1, g2, g3, by omega⟩) (by omega) (rowAt_of_owns ho)
        change ∀ (w' : World) (lv : Value), _ → _ → Calls Try.prog 60 #[lv] w' fun e w'' => e = .returned (.string ⟨(annA s).toArray⟩) ∧ Below w'.heap.size w' w'' at hwa
        change (annA s).length ≤ s.size at hsum
        have hw0 := fun w => write_any 0 2 w (by omega) (by omega)
        have hw1 := fun w => write_any (annA s).length 2 w (by omega) (by omega)
        have hA : (ByteArray.mk (annA s).toArray).size = (annA s).length := by show (annA s).toArray.size = _; simp
        have hM : (ByteArray.mk (msgOf 2 (annC s l)).toArray).size = 19 + (annC s l).length := by rw [← msgOf_length 2]; show (msgOf 2 (annC s l)).toArray.size = _; simp
        rw [hp] at hare
        clear hfine hfl hok hb
        obtain ⟨M, eM⟩ : ∃ M : ByteArray, M = ⟨(msgOf 2 (annC s l)).toArray⟩ := ⟨_, rfl⟩
        obtain ⟨A, eA⟩ : ∃ A : ByteArray, A = ⟨(annA s).toArray⟩ := ⟨_, rfl⟩
        rw [← eM] at hbd hM
        rw [← eA] at hbd hA hwa
        rw [← hA] at hw1 hbd hsum
        have HM := hide eM
        clear eM eA hA
        generalize (annC s l).length = n at *
        have HG := hide hgood
        have HL := hide hlong
        clear hgood hlong
        subst hv
        go_enter Try.func41, Try.ntmps41
        go_wp2_with (first | (go_at_call 58; refine (hcan _).mono ?_; rintro e w1 ⟨lv, rfl, hb1, hown1⟩) | (go_at_call 59; refine (hare _ hb1).mono ?_; rintro e w2 ⟨rfl, hb2⟩))
        obtain ⟨ho1, hle1⟩ := hown1 trivial
        refine (hwa w2 lv (owns_later ho1 hb2) hle1).mono ?_
        rintro e w3 ⟨rfl, hb3⟩
        have b2 := later_below hb1 hb2 hb1.size
        have b3 := later_below b2 hb3 b2.size
        clear hcan hare hwa hown1 ho1 hb1 hb2 hb3 b2
        go_wp2_with fail
        refine (hw0 _).mono ?_
        rintro e w4 ⟨rfl, hb4⟩
        have b4 := later_below b3 hb4 b3.size
        go_wp2_with fail
        refine (hw1 _).mono ?_
        rintro e w5 ⟨rfl, hb5⟩
        have b5 := later_below b4 hb5 b4.size
        go_wp2_with fail
        refine (hwp w5 b5).mono ?_
        rintro e w6 ⟨rfl, hb6⟩
        have b6 := later_below b5 hb6 b5.size
        clear hw0 hw1 hwp hb4 hb5 hb6 b3 b4 b5
        go_wp2_with fail
        refine (hbd w6 9).mono ?_
        rintro e w7 ⟨rfl, hb7⟩
        have b7 := later_below (b6.alloc b6.size _) hb7 (by have := b6.size; simp; omega)
        clear hbd hb7 b6
        by_cases hn : 200 < 19 + n
        · have H := hide (HL.out hn)
          have hn' : (200 : Int) < (M.size : Int) := by omega
          clear hM HL HG hcl hn
          go_wp2
          go_ret2
          exact ⟨ret_se (by rw [H.out.1]) H.out.2.symm, b7⟩
        · have H := hide (HG.out hn)
          have hn' : ¬ (200 : Int) < (M.size : Int) := by omega
          clear hM HL HG hcl hn
          go_wp2
          go_ret2
          exact ⟨ret_se (by rw [H.out.1]; exact HM.out) H.out.2.symm, b7⟩

set_option maxRecDepth 20000 in
theorem announce_outer (s : ByteArray) (v : Value) (l : List (Int × Int)) (a0 : Option Addr) (c0 : Nat) (w : World) (hs : s.size ≤ 1048576) (hl : l.length ≤ 1048576) (hv : v = .slice a0 l.length c0) (hr : RowAt w v l.length 2 (pfCells l)) :
    Calls Try.prog 17 #[.string s, v] w fun e w' => e = .returned (.tuple #[.string ⟨(annM s l).toArray⟩, .int .i64 (annE s l)]) ∧ Below w.heap.size w w' := by
  subst hv
  have hcall := announce_any s _ l a0 c0 w hs hl rfl hr
  go_enter Try.func17, Try.ntmps17
  go_wp2_with (go_at_call 41; refine hcall.mono ?_; rintro e w2 ⟨rfl, hb⟩)
  go_ret2
  exact ⟨rfl, hb⟩

end Go.Proofs.Yteoacdkgicfomaa
