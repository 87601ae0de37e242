/-
  routelogkeep.Scanned, walked: over what Scan hands back of each of the three texts.
-/
import Derived.Test.YteoacdkgicfomaaScannedMath
import Derived.Test.YteoacdkgicfomaaKeepAttrs
import Derived.Test.YteoacdkgicfomaaRecScan
import Derived.Test.YteoacdkgicfomaaSameR
import Derived.Deep.CutBlock
import Derived.Deep.RegionHeld
namespace Go.Proofs.Yteoacdkgicfomaa
open Go.RowKit
open Rl

/-- what a call of Scan hands back. -/
def HandsR (l : List Rec) (n : Nat) (wx : World) (e : Ending) (w' : World) : Prop :=
  ∃ a c, e = .returned (.tuple #[.slice a l.length c, .int .i64 (n : Int)]) ∧ w'.ownsRow wx.heap.size 57 4 (.slice a l.length c) l.length (recCells l) ∧ Below wx.heap.size wx w'

/-- what the region of the long condition keeps: the last record's box, the list, what lies below. -/
def HoldZ (w : World) (nz : Nat) (t k p u v : Value) (l : List Rec) (wx : World) : Prop := Box4 wx nz t k p u ∧ RowAt wx v l.length 4 (recCells l) ∧ Below w.heap.size w wx

theorem HoldZ.later {w wx w2 : World} {nz : Nat} {t k p u v : Value} {l : List Rec} (h : HoldZ w nz t k p u v l wx) (hb : Below wx.heap.size wx w2) : HoldZ w nz t k p u v l w2 := ⟨h.1.later hb, h.2.1.later hb, below_held h.2.2 hb⟩

theorem holdZ_cells {w wx : World} {nz : Nat} {t k p u v : Value} {l : List Rec} (h : HoldZ w nz t k p u v l wx) : wx.cell? ⟨nz, 0, none⟩ = some t ∧ wx.cell? ⟨nz, 1, none⟩ = some k ∧ wx.cell? ⟨nz, 2, none⟩ = some p ∧ wx.cell? ⟨nz, 3, none⟩ = some u ∧ HoldZ w nz t k p u v l wx := by
  have hb := h.1
  obtain ⟨d0, d1, d2, d3, _⟩ := hb
  exact ⟨d0, d1, d2, d3, h⟩

theorem keepZ {w wx w2 : World} {nz : Nat} {t k p u v : Value} {l : List Rec} (h : wx.cell? ⟨nz, 0, none⟩ = some t ∧ wx.cell? ⟨nz, 1, none⟩ = some k ∧ wx.cell? ⟨nz, 2, none⟩ = some p ∧ wx.cell? ⟨nz, 3, none⟩ = some u ∧ HoldZ w nz t k p u v l wx) (hb : Below wx.heap.size wx w2) :
    w2.cell? ⟨nz, 0, none⟩ = some t ∧ w2.cell? ⟨nz, 1, none⟩ = some k ∧ w2.cell? ⟨nz, 2, none⟩ = some p ∧ w2.cell? ⟨nz, 3, none⟩ = some u ∧ HoldZ w nz t k p u v l w2 := holdZ_cells (h.2.2.2.2.later hb)

theorem restZ {w wx : World} {nz : Nat} {t k p u v : Value} {l : List Rec} (h : wx.cell? ⟨nz, 0, none⟩ = some t ∧ wx.cell? ⟨nz, 1, none⟩ = some k ∧ wx.cell? ⟨nz, 2, none⟩ = some p ∧ wx.cell? ⟨nz, 3, none⟩ = some u ∧ HoldZ w nz t k p u v l wx) : Below w.heap.size w wx := h.2.2.2.2.2.2

/-- what the last region keeps. -/
def HoldY (w : World) (v : Value) (l : List Rec) (wx : World) : Prop := RowAt wx v l.length 4 (recCells l) ∧ Below w.heap.size w wx
theorem HoldY.later {w wx w2 : World} {v : Value} {l : List Rec} (h : HoldY w v l wx) (hb : Below wx.heap.size wx w2) : HoldY w v l w2 := ⟨h.1.later hb, below_held h.2 hb⟩
theorem HoldY.drew {w wx : World} {v : Value} {l : List Rec} (h : HoldY w v l wx) : HoldY w v l wx.drew := h.later (Below.refl _ _).drew
theorem HoldY.new {w wx : World} {v : Value} {l : List Rec} (h : HoldY w v l wx) (o : Obj) : HoldY w v l (wx.alloc o) := h.later (below_new _ _)

set_option maxRecDepth 20000 in
set_option maxHeartbeats 16000000 in
theorem scanned_raw (b : ByteArray) (tm v at_ by_ : Int) (ar : Option Addr) (rn cr : Nat) (w : World) (l : List Rec) (N T P I0 I Q : Nat) (U X BN Z Y : ByteArray) (F R : Nat → ByteArray)
    (hb : b.size ≤ 1048576) (hl : l.length * 12 ≤ b.size) (hN : N ≤ b.size)
    (pS1 : ∀ wx, Calls Try.prog 28 #[.string b] wx fun e w' => HandsR l N wx e w')
    (HR : Hid (∀ k (h : k < l.length), (l[k].time < 4294967296 ∧ 1 ≤ l[k].kind ∧ l[k].kind ≤ 6 ∧ l[k].peer < 6) ∧ (F k).size ≤ 1048576 ∧ (R k).size ≤ 70000 ∧ F k ++ R k = F (k + 1) ∧ CallsStr 31 #[.int .i64 (l[k].time : Int), .int .i64 (l[k].kind : Int), .int .i64 (l[k].peer : Int), .string l[k].body] (R k)))
    (HF0 : Hid (F 0 = ⟨#[]⟩)) (HFN : Hid (F l.length = BN)) (HBN : b.extract 0 N = BN)
    (pT : CallsInt 23 #[.int .i64 tm, .int .i64 4294967296] (T : Int)) (pP : CallsInt 23 #[.int .i64 v, .int .i64 6] (P : Int))
    (pU : ∀ wx, Below w.heap.size w wx → Calls Try.prog 27 #[.slice ar rn cr, .slice ar rn cr, .int .i64 v] wx fun e w' => e = .returned (.string U) ∧ Below wx.heap.size wx w')
    (pX : CallsStr 31 #[.int .i64 (T : Int), .int .i64 1, .int .i64 (P : Int), .string U] X) (hX1 : 14 ≤ X.size) (hX2 : X.size ≤ 400)
    (HZ : Hid (BN ++ X ++ ⟨#[0]⟩ = Z)) (hBN : BN.size ≤ 1048576)
    (pS2 : ∀ wx, Calls Try.prog 28 #[.string Z] wx fun e w' => HandsR (l ++ [⟨T, 1, P, U⟩]) (N + X.size) wx e w')
    (pI : CallsInt 23 #[.int .i64 at_, .int .i64 ((X.size : Int) - 2)] (I0 : Int)) (hI0 : I0 + 2 < X.size) (hI : I = if 6 ≤ I0 then I0 + 2 else I0)
    (pQ : CallsInt 23 #[.int .i64 by_, .int .i64 255] (Q : Int)) (hQ : Q < 255)
    (HY : Hid (BN ++ (X.extract 0 I ++ ⟨#[UInt8.ofNat ((X.data.toList.getD I 0).toNat ^^^ (1 + Q))]⟩ ++ X.extract (I + 1) X.size) = Y))
    (pS3 : ∀ wx, Calls Try.prog 28 #[.string Y] wx fun e w' => HandsR l N wx e w') :
    Calls Try.prog 9 #[.string b, .int .i64 tm, .int .i64 v, .slice ar rn cr, .int .i64 at_, .int .i64 by_] w fun e w' => e = .returned (.bool true) ∧ Below w.heap.size w w' := by
  have n0 : decide ((N : Int) < 0) = false := decide_eq_false (by omega)
  have n1 : decide ((b.size : Int) < (N : Int)) = false := decide_eq_false (by omega)
  have n2 : decide (b.size < N) = false := decide_eq_false (by omega)
  go_enter Try.func9, Try.ntmps9
  go_wp2_with fail
  refine (pS1 _).mono ?_
  rintro e w1 ⟨a1, c1, rfl, ho1, hb1⟩
  go_upto_block 0 with fail
  go_cut [15] (fun s wx => s = .string BN ∧ RowAt wx (.slice a1 l.length c1) l.length 4 (recCells l) ∧ Below w.heap.size w wx)
  case first =>
    have r0 := rowAt_of_owns ho1
    have hbw := hb1
    clear pT pP pU pX pS2 pI pQ pS3 pS1 HZ HY ho1 hb1 hI hI0 hQ HBN hX1 hX2 hN n0 n1 n2
    go_wp2_with fail
    go_loopw [15, 16] (fun s i wr => ∃ k : Nat, k ≤ l.length ∧ i = .int .i64 k ∧ s = .string (F k) ∧ Below w1.heap.size w1 wr) (fun _ i _ => l.length - (intOf i).toNat)
    case atStart => exact ⟨0, Nat.zero_le _, rfl, by rw [HF0.out], Below.refl _ _⟩
    case round =>
      obtain ⟨k, hk, rfl, rfl, hbel⟩ := hrel
      by_cases hlt : k < l.length
      · obtain ⟨⟨t1, k1, k2, p1⟩, z1, z2, e1, cR⟩ := HR.out k hlt
        rcases (r0.later hbel).2 with ⟨_, _, _, h0⟩ | ⟨g, o, cap, e, _, hbk, hc⟩
        · omega
        · cases e
          obtain ⟨g1, g2, g3, g4⟩ := recCells_get l k hlt
          have q1 := hc _ _ g1
          have q2 : wr.cell? ⟨g, o + k * 4 + 1, none⟩ = _ := hc _ _ g2
          have q3 : wr.cell? ⟨g, o + k * 4 + 2, none⟩ = _ := hc _ _ g3
          have q4 : wr.cell? ⟨g, o + k * 4 + 3, none⟩ = _ := hc _ _ g4
          clear g1 g2 g3 g4 hc r0 hbk HR HF0 HFN
          generalize l[k].time = t at *
          generalize l[k].kind = kd at *
          generalize l[k].peer = p at *
          generalize l[k].body = bd at *
          have hx : (k : Int) < (l.length : Int) := by omega
          have hk0 : (0 : Int) ≤ (k : Int) := by omega
          have u1 : ¬ ((t : Int) < 0) := by omega
          have u2 : ¬ ((4294967295 : Int) < (t : Int)) := by omega
          have u3 : ¬ ((p : Int) < 0) := by omega
          have u4 : ¬ ((6 : Int) ≤ (p : Int)) := by omega
          have u5 : ¬ ((kd : Int) < 1) := by omega
          have u6 : ¬ ((6 : Int) < (kd : Int)) := by omega
          have HE := hide e1
          clear e1 t1 k1 k2 p1
          go_wp2_with (go_at_call 31; refine (cR _).mono ?_; rintro e w2 ⟨rfl, hb2⟩)
          exact ⟨⟨k + 1, by omega, by go_num, by rw [← HE.out], below_held (hbel.alloc hbel.size _) hb2⟩, by simp [intOf]; omega⟩
      · have e : k = l.length := by omega
        subst e
        have r1 := r0.later hbel
        clear r0 HR
        go_wp2_with fail
        go_meet
        case rel => exact ⟨by rw [HFN.out], r1, below_held hbw hbel⟩
  case rest =>
    clear HR HF0 HFN ho1 hb1
    obtain ⟨rfl, r1, B1⟩ := hcut
    go_wp2_with fail
    refine (pT _).mono ?_
    rintro e w2 ⟨rfl, hw⟩
    rw [hw]
    clear hw w2
    go_wp2_with fail
    refine (pP _).mono ?_
    rintro e w2 ⟨rfl, hw⟩
    rw [hw]
    clear hw w2
    go_wp2_with fail
    refine (pU _ B1).mono ?_
    rintro e w2 ⟨rfl, hb2⟩
    have B2 := below_held B1 hb2
    have r2 := r1.later hb2
    clear hb2 r1 B1
    go_wp2_with fail
    refine (pX _).mono ?_
    rintro e w3 ⟨rfl, hb3⟩
    have B3 := below_held B2 hb3
    have r3 := r2.later hb3
    clear hb3 r2 B2 pX
    go_wp2_with fail
    rw [HZ.out]
    refine (pS2 _).mono ?_
    rintro e w4 ⟨a2, c2, rfl, ho4, hb4⟩
    have B4 := below_held B3 hb4
    have r4 := r3.later hb4
    have k4 := rowAt_of_owns ho4
    have hcap : ∃ g, a2 = some ⟨g, 0, none⟩ ∧ l.length + 1 ≤ c2 ∧ c2 ≤ maxLen := by
      rcases ho4.2 with ⟨_, h0⟩ | ⟨g, cap, cur, e, _, _, h1, h2, _, _⟩
      · rw [List.length_append, List.length_singleton] at h0; omega
      · injection e with e1 e2 e3
        rw [List.length_append, List.length_singleton] at h1
        exact ⟨g, e1, by omega, by omega⟩
    obtain ⟨g, rfl, cp1, cp2⟩ := hcap
    rw [List.length_append, List.length_singleton] at k4
    clear hb4 r3 B3 ho4 pS2 HZ
    have j1 : (((N + X.size : Nat) : Int) != (N : Int) + (X.size : Int)) = false := by simp
    have j2 : (((l.length + 1 : Nat) : Int) != (l.length : Int) + 1) = false := by simp
    have gets : (recCells (l ++ [⟨T, 1, P, U⟩]))[l.length * 4]? = some (.int .i64 (T : Int)) ∧ (recCells (l ++ [⟨T, 1, P, U⟩]))[l.length * 4 + 1]? = some (.int .i64 1) ∧ (recCells (l ++ [⟨T, 1, P, U⟩]))[l.length * 4 + 2]? = some (.int .i64 (P : Int)) ∧ (recCells (l ++ [⟨T, 1, P, U⟩]))[l.length * 4 + 3]? = some (.string U) := by
      have h := recCells_get (l ++ [⟨T, 1, P, U⟩]) l.length (by simp)
      simpa using h
    have hcells : w4.cell? ⟨g, 0 + l.length * 4, none⟩ = some (.int .i64 (T : Int)) ∧ w4.cell? ⟨g, 0 + l.length * 4 + 1, none⟩ = some (.int .i64 1) ∧ w4.cell? ⟨g, 0 + l.length * 4 + 2, none⟩ = some (.int .i64 (P : Int)) ∧ w4.cell? ⟨g, 0 + l.length * 4 + 3, none⟩ = some (.string U) := by
      rcases k4.2 with ⟨_, _, _, h0⟩ | ⟨b', o', cap', e, _, _, hc⟩
      · omega
      · injection e with e1 e2 e3
        injection e1 with e1
        injection e1 with e4 e5 e6
        subst e4 e5
        exact ⟨hc _ _ gets.1, hc _ _ gets.2.1, hc _ _ gets.2.2.1, hc _ _ gets.2.2.2⟩
    rw [Nat.zero_add] at hcells
    obtain ⟨q0, q1, q2, q3⟩ := hcells
    have h4 : RowAt w4 (.slice (some ⟨g, 0, none⟩) l.length c2) l.length 4 (recCells l) := by
      rw [recCells_app] at k4
      exact rowAt_head k4 (by rw [recCells_length])
    clear gets k4
    have x1 : (0 : Int) ≤ (l.length : Int) := by omega
    have x2 : (l.length : Int) < (l.length : Int) + 1 := by omega
    go_wp2_with fail
    have ba : Below w4.heap.size w4 (w4.alloc (.cells #[.int .i64 (T : Int), .int .i64 1, .int .i64 (P : Int), .string U] 57)) := (Below.refl _ _).alloc (Nat.le_refl _) _
    have bx := box4_new w4 (.int .i64 (T : Int)) (.int .i64 1) (.int .i64 (P : Int)) (.string U) 57
    have B5 := below_held B4 ba
    have k5 := h4.later ba
    have r5 := r4.later ba
    clear B4 h4 r4 ba q0 q1 q2 q3
    generalize w4.alloc (.cells #[.int .i64 (T : Int), .int .i64 1, .int .i64 (P : Int), .string U] 57) = wz at *
    generalize w4.heap.size = nz at *
    refine (alike_any _ _ l (some ⟨g, 0, none⟩) a1 c2 c1 _ (by omega) rfl rfl k5 r5).mono ?_
    rintro e w6 ⟨rfl, hb6⟩
    have B6 := below_held B5 hb6
    have r6 := r5.later hb6
    have bx6 := bx.later hb6
    clear B5 k5 r5 bx hb6
    have HZ : HoldZ w nz (.int .i64 (T : Int)) (.int .i64 1) (.int .i64 (P : Int)) (.string U) (.slice a1 l.length c1) l w6 := ⟨bx6, r6, B6⟩
    have hz := holdZ_cells HZ
    clear bx6 r6 B6 HZ
    go_wp2_with fail
    go_region_held (fun w' => w'.cell? ⟨nz, 0, none⟩ = some (.int .i64 (T : Int)) ∧ w'.cell? ⟨nz, 1, none⟩ = some (.int .i64 1) ∧ w'.cell? ⟨nz, 2, none⟩ = some (.int .i64 (P : Int)) ∧ w'.cell? ⟨nz, 3, none⟩ = some (.string U) ∧ HoldZ w nz (.int .i64 (T : Int)) (.int .i64 1) (.int .i64 (P : Int)) (.string U) (.slice a1 l.length c1) l w')
      (first | assumption | (exact keepZ hz (Below.refl _ _).drew) | (exact keepZ (by assumption) (by assumption)))
      (first
        | (go_at_call_of 23 (4294967296 : Int); refine (pT _).mono ?_; rintro e w7 ⟨rfl, hw7⟩; rw [hw7]; clear hw7 w7)
        | (go_at_call_of 23 (6 : Int); refine (pP _).mono ?_; rintro e w7 ⟨rfl, hw7⟩; rw [hw7]; clear hw7 w7)
        | (go_at_call 27; refine (pU _ (restZ (by assumption))).mono ?_; rintro e w8 ⟨rfl, hb8⟩))
    have hH := (‹w8.cell? _ = some _ ∧ _› : w8.cell? ⟨nz, 0, none⟩ = some (.int .i64 (T : Int)) ∧ w8.cell? ⟨nz, 1, none⟩ = some (.int .i64 1) ∧ w8.cell? ⟨nz, 2, none⟩ = some (.int .i64 (P : Int)) ∧ w8.cell? ⟨nz, 3, none⟩ = some (.string U) ∧ HoldZ w nz (.int .i64 (T : Int)) (.int .i64 1) (.int .i64 (P : Int)) (.string U) (.slice a1 l.length c1) l w8)
    obtain ⟨_, _, _, _, _, r8, B8⟩ := hH
    clear hb8 hz pT pP pU
    go_wp2_with fail
    refine (pI _).mono ?_
    rintro e w9 ⟨rfl, hw9⟩
    rw [hw9]
    clear hw9 w9 pI
    have hi2 : (¬ ((6 : Int) ≤ (I0 : Int)) ∧ (I0 : Int) = (I : Int)) ∨ ((6 : Int) ≤ (I0 : Int) ∧ (I0 : Int) + 2 = (I : Int)) := by
      by_cases h : 6 ≤ I0
      · rw [if_pos h] at hI; omega
      · rw [if_neg h] at hI; omega
    have hiX : I < X.size := by omega
    have hiX1 : (I : Int) < (X.size : Int) := by omega
    have hiX3 : (I : Int) ≤ (X.size : Int) := by omega
    have hi0 : (0 : Int) ≤ (I : Int) := by omega
    obtain ⟨J, hJ⟩ : ∃ J, J = I + 1 := ⟨_, rfl⟩
    have iJ : (I : Int) + 1 = (J : Int) := by omega
    have wJ : IntKind.i64.wrap (J : Int) = (J : Int) := by rw [IntKind.wrap_i64]; omega
    have hJX : (J : Int) ≤ (X.size : Int) := by omega
    have hJ0 : (0 : Int) ≤ (J : Int) := by omega
    rw [← hJ] at HY
    clear hI hJ
    have hXI : X.data.toList.getD I 0 = X[I] := by
      rw [List.getD_eq_getElem?_getD, List.getElem?_eq_getElem (by rw [len_data]; exact hiX)]; rfl
    have hxb := xor_byte X[I] Q hQ
    rw [hXI] at HY
    obtain ⟨G, hG⟩ : ∃ G, G = UInt8.ofNat (X[I].toNat ^^^ (1 + Q)) := ⟨_, rfl⟩
    rw [← hG] at HY hxb
    have HX := hide hxb
    clear hxb hG hXI
    obtain ⟨X1, e1⟩ : ∃ X1, X.extract 0 I = X1 := ⟨_, rfl⟩
    obtain ⟨X2, e2⟩ : ∃ X2, X.extract J X.size = X2 := ⟨_, rfl⟩
    have y1 : X1.size ≤ 400 := by rw [← e1, ByteArray.size_extract]; omega
    have y2 : X2.size ≤ 400 := by rw [← e2, ByteArray.size_extract]; omega
    rw [e1, e2] at HY
    have g1 : ¬ 9223372036854775807 < X1.size + 1 := by omega
    have g2 : ¬ 9223372036854775807 < X1.size + 1 + X2.size := by omega
    have g3 : ¬ 9223372036854775807 < BN.size + (X1.size + 1 + X2.size) := by omega
    rcases hi2 with ⟨h6, e6⟩ | ⟨h6, e6⟩
    · rw [e6] at h6 ⊢
      clear e6 hI0
      go_wp2_with fail
      refine wp_region_held_drew (S := fun w' => HoldY w (.slice a1 l.length c1) l w') (by kernel_rfl) (HoldY.drew ⟨r8, B8⟩) (fun hHeld => ?_)
      refine wpAnyH_take (i := 0) (v := ?v0_1) rfl (by kernel_rfl) (by kernel_rfl) (by kernel_rfl) (fun _ _ _ h => h) (Or.inl ⟨by rfl, ?hy0_1⟩) (by assumption) ?rest0_1
      case hy0_1 =>
        intro w' hSw
        first | (go_simp; with_reducible rfl) | go_simp
      refine wpAnyH_take (i := 1) (v := ?v1_2) rfl (by kernel_rfl) (by kernel_rfl) (by kernel_rfl) (fun _ _ _ h => h) (Or.inl ⟨by rfl, ?hy1_2⟩) (by assumption) ?rest1_2
      case hy1_2 =>
        intro w' hSw
        first | (go_simp; with_reducible rfl) | go_simp
      refine wpAnyH_take (i := 2) (v := ?v2_3) rfl (by kernel_rfl) (by kernel_rfl) (by kernel_rfl) (fun _ _ _ h => h) (Or.inl ⟨by rfl, ?hy2_3⟩) (by assumption) ?rest2_3
      case hy2_3 =>
        intro w' hSw
        first | (go_simp; with_reducible rfl) | go_simp
      refine wpAnyH_take (i := 3) (v := ?v3_4) rfl (by kernel_rfl) (by kernel_rfl) (by kernel_rfl) (fun _ _ _ h => h) (Or.inl ⟨by rfl, ?hy3_4⟩) (by assumption) ?rest3_4
      case hy3_4 =>
        intro w' hSw
        first | (go_simp; with_reducible rfl) | go_simp
      refine wpAnyH_take (i := 4) (v := ?v4_5) rfl (by kernel_rfl) (by kernel_rfl) (by kernel_rfl) (fun _ _ _ h => h) (Or.inl ⟨by rfl, ?hy4_5⟩) (by assumption) ?rest4_5
      case hy4_5 =>
        intro w' hSw
        first | (go_simp; with_reducible rfl) | go_simp
      refine wpAnyH_take (i := 5) (v := ?v5_6) rfl (by kernel_rfl) (by kernel_rfl) (by kernel_rfl) (fun _ _ _ h => h) (Or.inl ⟨by rfl, ?hy5_6⟩) (by assumption) ?rest5_6
      case hy5_6 =>
        intro w' hSw
        first | (go_simp; with_reducible rfl) | go_simp
      refine wpAnyH_take (i := 6) (v := ?v6_7) rfl (by kernel_rfl) (by kernel_rfl) (by kernel_rfl) (fun _ _ _ h => h) (Or.inl ⟨by rfl, ?hy6_7⟩) (by assumption) ?rest6_7
      case hy6_7 =>
        intro w' hSw
        first | (go_simp; with_reducible rfl) | go_simp
      refine wpAnyH_take (i := 14) (v := ?v14_8) rfl (by kernel_rfl) (by kernel_rfl) (by kernel_rfl) (fun _ _ _ h => h) (Or.inl ⟨by rfl, ?hy14_8⟩) (by assumption) ?rest14_8
      case hy14_8 =>
        intro w' hSw
        first | (go_simp; with_reducible rfl) | go_simp
      refine wpAnyH_take (i := 15) (v := ?v15_9) rfl (by kernel_rfl) (by kernel_rfl) (by kernel_rfl) (fun _ _ _ h => h) (Or.inl ⟨by rfl, ?hy15_9⟩) (by assumption) ?rest15_9
      case hy15_9 =>
        intro w' hSw
        first | (go_simp; with_reducible rfl) | go_simp
      refine wpAnyH_take (i := 16) (v := ?v16_10) rfl (by kernel_rfl) (by kernel_rfl) (by kernel_rfl) (fun _ _ _ h => h) (Or.inl ⟨by rfl, ?hy16_10⟩) (by assumption) ?rest16_10
      case hy16_10 =>
        intro w' hSw
        first | (go_simp; with_reducible rfl) | go_simp
      refine wpAnyH_take (i := 17) (v := ?v17_11) rfl (by kernel_rfl) (by kernel_rfl) (by kernel_rfl) (fun _ _ _ h => h) (Or.inl ⟨by rfl, ?hy17_11⟩) (by assumption) ?rest17_11
      case hy17_11 =>
        intro w' hSw
        first | (go_simp; with_reducible rfl) | go_simp
      simp only [Act.put, List.setIfInBounds_toArray]
      refine wpAnyH_ready (rs := [7]) (by kernel_rfl) (by simp) ?_
      refine AllReadyH.cons rfl (fun K hK => ?_) ?_
      · go_simp
        go_wp2_with (go_at_call 23; refine (pQ _).mono ?_; rintro e w' ⟨rfl, hw⟩; rw [hw]; clear hw w')
        refine hK.out _ _ (by assumption) (fun hHeld2 => ?_)
        clear hK K
        refine wpAnyH_take (i := 8) (v := ?v8_12) rfl (by kernel_rfl) (by kernel_rfl) (by kernel_rfl) (fun _ _ _ h => h) (Or.inl ⟨by rfl, ?hy8_12⟩) (by assumption) ?rest8_12
        case hy8_12 =>
          intro w' hSw
          first | (go_simp; with_reducible rfl) | go_simp
        refine wpAnyH_take (i := 9) (v := ?v9_13) rfl (by kernel_rfl) (by kernel_rfl) (by kernel_rfl) (fun _ _ _ h => h) (Or.inl ⟨by rfl, ?hy9_13⟩) (by assumption) ?rest9_13
        case hy9_13 =>
          intro w' hSw
          first | (go_simp; with_reducible rfl) | go_simp
        refine wpAnyH_take (i := 10) (v := ?v10_14) rfl (by kernel_rfl) (by kernel_rfl) (by kernel_rfl) (fun _ _ _ h => h) (Or.inl ⟨by rfl, ?hy10_14⟩) (by assumption) ?rest10_14
        case hy10_14 =>
          intro w' hSw
          first | (go_simp; with_reducible rfl) | go_simp
        simp only [Act.put, List.setIfInBounds_toArray]
        refine wpAnyH_ready (rs := [11]) (by kernel_rfl) (by simp) ?_
        refine AllReadyH.cons rfl (fun K hK => ?_) ?_
        · go_simp
          rw [HX.out]
          refine hK.out _ _ (HoldY.drew (HoldY.new ⟨r8, B8⟩ _)) (fun hHeld3 => ?_)
          clear hK K
          have hconv := conv_one w8 5 G
          refine wpAnyH_ready (rs := [12]) (by kernel_rfl) (by simp) ?_
          refine AllReadyH.cons rfl (fun K hK => ?_) ?_
          · go_simp
            refine hK.out _ _ hHeld3 (fun hHeld4 => ?_)
            clear hK K hconv
            refine wpAnyH_take (i := 13) (v := ?v13_15) rfl (by kernel_rfl) (by kernel_rfl) (by kernel_rfl) (fun _ _ _ h => h) (Or.inl ⟨by rfl, ?hy13_15⟩) (by assumption) ?rest13_15
            case hy13_15 =>
              intro w' hSw
              first | (go_simp; with_reducible rfl) | go_simp
            refine wpAnyH_take (i := 18) (v := ?v18_16) rfl (by kernel_rfl) (by kernel_rfl) (by kernel_rfl) (fun _ _ _ h => h) (Or.inl ⟨by rfl, ?hy18_16⟩) (by assumption) ?rest18_16
            case hy18_16 =>
              intro w' hSw
              first | (go_simp; with_reducible rfl) | go_simp
            refine wpAnyH_take (i := 19) (v := ?v19_17) rfl (by kernel_rfl) (by kernel_rfl) (by kernel_rfl) (fun _ _ _ h => h) (Or.inl ⟨by rfl, ?hy19_17⟩) (by assumption) ?rest19_17
            case hy19_17 =>
              intro w' hSw
              first | (go_simp; with_reducible rfl) | go_simp
            simp only [Act.put, List.setIfInBounds_toArray]
            refine wpAnyH_done (by kernel_rfl) ?_ _
            obtain ⟨r9, B9⟩ := hHeld4
            clear hHeld hHeld2 hHeld3 r8 B8
            generalize (w8.alloc (.cells #[.int .u8 (G.toNat : Int)] 5)).drew = wy at *
            go_wp2_with fail
            rw [HY.out]
            refine (pS3 _).mono ?_
            rintro e wk ⟨a3, c3, rfl, ho5, hb5⟩
            have B10 := below_held B9 hb5
            have r10 := r9.later hb5
            have k10 := rowAt_of_owns ho5
            clear ho5 hb5 B9 r9
            go_wp2_with fail
            refine (alike_any _ _ l a3 a1 c3 c1 _ (by omega) rfl rfl k10 r10).mono ?_
            rintro e wl ⟨rfl, hb6⟩
            have B11 := below_held B10 hb6
            go_wp2
            go_ret
            exact ⟨rfl, B11⟩
          exact AllReadyH.nil
        exact AllReadyH.nil
      exact AllReadyH.nil
    · have hI3 : (I0 : Int) + 2 ≤ 400 := by omega
      go_wp2_with fail
      refine wp_region_held_drew (S := fun w' => HoldY w (.slice a1 l.length c1) l w') (by kernel_rfl) (HoldY.drew ⟨r8, B8⟩) (fun hHeld => ?_)
      refine wpAnyH_take (i := 0) (v := ?v0_51) rfl (by kernel_rfl) (by kernel_rfl) (by kernel_rfl) (fun _ _ _ h => h) (Or.inl ⟨by rfl, ?hy0_51⟩) (by assumption) ?rest0_51
      case hy0_51 =>
        intro w' hSw
        first | (go_simp; with_reducible rfl) | go_simp
      refine wpAnyH_take (i := 1) (v := ?v1_52) rfl (by kernel_rfl) (by kernel_rfl) (by kernel_rfl) (fun _ _ _ h => h) (Or.inl ⟨by rfl, ?hy1_52⟩) (by assumption) ?rest1_52
      case hy1_52 =>
        intro w' hSw
        first | (go_simp; with_reducible rfl) | go_simp
      refine wpAnyH_take (i := 2) (v := ?v2_53) rfl (by kernel_rfl) (by kernel_rfl) (by kernel_rfl) (fun _ _ _ h => h) (Or.inl ⟨by rfl, ?hy2_53⟩) (by assumption) ?rest2_53
      case hy2_53 =>
        intro w' hSw
        first | (go_simp; with_reducible rfl) | go_simp
      refine wpAnyH_take (i := 3) (v := ?v3_54) rfl (by kernel_rfl) (by kernel_rfl) (by kernel_rfl) (fun _ _ _ h => h) (Or.inl ⟨by rfl, ?hy3_54⟩) (by assumption) ?rest3_54
      case hy3_54 =>
        intro w' hSw
        first | (go_simp; with_reducible rfl) | go_simp
      refine wpAnyH_take (i := 4) (v := ?v4_55) rfl (by kernel_rfl) (by kernel_rfl) (by kernel_rfl) (fun _ _ _ h => h) (Or.inl ⟨by rfl, ?hy4_55⟩) (by assumption) ?rest4_55
      case hy4_55 =>
        intro w' hSw
        first | (go_simp; with_reducible rfl) | go_simp
      refine wpAnyH_take (i := 5) (v := ?v5_56) rfl (by kernel_rfl) (by kernel_rfl) (by kernel_rfl) (fun _ _ _ h => h) (Or.inl ⟨by rfl, ?hy5_56⟩) (by assumption) ?rest5_56
      case hy5_56 =>
        intro w' hSw
        first | (go_simp; with_reducible rfl) | go_simp
      refine wpAnyH_take (i := 6) (v := ?v6_57) rfl (by kernel_rfl) (by kernel_rfl) (by kernel_rfl) (fun _ _ _ h => h) (Or.inl ⟨by rfl, ?hy6_57⟩) (by assumption) ?rest6_57
      case hy6_57 =>
        intro w' hSw
        first | (go_simp; with_reducible rfl) | go_simp
      refine wpAnyH_take (i := 14) (v := ?v14_58) rfl (by kernel_rfl) (by kernel_rfl) (by kernel_rfl) (fun _ _ _ h => h) (Or.inl ⟨by rfl, ?hy14_58⟩) (by assumption) ?rest14_58
      case hy14_58 =>
        intro w' hSw
        first | (go_simp; with_reducible rfl) | go_simp
      refine wpAnyH_take (i := 15) (v := ?v15_59) rfl (by kernel_rfl) (by kernel_rfl) (by kernel_rfl) (fun _ _ _ h => h) (Or.inl ⟨by rfl, ?hy15_59⟩) (by assumption) ?rest15_59
      case hy15_59 =>
        intro w' hSw
        first | (go_simp; with_reducible rfl) | go_simp
      refine wpAnyH_take (i := 16) (v := ?v16_60) rfl (by kernel_rfl) (by kernel_rfl) (by kernel_rfl) (fun _ _ _ h => h) (Or.inl ⟨by rfl, ?hy16_60⟩) (by assumption) ?rest16_60
      case hy16_60 =>
        intro w' hSw
        first | (go_simp; with_reducible rfl) | go_simp
      refine wpAnyH_take (i := 17) (v := ?v17_61) rfl (by kernel_rfl) (by kernel_rfl) (by kernel_rfl) (fun _ _ _ h => h) (Or.inl ⟨by rfl, ?hy17_61⟩) (by assumption) ?rest17_61
      case hy17_61 =>
        intro w' hSw
        first | (go_simp; with_reducible rfl) | go_simp
      simp only [Act.put, List.setIfInBounds_toArray]
      refine wpAnyH_ready (rs := [7]) (by kernel_rfl) (by simp) ?_
      refine AllReadyH.cons rfl (fun K hK => ?_) ?_
      · go_simp
        go_wp2_with (go_at_call 23; refine (pQ _).mono ?_; rintro e w' ⟨rfl, hw⟩; rw [hw]; clear hw w')
        refine hK.out _ _ (by assumption) (fun hHeld2 => ?_)
        clear hK K
        refine wpAnyH_take (i := 8) (v := ?v8_62) rfl (by kernel_rfl) (by kernel_rfl) (by kernel_rfl) (fun _ _ _ h => h) (Or.inl ⟨by rfl, ?hy8_62⟩) (by assumption) ?rest8_62
        case hy8_62 =>
          intro w' hSw
          first | (go_simp; with_reducible rfl) | go_simp
        refine wpAnyH_take (i := 9) (v := ?v9_63) rfl (by kernel_rfl) (by kernel_rfl) (by kernel_rfl) (fun _ _ _ h => h) (Or.inl ⟨by rfl, ?hy9_63⟩) (by assumption) ?rest9_63
        case hy9_63 =>
          intro w' hSw
          first | (go_simp; with_reducible rfl) | go_simp
        refine wpAnyH_take (i := 10) (v := ?v10_64) rfl (by kernel_rfl) (by kernel_rfl) (by kernel_rfl) (fun _ _ _ h => h) (Or.inl ⟨by rfl, ?hy10_64⟩) (by assumption) ?rest10_64
        case hy10_64 =>
          intro w' hSw
          first | (go_simp; with_reducible rfl) | go_simp
        simp only [Act.put, List.setIfInBounds_toArray]
        refine wpAnyH_ready (rs := [11]) (by kernel_rfl) (by simp) ?_
        refine AllReadyH.cons rfl (fun K hK => ?_) ?_
        · go_simp
          rw [HX.out]
          refine hK.out _ _ (HoldY.drew (HoldY.new ⟨r8, B8⟩ _)) (fun hHeld3 => ?_)
          clear hK K
          have hconv := conv_one w8 5 G
          refine wpAnyH_ready (rs := [12]) (by kernel_rfl) (by simp) ?_
          refine AllReadyH.cons rfl (fun K hK => ?_) ?_
          · go_simp
            refine hK.out _ _ hHeld3 (fun hHeld4 => ?_)
            clear hK K hconv
            refine wpAnyH_take (i := 13) (v := ?v13_65) rfl (by kernel_rfl) (by kernel_rfl) (by kernel_rfl) (fun _ _ _ h => h) (Or.inl ⟨by rfl, ?hy13_65⟩) (by assumption) ?rest13_65
            case hy13_65 =>
              intro w' hSw
              first | (go_simp; with_reducible rfl) | go_simp
            refine wpAnyH_take (i := 18) (v := ?v18_66) rfl (by kernel_rfl) (by kernel_rfl) (by kernel_rfl) (fun _ _ _ h => h) (Or.inl ⟨by rfl, ?hy18_66⟩) (by assumption) ?rest18_66
            case hy18_66 =>
              intro w' hSw
              first | (go_simp; with_reducible rfl) | go_simp
            refine wpAnyH_take (i := 19) (v := ?v19_67) rfl (by kernel_rfl) (by kernel_rfl) (by kernel_rfl) (fun _ _ _ h => h) (Or.inl ⟨by rfl, ?hy19_67⟩) (by assumption) ?rest19_67
            case hy19_67 =>
              intro w' hSw
              first | (go_simp; with_reducible rfl) | go_simp
            simp only [Act.put, List.setIfInBounds_toArray]
            refine wpAnyH_done (by kernel_rfl) ?_ _
            obtain ⟨r9, B9⟩ := hHeld4
            clear hHeld hHeld2 hHeld3 r8 B8
            generalize (w8.alloc (.cells #[.int .u8 (G.toNat : Int)] 5)).drew = wy at *
            go_wp2_with fail
            rw [HY.out]
            refine (pS3 _).mono ?_
            rintro e wk ⟨a3, c3, rfl, ho5, hb5⟩
            have B10 := below_held B9 hb5
            have r10 := r9.later hb5
            have k10 := rowAt_of_owns ho5
            clear ho5 hb5 B9 r9
            go_wp2_with fail
            refine (alike_any _ _ l a3 a1 c3 c1 _ (by omega) rfl rfl k10 r10).mono ?_
            rintro e wl ⟨rfl, hb6⟩
            have B11 := below_held B10 hb6
            go_wp2
            go_ret
            exact ⟨rfl, B11⟩
          exact AllReadyH.nil
        exact AllReadyH.nil
      exact AllReadyH.nil

end Go.Proofs.Yteoacdkgicfomaa
