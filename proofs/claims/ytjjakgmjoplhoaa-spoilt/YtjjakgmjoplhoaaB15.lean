/-
  routelogkeep.Spoilt, walked.
-/
import Derived.Test.YtjjakgmjoplhoaaB14
import Derived.Deep.CutBlock
import Derived.Deep.RegionHeld
import Derived.Test.YtjjakgmjoplhoaaB08
import Derived.ProofKit
import Derived.OpenShut
import Derived.ChangeOld
namespace Go.Proofs.Ytjjakgmjoplhoaa
open Go.RowKit
open Rl

/-- what a call of Update hands back. -/
def HandsU (e : Ending) (w w' : World) (g a : List (Int × Int)) (T : ByteArray) : Prop :=
  ∃ a1 c1 a2 c2, e = .returned (.tuple #[.agg #[.slice a1 g.length c1, .slice a2 a.length c2, .string T], .int .i64 0]) ∧ Below w.heap.size w w' ∧ RowAt w' (.slice a1 g.length c1) g.length 2 (pfCells g) ∧ RowAt w' (.slice a2 a.length c2) a.length 2 (pfCells a)

/-- the three values' row. -/
def spVals : List Value := [.string (spVal 0), .string (spVal 1), .string (spVal 2)]

theorem pf_take_k (g a : List (Int × Int)) (k : Nat) (h : k < a.length) : pfCells (g ++ a.take (k + 1)) = pfCells (g ++ a.take k) ++ [.int .i64 a[k].1, .int .i64 a[k].2] := by
  rw [List.take_succ_eq_append_getElem h, ← List.append_assoc, pf_app]
  rfl

/-- what the last regions keep: both changes' boxes, the second one's row. -/
def SpRest (w : World) (n1 n2 : Nat) (u1 u2 u3 v1 v2 v3 : Value) (l : List (Int × Int)) (wx : World) : Prop :=
  Box3 wx n1 u1 u2 u3 ∧ Box3 wx n2 v1 v2 v3 ∧ RowAt wx v2 l.length 2 (pfCells l) ∧ Below w.heap.size w wx

theorem SpRest.later {w wx w2 : World} {n1 n2 : Nat} {u1 u2 u3 v1 v2 v3 : Value} {l : List (Int × Int)} (h : SpRest w n1 n2 u1 u2 u3 v1 v2 v3 l wx) (hb : Below wx.heap.size wx w2) : SpRest w n1 n2 u1 u2 u3 v1 v2 v3 l w2 :=
  ⟨h.1.later hb, h.2.1.later hb, h.2.2.1.later hb, below_held h.2.2.2 hb⟩

theorem keepR1 {w wx w2 : World} {n1 n2 : Nat} {u1 u2 u3 v1 v2 v3 : Value} {l : List (Int × Int)} (h : wx.cell? ⟨n2, 1, none⟩ = some v2 ∧ SpRest w n1 n2 u1 u2 u3 v1 v2 v3 l wx) (hb : Below wx.heap.size wx w2) : w2.cell? ⟨n2, 1, none⟩ = some v2 ∧ SpRest w n1 n2 u1 u2 u3 v1 v2 v3 l w2 := by
  have h2 := h.2.later hb
  obtain ⟨_, q, _⟩ := h2.2.1
  exact ⟨q, h2⟩

theorem keepR2 {w wx w2 : World} {n1 n2 : Nat} {u1 u2 u3 v1 v2 v3 : Value} {l : List (Int × Int)} (h : wx.cell? ⟨n2, 2, none⟩ = some v3 ∧ SpRest w n1 n2 u1 u2 u3 v1 v2 v3 l wx) (hb : Below wx.heap.size wx w2) : w2.cell? ⟨n2, 2, none⟩ = some v3 ∧ SpRest w n1 n2 u1 u2 u3 v1 v2 v3 l w2 := by
  have h2 := h.2.later hb
  obtain ⟨_, _, q, _⟩ := h2.2.1
  exact ⟨q, h2⟩

theorem restB {w wx : World} {n1 n2 : Nat} {u1 u2 u3 v1 v2 v3 y : Value} {l : List (Int × Int)} {q : Addr} (h : wx.cell? q = some y ∧ SpRest w n1 n2 u1 u2 u3 v1 v2 v3 l wx) : Below w.heap.size w wx := h.2.2.2.2
theorem restQ {w wx : World} {n1 n2 : Nat} {u1 u2 u3 v1 v2 v3 y : Value} {l : List (Int × Int)} {q : Addr} (h : wx.cell? q = some y ∧ SpRest w n1 n2 u1 u2 u3 v1 v2 v3 l wx) : RowAt wx v2 l.length 2 (pfCells l) := h.2.2.2.1

set_option maxRecDepth 20000 in
set_option maxHeartbeats 16000000 in
theorem spoilt_raw (v which : Int) (wrong : Bool) (vg : Value) (ar : Option Addr) (rn cr : Nat) (w : World) (W : Nat) (g a a0 : List (Int × Int)) (G S A T U1 U2 C M1 M2 T2 : ByteArray) (F : Nat → List UInt8)
    (pR : ∀ wx, Below w.heap.size w wx → Calls Try.prog 20 #[.slice ar rn cr, .int .i64 6] wx fun e w' => HandsL e wx w' a0)
    (pG : ∀ wx, Below w.heap.size w wx → Calls Try.prog 20 #[vg, .int .i64 5] wx fun e w' => HandsL e wx w' g)
    (pV : a0.length = 0 → ∀ wx (b : Nat), wx.cell? ⟨b, 0, none⟩ = some (.int .i64 v) → b < wx.heap.size → Calls Try.prog 20 #[.slice (some ⟨b, 0, none⟩) 1 1, .int .i64 1] wx fun e w' => HandsL e wx w' a)
    (HL : Hid (a0.length ≠ 0 → a = a0))
    (pk : CallsInt 23 #[.int .i64 which, .int .i64 3] (W : Int))
    (p7 : ∀ k : Nat, k < 3 → CallsStr 24 #[.int .i64 64, .int .i64 ((k : Int) + 1), .string ⟨#[7, 7]⟩, .bool false] (txt (atBytes 64 (k + 1) 1 spBad)))
    (pv : ∀ k : Nat, k < 3 → CallsStr 24 #[.int .i64 64, .int .i64 ((k : Int) + 1), .string (spVal k), .bool false] (txt (atBytes 64 (k + 1) 1 (spVal k))))
    (HF0 : Hid (F 0 = [])) (HF : Hid (∀ k, F (k + 1) = F k ++ spPiece W wrong k)) (HFl : Hid (∀ k, (txt (F k)).size ≤ 7 * k)) (HS : Hid (txt (F 3) = S))
    (pC1 : ∀ vv wx, RowAt wx vv g.length 2 (pfCells g) → Calls Try.prog 21 #[vv] wx fun e w' => e = .returned (.string G) ∧ Below wx.heap.size wx w')
    (pC2 : ∀ vv wx, RowAt wx vv a.length 2 (pfCells a) → Calls Try.prog 21 #[vv] wx fun e w' => e = .returned (.string A) ∧ Below wx.heap.size wx w')
    (pb1 : CallsStr 26 #[.int .i64 (G.size : Int), .int .i64 2] U1) (pb2 : CallsStr 26 #[.int .i64 (S.size : Int), .int .i64 2] U2)
    (HC : Hid (U1 ++ G ++ U2 ++ S ++ A = C)) (pM : CallsStr 25 #[.int .i64 2, .string C] M1)
    (pU1 : ∀ wx, Calls Try.prog 12 #[.string M1] wx fun e w' => HandsU e wx w' (g ++ a) [] ⟨#[]⟩)
    (pK : ∀ wx, Below w.heap.size w wx → Calls Try.prog 27 #[vg, .slice ar rn cr, .int .i64 v] wx fun e w' => e = .returned (.string M2) ∧ Below wx.heap.size wx w')
    (pU2 : ∀ wx, Calls Try.prog 12 #[.string M2] wx fun e w' => HandsU e wx w' g a0 T2)
    (pT : CallsStr 19 #[.int .i64 v, .bool true] T) (HT : Hid (0 < rn → T2 = T))
    (gl : g.length ≤ 10) (al : a.length ≤ 10) (al0 : a0.length ≤ 10) (g1 : G.size ≤ 100) (g2 : A.size ≤ 100) (g3 : U1.size ≤ 2) (g4 : U2.size ≤ 2) (g5 : S.size ≤ 30) :
    Calls Try.prog 7 #[.int .i64 v, .slice ar rn cr, vg, .int .i64 which, .bool wrong] w fun e w' => e = .returned (.bool true) ∧ Below w.heap.size w w' := by
  obtain ⟨i0, hi, hz0, hz1, hz2⟩ := info_parts info_pfx
  go_enter Try.func7, Try.ntmps7
  go_wp2_with fail
  refine (pR _ (Below.refl _ _)).mono ?_
  rintro e w1 ⟨x1, y1, rfl, hr1, B1⟩
  go_wp2_with fail
  refine (pG _ B1).mono ?_
  rintro e w2 ⟨x2, y2, rfl, hr2, hb2⟩
  have B2 := below_held B1 hb2
  have hq1 := hr1.later hb2
  clear hr1 B1 hb2
  go_upto_if 33 with fail
  go_cut [11] (fun s11 wx => ∃ x c, s11 = .slice x a.length c ∧ RowAt wx (.slice x a.length c) a.length 2 (pfCells a) ∧ RowAt wx (.slice x2 g.length y2) g.length 2 (pfCells g) ∧ Below w.heap.size w wx)
  case first =>
    by_cases h0 : a0.length = 0
    · have hz : ((a0.length : Int) == 0) = true := by rw [h0]; rfl
      have pV' := pV h0
      go_wp2_with fail
      refine (pV' _ w2.heap.size (by simp) (by simp)).mono ?_
      rintro e w3 ⟨a3, c3, rfl, hr3, hb3⟩
      go_wp2_with fail
      go_meet
      case rel => exact ⟨a3, c3, rfl, hr3, (hr2.later ((Below.refl _ _).alloc (Nat.le_refl _) _)).later hb3, below_held (B2.alloc B2.size _) hb3⟩
    · have hz : ((a0.length : Int) == 0) = false := by rw [beq_eq_false_iff_ne]; omega
      go_wp2_with fail
      go_meet
      case rel => rw [HL.out h0]; exact ⟨x1, y1, rfl, hq1, hr2, B2⟩
  case rest =>
    clear B2 hr2 hq1 pV HL
    obtain ⟨xa, ca, rfl, hra, hrg, B⟩ := hcut
    go_upto_block 0 with fail
    go_cut [14] (fun s14 wx => s14 = .string S ∧ RowAt wx (.slice xa a.length ca) a.length 2 (pfCells a) ∧ RowAt wx (.slice x2 g.length y2) g.length 2 (pfCells g) ∧ Below w.heap.size w wx)
    case first =>
      clear pR pG pC1 pC2 pM pU1 pK pU2 HC HT pT pb1 pb2
      go_wp2_with fail
      go_loopw [14, 15] (fun s i wr => ∃ k : Nat, k ≤ 3 ∧ i = .int .i64 k ∧ s = .string (txt (F k)) ∧ (∀ j, j < 3 → wr.cell? ⟨wc.heap.size, j, none⟩ = some (.string (spVal j))) ∧ wc.heap.size < wr.heap.size ∧ Below wc.heap.size wc wr) (fun _ i _ => 3 - (intOf i).toNat)
      case atStart =>
        refine ⟨0, by omega, rfl, by rw [HF0.out]; rfl, ?_, by simp, (Below.refl _ _).alloc (Nat.le_refl _) _⟩
        intro j hj
        have : j = 0 ∨ j = 1 ∨ j = 2 := by omega
        rcases this with rfl | rfl | rfl <;> simp [spVal]
      case round =>
        obtain ⟨k, hk, rfl, rfl, hcs, hlt, hb⟩ := hrel
        by_cases hk3 : k < 3
        · have h7 := p7 k hk3
          have hv := pv k hk3
          have hc := hcs k hk3
          have hz := HFl.out k
          have HW := hide (HF.out k)
          have HP : Hid (spPiece W wrong k = if k = W then (if wrong = true then atBytes 64 (k + 1) 1 spBad else []) else atBytes 64 (k + 1) 1 (spVal k)) := rfl
          have z7 : (txt (atBytes 64 (k + 1) 1 spBad)).size ≤ 20 := by rw [txt_len, atBytes_length]; decide
          have zv : (txt (atBytes 64 (k + 1) 1 (spVal k))).size ≤ 20 := by have := sp_len k; rw [txt_len, atBytes_length]; omega
          have HX7 : Hid (∀ p : List UInt8, txt p ++ txt (atBytes 64 (k + 1) 1 spBad) = txt (p ++ atBytes 64 (k + 1) 1 spBad)) := fun p => txt_app _ _
          have HXv : Hid (∀ p : List UInt8, txt p ++ txt (atBytes 64 (k + 1) 1 (spVal k)) = txt (p ++ atBytes 64 (k + 1) 1 (spVal k))) := fun p => txt_app _ _
          have HY := HX7.out (F k)
          have HYv := HXv.out (F k)
          have HE : Hid (k = W → wrong = true → txt (F k) ++ txt (atBytes 64 (k + 1) 1 spBad) = txt (F (k + 1))) := fun h1 h2 => by rw [HY, HW.out, HP.out, if_pos h1, if_pos h2]
          have HE0 : Hid (k = W → wrong = false → txt (F k) = txt (F (k + 1))) := fun h1 h2 => by rw [HW.out, HP.out, if_pos h1, if_neg (by simp [h2]), List.append_nil]
          have HEv : Hid (k ≠ W → txt (F k) ++ txt (atBytes 64 (k + 1) 1 (spVal k)) = txt (F (k + 1))) := fun h1 => by rw [HYv, HW.out, HP.out, if_neg h1]
          have HCS := hide hcs
          clear HY HYv HX7 HXv HW HP hcs p7 pv HF HF0 HFl HS
          generalize txt (atBytes 64 (k + 1) 1 spBad) = X7 at *
          generalize txt (atBytes 64 (k + 1) 1 (spVal k)) = Xv at *
          generalize txt (F k) = P at *
          generalize spVal k = V at *
          by_cases hkw : k = W
          · have q1 : ((k : Int) == (W : Int)) = true := by rw [hkw]; simp
            have q2 : ((k : Int) != (W : Int)) = false := by rw [hkw]; simp
            have HE1 := hide (HE.out hkw)
            have HE2 := hide (HE0.out hkw)
            clear HE HE0 HEv hkw
            cases wrong with
            | true =>
              go_wp2_with (first | (go_at_call 23; refine (pk _).mono ?_; rintro e w' ⟨rfl, hw⟩; rw [hw]; clear hw w') | (go_at_call 24; refine (h7 _).mono ?_; rintro e w9 ⟨rfl, hb9⟩))
              exact ⟨⟨k + 1, by omega, by go_num, by rw [← HE1.out (by trivial)], fun j hj => (hb9.cell (p := ⟨wc.heap.size, j, none⟩) hlt).trans (HCS.out j hj), Nat.lt_of_lt_of_le hlt hb9.size, below_held hb hb9⟩, by simp [intOf]; omega⟩
            | false =>
              go_wp2_with (first | (go_at_call 23; refine (pk _).mono ?_; rintro e w' ⟨rfl, hw⟩; rw [hw]; clear hw w'))
              exact ⟨⟨k + 1, by omega, by go_num, by rw [← HE2.out (by trivial)], HCS.out, hlt, hb⟩, by simp [intOf]; omega⟩
          · have q1 : ((k : Int) == (W : Int)) = false := by rw [beq_eq_false_iff_ne]; omega
            have q2 : ((k : Int) != (W : Int)) = true := by rw [bne_iff_ne]; omega
            have HE1 := hide (HEv.out hkw)
            clear HE HE0 HEv hkw
            go_wp2_with (first | (go_at_call 23; refine (pk _).mono ?_; rintro e w' ⟨rfl, hw⟩; rw [hw]; clear hw w') | (go_at_call 24; refine (hv _).mono ?_; rintro e w9 ⟨rfl, hb9⟩))
            exact ⟨⟨k + 1, by omega, by go_num, by rw [← HE1.out], fun j hj => (hb9.cell (p := ⟨wc.heap.size, j, none⟩) hlt).trans (HCS.out j hj), Nat.lt_of_lt_of_le hlt hb9.size, below_held hb hb9⟩, by simp [intOf]; omega⟩
        · have e : k = 3 := by omega
          subst e
          go_wp2_with fail
          go_meet
          case rel => exact ⟨by rw [HS.out], hra.later hb, hrg.later hb, below_held B hb⟩
    case rest =>
      clear p7 pv HF HF0 HFl HS pk B hra hrg
      obtain ⟨rfl, hra, hrg, B⟩ := hcut
      go_wp2_with fail
      refine (pC1 _ _ hrg).mono ?_
      rintro e w3 ⟨rfl, hb3⟩
      have B3 := below_held B hb3
      have ra3 := hra.later hb3
      have rg3 := hrg.later hb3
      clear B hb3 hra hrg
      go_wp2_with fail
      refine (pb1 _).mono ?_
      rintro e w4 ⟨rfl, hb4⟩
      have B4 := below_held B3 hb4
      have ra4 := ra3.later hb4
      have rg4 := rg3.later hb4
      clear B3 hb4 ra3 rg3
      go_wp2_with fail
      refine (pb2 _).mono ?_
      rintro e w5 ⟨rfl, hb5⟩
      have B5 := below_held B4 hb5
      have ra5 := ra4.later hb5
      have rg5 := rg4.later hb5
      clear B4 hb5 ra4 rg4
      go_wp2_with fail
      refine (pC2 _ _ ra5).mono ?_
      rintro e w6 ⟨rfl, hb6⟩
      have B6 := below_held B5 hb6
      have ra6 := ra5.later hb6
      have rg6 := rg5.later hb6
      clear B5 hb6 ra5 rg5
      go_wp2_with fail
      rw [HC.out]
      refine (pM _).mono ?_
      rintro e w7 ⟨rfl, hb7⟩
      have B7 := below_held B6 hb7
      have ra7 := ra6.later hb7
      have rg7 := rg6.later hb7
      clear B6 hb7 ra6 rg6
      go_wp2_with fail
      refine (pU1 _).mono ?_
      rintro e w8 ⟨m1, n1, m2, n2, rfl, hb8, ru8, _⟩
      have B8 := below_held B7 hb8
      have ra8 := ra7.later hb8
      have rg8 := rg7.later hb8
      clear B7 hb8 ra7 rg7 pM pU1 pC1 pC2 pb1 pb2 HC
      rw [List.length_append] at ru8
      have bx := box3_new w8 (.slice m1 (g.length + a.length) n1) (.slice m2 0 n2) (.string ⟨#[]⟩) 28
      have ba : Below w8.heap.size w8 (w8.alloc (.cells #[.slice m1 (g.length + a.length) n1, .slice m2 0 n2, .string ⟨#[]⟩] 28)) := (Below.refl _ _).alloc (Nat.le_refl _) _
      have B9 := below_held B8 ba
      have ra9 := ra8.later ba
      have rg9 := rg8.later ba
      have ru9 := ru8.later ba
      clear B8 ra8 rg8 ru8 ba
      go_upto_block 2 with fail
      generalize w8.alloc (.cells #[.slice m1 (g.length + a.length) n1, .slice m2 0 n2, .string ⟨#[]⟩] 28) = wz at *
      go_cut [19] (fun s19 wx => ∃ lv, s19 = lv ∧ wx.ownsRow wz.heap.size 36 2 lv g.length (pfCells g) ∧ Below wz.heap.size wz wx)
      case first =>
        go_wp2_with fail
        go_loopw [19, 20] (fun x i wr => ∃ (k : Nat) (lv : Value), lv = x ∧ k ≤ g.length ∧ i = .int .i64 k ∧ wr.ownsRow wz.heap.size 36 2 lv k (pfCells ([] ++ g.take k)) ∧ Below wz.heap.size wz wr) (fun _ i _ => g.length - (intOf i).toNat)
        case atStart => exact ⟨0, _, rfl, Nat.zero_le _, rfl, World.ownsRow_nil _ _ _ _, Below.refl _ _⟩
        case round =>
          obtain ⟨k, lv, rfl, hk, rfl, hown, hbel⟩ := hrel
          by_cases hlt : k < g.length
          · rcases (rg9.later hbel).2 with ⟨_, _, _, h0⟩ | ⟨b, o, cap, e, _, hb, hc⟩
            · omega
            · cases e
              obtain ⟨q1, q2⟩ := pfCells_get g k hlt
              have c1 := hc _ _ q1
              have c2 : wr.cell? ⟨b, o + k * 2 + 1, none⟩ = _ := hc _ _ q2
              have HT3 := hide (pf_take_k [] g k hlt)
              have hx : (k : Int) < (g.length : Int) := by omega
              clear hc q1 q2 rg9 ra9 ru9 bx B9 pR pG pK pU2 pT HT
              generalize g[k] = p at *
              go_wp2_with (at_builtin; refine wpList_append_own _ rfl _ _ 26 rfl wz.heap.size 36 i0 (.agg #[.int .i64 0, .int .i64 0]) 2 16 Try.underlying26 hi hz0 hz1 hz2 rfl (by decide) _ _ _ rfl (hown.alloc _) ⟨wr.heap.size, 0, none⟩ 1 1 [.int .i64 p.1, .int .i64 p.2] rfl rfl (cells_new _ _ _) (kp_two _ _) (by unfold maxLen; omega) (by omega) (Nat.le_trans hbel.size (by simp)) ?_; intro v5 w5 hown5 hgrow5 _)
              exact ⟨⟨k + 1, v5, rfl, by omega, by go_num, by rw [HT3.out]; exact hown5, below_app hbel hbel.size hown hgrow5⟩, by simp [intOf]; omega⟩
          · have hk2 : k = g.length := by omega
            subst hk2
            rw [List.nil_append, List.take_length] at hown
            go_wp2_with fail
            go_meet
            case rel => exact ⟨lv, rfl, hown, hbel⟩
      case rest =>
        obtain ⟨lv0, rfl, hown0, hbel0⟩ := hcut
        go_upto_block 4 with fail
        go_cut [19] (fun s19 wx => ∃ lv, s19 = lv ∧ wx.ownsRow wz.heap.size 36 2 lv (g.length + a.length) (pfCells (g ++ a)) ∧ Below wz.heap.size wz wx)
        case first =>
          go_wp2_with fail
          go_loopw [19, 21] (fun x i wr => ∃ (k : Nat) (lv : Value), lv = x ∧ k ≤ a.length ∧ i = .int .i64 k ∧ wr.ownsRow wz.heap.size 36 2 lv (g.length + k) (pfCells (g ++ a.take k)) ∧ Below wz.heap.size wz wr) (fun _ i _ => a.length - (intOf i).toNat)
          case atStart => exact ⟨0, _, rfl, Nat.zero_le _, rfl, by simpa using hown0, hbel0⟩
          case round =>
            obtain ⟨k, lv, rfl, hk, rfl, hown, hbel⟩ := hrel
            by_cases hlt : k < a.length
            · rcases (ra9.later hbel).2 with ⟨_, _, _, h0⟩ | ⟨b, o, cap, e, _, hb, hc⟩
              · omega
              · cases e
                obtain ⟨q1, q2⟩ := pfCells_get a k hlt
                have c1 := hc _ _ q1
                have c2 : wr.cell? ⟨b, o + k * 2 + 1, none⟩ = _ := hc _ _ q2
                have HT3 := hide (pf_take_k g a k hlt)
                have hx : (k : Int) < (a.length : Int) := by omega
                clear hc q1 q2 rg9 ra9 ru9 bx B9 pR pG pK pU2 pT HT hown0 hbel0
                generalize a[k] = p at *
                go_wp2_with (at_builtin; refine wpList_append_own _ rfl _ _ 26 rfl wz.heap.size 36 i0 (.agg #[.int .i64 0, .int .i64 0]) 2 16 Try.underlying26 hi hz0 hz1 hz2 rfl (by decide) _ _ _ rfl (hown.alloc _) ⟨wr.heap.size, 0, none⟩ 1 1 [.int .i64 p.1, .int .i64 p.2] rfl rfl (cells_new _ _ _) (kp_two _ _) (by unfold maxLen; omega) (by omega) (Nat.le_trans hbel.size (by simp)) ?_; intro v5 w5 hown5 hgrow5 _)
                exact ⟨⟨k + 1, v5, rfl, by omega, by go_num, by rw [HT3.out]; exact hown5, below_app hbel hbel.size hown hgrow5⟩, by simp [intOf]; omega⟩
            · have hk2 : k = a.length := by omega
              subst hk2
              rw [List.take_length] at hown
              go_wp2_with fail
              go_meet
              case rel => exact ⟨lv, rfl, hown, hbel⟩
        case rest =>
          clear hown0 hbel0
          obtain ⟨lv, rfl, hown, hbel⟩ := hcut
          obtain ⟨b1, b2, rfl⟩ := slice_of_owns hown
          have Bk := below_held B9 hbel
          have ruk := ru9.later hbel
          have rgk := rg9.later hbel
          have bxk := bx.later hbel
          have rok := rowAt_of_owns hown
          clear B9 ra9 rg9 ru9 bx hown hbel
          obtain ⟨e0, e1, e2, e3, e4, e5, el⟩ := bxk
          go_wp2_with fail
          refine (keepSame_any _ _ (g ++ a) m1 b1 n1 b2 _ (by rw [List.length_append]; omega) (by rw [List.length_append]) (by rw [List.length_append]) (by rw [List.length_append]; exact ruk) (by rw [List.length_append]; exact rok)).mono ?_
          rintro e wk ⟨rfl, hbk⟩
          have B10 := below_held Bk hbk
          have rg10 := rgk.later hbk
          have bx10 := Box3.later ⟨e0, e1, e2, e3, e4, e5, el⟩ hbk
          clear Bk rgk e0 e1 e2 e3 e4 e5 el hbk ruk rok
          go_wp2_with fail
          refine (pK _ B10).mono ?_
          rintro e w11 ⟨rfl, hb11⟩
          have B11 := below_held B10 hb11
          have rg11 := rg10.later hb11
          have bx11 := bx10.later hb11
          clear B10 rg10 bx10 hb11
          go_wp2_with fail
          refine (pU2 _).mono ?_
          rintro e w12 ⟨s1, t1, s2, t2, rfl, hb12, rs1, rs2⟩
          have B12 := below_held B11 hb12
          have rg12 := rg11.later hb12
          have bx12 := bx11.later hb12
          clear B11 rg11 bx11 hb12
          have by12 := box3_new w12 (.slice s1 g.length t1) (.slice s2 a0.length t2) (.string T2) 28
          have ba : Below w12.heap.size w12 (w12.alloc (.cells #[.slice s1 g.length t1, .slice s2 a0.length t2, .string T2] 28)) := (Below.refl _ _).alloc (Nat.le_refl _) _
          have B13 := below_held B12 ba
          have rg13 := rg12.later ba
          have bx13 := bx12.later ba
          have r13 := rs1.later ba
          have q13 := rs2.later ba
          clear B12 rg12 bx12 ba rs1 rs2 pK pU2
          go_wp2_with fail
          generalize w12.alloc (.cells #[.slice s1 g.length t1, .slice s2 a0.length t2, .string T2] 28) = wy at *
          refine (keepSame_any _ _ g s1 x2 t1 y2 _ (by omega) rfl rfl r13 rg13).mono ?_
          rintro e w14 ⟨rfl, hb14⟩
          have HR : SpRest w w8.heap.size w12.heap.size (.slice m1 (g.length + a.length) n1) (.slice m2 0 n2) (.string ⟨#[]⟩) (.slice s1 g.length t1) (.slice s2 a0.length t2) (.string T2) a0 w14 := ⟨bx13.later hb14, by12.later hb14, q13.later hb14, below_held B13 hb14⟩
          clear B13 rg13 bx13 by12 r13 q13 hb14
          have HR2 := HR
          obtain ⟨_, ⟨e0, e1, e2, e3, e4, e5, el⟩, _, _⟩ := HR2
          go_wp2
          go_region_held (fun w' => w'.cell? ⟨w12.heap.size, 1, none⟩ = some (.slice s2 a0.length t2) ∧ SpRest w w8.heap.size w12.heap.size (.slice m1 (g.length + a.length) n1) (.slice m2 0 n2) (.string ⟨#[]⟩) (.slice s1 g.length t1) (.slice s2 a0.length t2) (.string T2) a0 w')
            (first | assumption | (exact keepR1 ⟨e1, HR⟩ (Below.refl _ _).drew) | (exact keepR1 (by assumption) (by assumption)))
            (first | (go_at_call 20; refine (pR _ (restB (by assumption))).mono ?_; rintro e w15 ⟨s5, t5, rfl, r15, hb15⟩) | (go_at_call 22; refine (keepSame_any _ _ a0 s2 s5 t2 t5 _ (by omega) rfl rfl (restQ (by assumption)) (by assumption)).mono ?_; rintro e w16 ⟨rfl, hb16⟩))
          have hS := (‹w16.cell? _ = some _ ∧ _› : w16.cell? ⟨w12.heap.size, 1, none⟩ = some (.slice s2 a0.length t2) ∧ SpRest w w8.heap.size w12.heap.size (.slice m1 (g.length + a.length) n1) (.slice m2 0 n2) (.string ⟨#[]⟩) (.slice s1 g.length t1) (.slice s2 a0.length t2) (.string T2) a0 w16)
          have HR3 := hS.2
          clear hS hb15 hb16 r15 HR e0 e1 e2 e3 e4 e5 el pR pG
          have HR4 := HR3
          obtain ⟨_, ⟨e0, e1, e2, e3, e4, e5, el⟩, _, _⟩ := HR4
          by_cases h0 : 0 < rn
          · have hg : (0 : Int) < (rn : Int) := by omega
            have eT := HT.out h0
            clear HT
            subst eT
            go_wp2
            go_region_held (fun w' => w'.cell? ⟨w12.heap.size, 2, none⟩ = some (.string T2) ∧ SpRest w w8.heap.size w12.heap.size (.slice m1 (g.length + a.length) n1) (.slice m2 0 n2) (.string ⟨#[]⟩) (.slice s1 g.length t1) (.slice s2 a0.length t2) (.string T2) a0 w')
              (first | assumption | (exact keepR2 ⟨e2, HR3⟩ (Below.refl _ _).drew) | (exact keepR2 (by assumption) (by assumption)))
              (first | (go_at_call 19; refine (pT _).mono ?_; rintro e w17 ⟨rfl, hb17⟩))
            all_goals
              have hS := (‹w17.cell? _ = some _ ∧ _› : w17.cell? ⟨w12.heap.size, 2, none⟩ = some (.string T2) ∧ SpRest w w8.heap.size w12.heap.size (.slice m1 (g.length + a.length) n1) (.slice m2 0 n2) (.string ⟨#[]⟩) (.slice s1 g.length t1) (.slice s2 a0.length t2) (.string T2) a0 w17)
              obtain ⟨_, ⟨d0, d1, d2, _, _, _, dl⟩, _, _, Bz⟩ := hS
              clear e0 e1 e2
              go_wp2
              go_ret
              exact ⟨rfl, Bz⟩
          · have hg : ¬ (0 : Int) < (rn : Int) := by omega
            have hd : decide ((0 : Int) < (rn : Int)) = false := decide_eq_false hg
            have Bz := HR3.2.2.2
            obtain ⟨d0, d1, d2, _, _, _, dl⟩ := HR3.1
            go_wp2
            go_quiet (fail)
            go_wp2
            go_ret
            exact ⟨rfl, below_drewN Bz _⟩

end Go.Proofs.Ytjjakgmjoplhoaa
/-
  A slice of numbers that came in, as a row.
-/
namespace Go.Proofs.Ytjjakgmjoplhoaa
open Go.ChangeShapes Go.WideShapes Go.ChangeAt Go.RowKit
open Rl

theorem laidOut : laidOutB Try.prog = true := by kernel_rfl

theorem inI64_wf {n : Int} (h : (Lit.int .i64 n).wf = true) : inI64 n := by
  have e1 : IntKind.i64.min = -9223372036854775808 := by decide
  have e2 : IntKind.i64.max = 9223372036854775807 := by decide
  simp [Lit.wf] at h
  unfold inI64
  omega

theorem opened_ints {H : Type} {enc : TypeId × Value → H} {W : World} {a : Option Addr} {len cap fuel : Nat} {x : DataW H × List MemPlace}
    (h : DataW.trod enc Try.prog W 0 (fun _ => true) true fuel 40 [.slice a len cap] = some x) :
    ∃ l : List Int, l.length = len ∧ RowAt W (.slice a l.length cap) l.length 1 (ints l) ∧ (∀ c ∈ l, inI64 c) ∧ l.length ≤ 9223372036854775807 := by
  have cellsI : Try.prog.cellsOf 3 = 1 := by kernel_rfl
  rcases ChangeShapes.open_ints Try.underlying40 Try.underlying3 cellsI h with ⟨hcs, rfl⟩ | ⟨a', len', cap', zs, hcs, _, hl, hm, hz, rfl, hx, hwf⟩
  · simp only [List.cons.injEq, Value.slice.injEq, and_true] at hcs
    obtain ⟨rfl, rfl, rfl⟩ := hcs
    exact ⟨[], rfl, RowAt.nil _ _ _ _, by simp, by simp⟩
  · simp only [List.cons.injEq, Value.slice.injEq, and_true] at hcs
    obtain ⟨rfl, rfl, rfl⟩ := hcs
    simp only [if_true] at hz
    have hlen : (zs.take len).length = len := by simp; omega
    refine ⟨zs.take len, hlen, ?_, ?_, ?_⟩
    · rw [hlen]
      refine ⟨by simp [ints]; omega, ?_⟩
      by_cases h0 : len = 0
      · subst h0; exact .inl ⟨_, _, rfl, rfl⟩
      · have hc0 := hx 0 (by omega)
        have hsp := World.cell?_spot hc0
        obtain ⟨b, o, spot⟩ := a'
        have hspot : spot = none := by simpa [Addr.add] using hsp
        subst hspot
        have hadd : ∀ j, (⟨b, o, none⟩ : Addr).add j = ⟨b, o + j, none⟩ := by intro j; unfold Addr.add; split <;> simp_all
        refine .inr ⟨b, o, cap, rfl, by omega, ?_, ?_⟩
        · have := World.block_lt_of_cell? _ _ hc0
          rw [hadd] at this
          exact this
        · intro j u hu
          unfold ints at hu
          rw [List.getElem?_map] at hu
          obtain ⟨z, hz1, rfl⟩ := Option.map_eq_some_iff.1 hu
          have hj : j < len := by
            have := (List.getElem?_eq_some_iff.1 hz1).1
            omega
          have hc := hx j (by omega)
          rw [hadd] at hc
          rw [List.getElem?_take_of_lt hj] at hz1
          rw [hc, List.getD_eq_getElem?_getD, hz1]
          rfl
    · intro c hc
      exact inI64_wf (hwf c (List.mem_of_mem_take hc))
    · rw [hlen]
      have : maxLen = 9223372036854775807 := by decide
      omega

end Go.Proofs.Ytjjakgmjoplhoaa
