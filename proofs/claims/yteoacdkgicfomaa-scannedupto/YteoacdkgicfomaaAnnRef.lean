/-
  The document's Announce, walked.
-/
import Derived.Test.YteoacdkgicfomaaToldWalks
import Derived.Test.YteoacdkgicfomaaCanonRef
import Derived.Test.YteoacdkgicfomaaAnnMath
import Derived.Test.YteoacdkgicfomaaJoinWalks
namespace Go.Proofs.Yteoacdkgicfomaa
open Go.RowKit
open Rl

/-- the row of marks when j of them are written. -/
def markRow (j : Nat) : List UInt8 := List.replicate j 255 ++ List.replicate (16 - j) 0

theorem markRow_length (j : Nat) (h : j ≤ 16) : (markRow j).length = 16 := by simp [markRow]; omega

theorem markRow_step (j : Nat) (h : j < 16) : (markRow j).set j 255 = markRow (j + 1) := by
  unfold markRow
  have e : 16 - j = (16 - (j + 1)) + 1 := by omega
  rw [e, List.set_append, List.replicate_succ, List.replicate_succ']
  simp

set_option maxRecDepth 20000 in
set_option maxHeartbeats 400000 in
theorem marks_any (w : World) :
    Calls Try.prog 66 #[] w fun e w' => e = .returned (.string ⟨mark16.toArray⟩) ∧ Below w.heap.size w w' := by
  obtain ⟨i0, hi, hz0, hz1, hz2⟩ := info_parts info_u8
  go_enter Try.func66, Try.ntmps66
  go_wp2_with (at_make; refine wpList_make_full _ rfl _ _ 59 rfl w.heap.size 5 i0 (.int .u8 0) 1 Try.underlying59 hi hz0 hz1 .i64 .i64 _ _ 16 rfl rfl rfl rfl (by rw [hz2]; omega) (by unfold maxLen; omega) (Nat.le_refl _) ?_; intro w1 hown hgrow)
  have h0 : (madeCells (Value.int .u8 0).cells (16 * 1)).toList = u8s (markRow 0) := zeros_u8 16
  rw [h0] at hown
  clear h0
  go_loopw [2] (fun i wr => ∃ j : Nat, j ≤ 16 ∧ i = .int .i64 j ∧ wr.ownsRow w.heap.size 5 1 (.slice (some ⟨w.heap.size, 0, none⟩) 16 16) 16 (u8s (markRow j)) ∧ Below w.heap.size w wr) (fun i _ => 16 - (intOf i).toNat)
  case atStart => exact ⟨0, by omega, rfl, hown, (Below.refl _ _).grown hgrow (Nat.le_refl _) (by simp)⟩
  case round =>
    obtain ⟨j, hj, rfl, hr, hb⟩ := hrel
    by_cases hlt : j < 16
    · have hcell := hr.cellAt j (by omega)
      rw [u8s_get _ _ (by rw [markRow_length _ hj]; omega)] at hcell
      have hfrozen := hr.frozenAt j
      have H := hide (hr.stored j (.int .u8 255))
      have HR := hide (markRow_step j hlt)
      clear hr
      go_wp2
      go_roundw
      case rel => exact ⟨j + 1, by omega, by go_num, by have h := H.out.1; rw [set_u8s _ j 255 255 (by decide), HR.out] at h; exact h, hb.setCell (by simp) _⟩
      case measure => simp [intOf]; omega
    · have e : j = 16 := by omega
      subst e
      have hconv := run_convert_own (P := Try.prog) 59 9 Try.underlying59 Try.underlying5 Try.underlying9 hr
      clear hr
      go_wp2
      go_ret
      exact ⟨rfl, hb⟩

theorem size_arr (l : List UInt8) : (ByteArray.mk l.toArray).size = l.length := by show l.toArray.size = _; simp

theorem data_arr (l : List UInt8) : (ByteArray.mk l.toArray).data.toList = l := by simp

set_option maxHeartbeats 1600000 in
theorem message_any (k : Nat) (c : ByteArray) (w : World) (hk : k < 256) (hc : c.size ≤ 1073741824) :
    Calls Try.prog 46 #[.int .i64 (k : Int), .string c] w fun e w' => e = .returned (.string ⟨(msgOf k c.data.toList).toArray⟩) ∧ Below w.heap.size w w' := by
  have h0 := fun w => marks_any w
  have h1 := fun w => bytes_any (19 + c.size) 2 w (by omega) (by omega)
  have h2 := fun w => bytes_any k 1 w (by omega) (by omega)
  have s0 := size_arr mark16
  have s1 := size_arr (be 2 (19 + c.size))
  have s2 := size_arr (be 1 k)
  rw [be_length] at s1 s2
  have hs0 : mark16.length = 16 := by simp [mark16]
  rw [hs0] at s0
  obtain ⟨M, eM⟩ : ∃ M : ByteArray, M = ⟨mark16.toArray⟩ := ⟨_, rfl⟩
  obtain ⟨U, eU⟩ : ∃ U : ByteArray, U = ⟨(be 2 (19 + c.size)).toArray⟩ := ⟨_, rfl⟩
  obtain ⟨V, eV⟩ : ∃ V : ByteArray, V = ⟨(be 1 k).toArray⟩ := ⟨_, rfl⟩
  rw [← eM] at s0 h0
  rw [← eU] at s1 h1
  rw [← eV] at s2 h2
  have t0 : M.size ≤ 16 := by omega
  have t1 : U.size ≤ 2 := by omega
  have t2 : V.size ≤ 1 := by omega
  have HE : Hid (M ++ U ++ V ++ c = ⟨(msgOf k c.data.toList).toArray⟩) := by
    apply bytes_ext
    rw [append_data, append_data, append_data, eM, eU, eV, data_arr, data_arr, data_arr, data_arr]
    unfold msgOf
    rw [len_data]; simp
  clear s0 s1 s2 eM eU eV hs0
  obtain ⟨N, eN⟩ : ∃ N, N = 19 + c.size := ⟨_, rfl⟩
  have hN : 19 + (c.size : Int) = (N : Int) := by omega
  rw [← eN] at h1
  clear eN
  go_enter Try.func46, Try.ntmps46
  go_wp2_with fail
  refine (h0 _).mono ?_
  rintro e w1 ⟨rfl, hb1⟩
  go_wp2_with fail
  refine (h1 _).mono ?_
  rintro e w2 ⟨rfl, hb2⟩
  have b2 := later_below hb1 hb2 hb1.size
  go_wp2_with fail
  refine (h2 _).mono ?_
  rintro e w3 ⟨rfl, hb3⟩
  have b3 := later_below b2 hb3 b2.size
  go_wp2
  go_ret
  exact ⟨ret_str HE.out, b3⟩

theorem wire_snoc (l : List (Int × Int)) (k : Nat) (h : k < l.length) : pfWire (pfNats (l.take (k + 1))) = pfWire (pfNats (l.take k)) ++ pfxBytes (l[k].1.toNat, l[k].2.toNat) := by
  unfold pfNats
  rw [List.take_succ_eq_append_getElem h, List.map_append]
  unfold pfWire
  rw [List.flatMap_append]
  simp

theorem str_add (a b : List UInt8) : (ByteArray.mk a.toArray) ++ (ByteArray.mk b.toArray) = ⟨(a ++ b).toArray⟩ := by
  apply bytes_ext; rw [append_data]

theorem canB_len (s : ByteArray) (h : canB s = true) : 0 < (canL s).length := by
  unfold canB at h
  unfold canL
  cases hr : canR s (-1) with
  | none => rw [hr] at h; simp at h
  | some l =>
    rw [hr] at h
    have h3 : needN l = 3 := by simpa using h
    have := needN_le l
    show 0 < l.length
    omega

theorem wireA_le (l : List At) (k : Nat) : ((l.take k).flatMap atWire).length ≤ (l.flatMap atWire).length := by
  conv => rhs; rw [← List.take_append_drop k l, List.flatMap_append, List.length_append]
  omega

theorem wireA_step (l : List At) (k : Nat) (h : k < l.length) : (l.take (k + 1)).flatMap atWire = (l.take k).flatMap atWire ++ atWire l[k] := by
  rw [List.take_succ_eq_append_getElem h, List.flatMap_append, List.flatMap_cons, List.flatMap_nil, List.append_nil]

theorem str_add5 (p : List UInt8) (F kd z : Nat) (v : ByteArray) : (ByteArray.mk p.toArray) ++ (ByteArray.mk (be 1 F).toArray) ++ (ByteArray.mk (be 1 kd).toArray) ++ (ByteArray.mk (be z v.size).toArray) ++ v = ⟨(p ++ atBytes F kd z v).toArray⟩ := by
  apply bytes_ext
  rw [append_data, append_data, append_data, append_data]
  simp [atBytes]

set_option maxRecDepth 20000 in
set_option maxHeartbeats 16000000 in
theorem announceRef_any (s : ByteArray) (v : Value) (l : List (Int × Int)) (a0 : Option Addr) (c0 : Nat) (w : World) (hs : s.size ≤ 1048576) (hl : l.length ≤ 1048576) (hv : v = .slice a0 l.length c0) (hr : RowAt w v l.length 2 (pfCells l)) :
    Calls Try.prog 18 #[.string s, v] w fun e w' => e = .returned (.tuple #[.string ⟨(annM s l).toArray⟩, .int .i64 (annE s l)]) ∧ Below w.heap.size w w' := by
  have hcan := fun w => canonical_any s w hs
  cases hb : canB s with
  | false =>
    have HB := hide (ann_bad s l (annOk_can s l hb))
    rw [hb] at hcan
    subst hv
    go_enter Try.func18, Try.ntmps18
    go_wp2_with (go_at_call 42; refine (hcan _).mono ?_; rintro e w1 ⟨lv, rfl, hb1, _⟩)
    go_ret2
    exact ⟨ret_se (by rw [HB.out.1]) HB.out.2.symm, hb1⟩
  | true =>
    rw [hb] at hcan
    rcases hr.2 with ⟨a1, c1, hv1, hn⟩ | ⟨b, o, cap, hv1, hn, hbk, hc⟩
    · have e0 : l = [] := List.eq_nil_of_length_eq_zero hn
      subst e0
      have HB := hide (ann_bad s [] (annOk_nil s))
      subst hv
      go_enter Try.func18, Try.ntmps18
      go_wp2_with (go_at_call 42; refine (hcan _).mono ?_; rintro e w1 ⟨lv, rfl, hb1, _⟩)
      go_ret2
      exact ⟨ret_se (by rw [HB.out.1]) HB.out.2.symm, hb1⟩
    · have hz : ((l.length : Int) == 0) = false := by rw [beq_eq_false_iff_ne]; omega
      clear hv
      subst hv1
      go_enter Try.func18, Try.ntmps18
      go_wp2_with (go_at_call 42; refine (hcan _).mono ?_; rintro e w1 ⟨lv, rfl, hb1, hown1⟩)
      obtain ⟨ho1, hle1⟩ := hown1 trivial
      clear hcan hown1
      go_loopw [7, 8, 9] (fun q x i wr => ∃ k : Nat, k ≤ l.length ∧ i = .int .i64 k ∧ pfAll (l.take k) = true ∧ x = .string ⟨(pfWire (pfNats (l.take k))).toArray⟩ ∧ Below w1.heap.size w1 wr) (fun _ _ i _ => l.length - (intOf i).toNat)
      case atStart => exact ⟨0, Nat.zero_le _, rfl, rfl, rfl, Below.refl _ _⟩
      case round =>
        obtain ⟨k, hk, rfl, hall, rfl, hbel⟩ := hrel
        have HA := hide hall
        by_cases hlt : k < l.length
        · obtain ⟨g1, g2⟩ := pfCells_get l k hlt
          have hbk1 : b < w1.heap.size := Nat.lt_of_lt_of_le hbk hb1.size
          have c1 := (hbel.cell (p := ⟨b, o + k * 2, none⟩) hbk1).trans ((hb1.cell (p := ⟨b, o + k * 2, none⟩) hbk).trans (hc _ _ g1))
          have c2 := (hbel.cell (p := ⟨b, o + k * 2 + 1, none⟩) hbk1).trans ((hb1.cell (p := ⟨b, o + k * 2 + 1, none⟩) hbk).trans (hc _ _ g2))
          have HB := hide (fun h => ann_bad s l (annOk_all s l (pfAll_take_bad l k hlt h)))
          have HT := hide (pfAll_take l k hlt HA.out)
          have HW := hide (wire_snoc l k hlt)
          have hwl := pfWire_nats_le (l.take k) hall
          rw [List.length_take] at hwl
          have hpre := fun w => isPrefix_any l[k].1 l[k].2 w
          clear hc g1 g2 HA hall
          obtain ⟨a, ea⟩ : ∃ a, a = l[k].1 := ⟨_, rfl⟩
          obtain ⟨n, en⟩ : ∃ n, n = l[k].2 := ⟨_, rfl⟩
          rw [← ea, ← en] at HB HT HW hpre
          rw [← ea] at c1
          rw [← en] at c2
          clear ea en
          cases hok : pfxOk a n with
          | false =>
            have HB2 := hide (HB.out hok)
            rw [hok] at hpre
            clear HB HT HW
            go_wp2_with (go_at_call 43; refine (hpre _).mono ?_; rintro e w2 ⟨rfl, hb2⟩)
            go_ret2
            exact ⟨ret_se (by rw [HB2.out.1]) HB2.out.2.symm, later_below hb1 (later_below hbel hb2 hbel.size) hb1.size⟩
          | true =>
            obtain ⟨h0, h1, ha, ha'⟩ := pfxOk_bounds a n hok
            have HT2 := hide (HT.out hok)
            rw [hok] at hpre
            clear HB HT
            obtain ⟨a, rfl⟩ := Int.eq_ofNat_of_zero_le ha
            obtain ⟨n, rfl⟩ := Int.eq_ofNat_of_zero_le h0
            have ht := fun w => told_any a n w (by omega) (by omega)
            rw [Int.toNat_natCast, Int.toNat_natCast] at HW
            have hsz1 := size_arr (pfWire (pfNats (l.take k)))
            have hsz2 := size_arr (pfxBytes (a, n))
            rw [pfxBytes_length _ (by show n ≤ 32; omega)] at hsz2
            have hm4 := many_le n (by omega)
            have HS := hide (str_add (pfWire (pfNats (l.take k))) (pfxBytes (a, n)))
            obtain ⟨C, eC⟩ : ∃ C : ByteArray, C = ⟨(pfWire (pfNats (l.take k))).toArray⟩ := ⟨_, rfl⟩
            obtain ⟨T, eT⟩ : ∃ T : ByteArray, T = ⟨(pfxBytes (a, n)).toArray⟩ := ⟨_, rfl⟩
            rw [← eC] at hsz1 HS
            rw [← eC]
            rw [← eT] at hsz2 HS ht
            have t1 : C.size ≤ 5242880 := by omega
            have t2 : T.size ≤ 5 := by show T.size ≤ 5; simp only at hsz2; omega
            clear eC eT hsz1 hsz2 hwl
            go_wp2_with fail
            refine (hpre _).mono ?_
            rintro e w2 ⟨rfl, hb2⟩
            have b2 := later_below hbel hb2 hbel.size
            have c1' := (hb2.cell (p := ⟨b, o + k * 2, none⟩) (Nat.lt_of_lt_of_le hbk1 hbel.size)).trans c1
            have c2' := (hb2.cell (p := ⟨b, o + k * 2 + 1, none⟩) (Nat.lt_of_lt_of_le hbk1 hbel.size)).trans c2
            go_wp2_with fail
            refine (ht _).mono ?_
            rintro e w3 ⟨rfl, hb3⟩
            have b3 := later_below b2 hb3 b2.size
            go_wp2
            refine ⟨⟨k + 1, by omega, by go_num, HT2.out, ?_, b3⟩, by simp [intOf]; omega⟩
            rw [HS.out, HW.out]
        · have hall' : pfAll l = true := by have := HA.out; rwa [List.take_of_length_le (by omega)] at this
          have hok := annOk_yes s l hb (by omega) hall'
          have HC : Hid (pfWire (pfNats (l.take k)) = pfWire (pfNats l)) := by rw [List.take_of_length_le (by omega)]; exact rfl
          obtain ⟨hfine, hsum⟩ := canL_fine s
          have hpw := pfWire_nats_le l hall'
          have hcl := annC_length s l
          have hgood := hide (ann_good s l hok)
          have hlong := hide (ann_long s l hok)
          have hown := owns_later ho1 hbel
          have b1 := later_below hb1 hbel hb1.size
          clear hc HA hall hall' hok ho1 hbel hb1
          rw [HC.out]
          clear HC
          have hsz1 := size_arr (pfWire (pfNats l))
          have hlen0 := canB_len s hb
          rcases (rowAt_of_owns hown).2 with ⟨a2, c2, e2, hn2⟩ | ⟨b2, o2, cap2, rfl, hn2, hbk2, hc2⟩
          · omega
          · obtain ⟨wo, rfl⟩ : ∃ wo : World, wo = wr := ⟨_, rfl⟩
            clear hown
            go_wp2
            go_loopw [10, 11] (fun x i wr => ∃ k2 : Nat, k2 ≤ (canL s).length ∧ i = .int .i64 k2 ∧ x = .string ⟨(((canL s).take k2).flatMap atWire).toArray⟩ ∧ Below wo.heap.size wo wr) (fun _ i _ => (canL s).length - (intOf i).toNat)
            case atStart => exact ⟨0, Nat.zero_le _, rfl, rfl, Below.refl _ _⟩
            case round =>
              obtain ⟨k2, hk2, rfl, rfl, hb3⟩ := hrel
              by_cases hlt2 : k2 < (canL s).length
              · obtain ⟨g1, g2, g3⟩ := atCells_get (canL s) k2 hlt2
                have c1 := (hb3.cell (p := ⟨b2, o2 + k2 * 3, none⟩) hbk2).trans (hc2 _ _ g1)
                have c2 := (hb3.cell (p := ⟨b2, o2 + k2 * 3 + 1, none⟩) hbk2).trans (hc2 _ _ g2)
                have c3 := (hb3.cell (p := ⟨b2, o2 + k2 * 3 + 2, none⟩) hbk2).trans (hc2 _ _ g3)
                obtain ⟨hf, hf16, hk', hv'⟩ := hfine (canL s)[k2] (List.getElem_mem _)
                have HW := hide (wireA_step (canL s) k2 hlt2)
                have hPl := wireA_le (canL s) k2
                clear hc2 g1 g2 g3 hfine hgood hlong hcl hpw hsz1
                obtain ⟨p, ep⟩ : ∃ p, p = (canL s)[k2] := ⟨_, rfl⟩
                rw [← ep] at c1 c2 c3 hf hf16 hk' hv' HW
                clear ep
                obtain ⟨P, eP⟩ : ∃ P, P = ((canL s).take k2).flatMap atWire := ⟨_, rfl⟩
                rw [← eP] at HW hPl
                rw [← eP]
                clear eP
                obtain ⟨f, kd, val⟩ := p
                simp only at c1 c2 c3 hf hf16 hk' hv'
                by_cases hbig : val.size ≤ 255
                · have HP : Hid (atWire ⟨f, kd, val⟩ = atBytes f kd 1 val) := by unfold atWire; rw [if_pos hbig]; exact rfl
                  have h1 := fun w => bytes_any f 1 w (by omega) (by omega)
                  have h2 := fun w => bytes_any kd 1 w (by omega) (by omega)
                  have h3 := fun w => bytes_any val.size 1 w (by omega) (by omega)
                  have HS := hide (str_add5 P f kd 1 val)
                  have z1 := size_arr (be 1 f)
                  have z2 := size_arr (be 1 kd)
                  have z3 := size_arr (be 1 val.size)
                  have z4 := size_arr P
                  rw [be_length] at z1 z2 z3
                  obtain ⟨U1, e1⟩ : ∃ U : ByteArray, U = ⟨(be 1 f).toArray⟩ := ⟨_, rfl⟩
                  obtain ⟨U2, e2⟩ : ∃ U : ByteArray, U = ⟨(be 1 kd).toArray⟩ := ⟨_, rfl⟩
                  obtain ⟨U3, e3⟩ : ∃ U : ByteArray, U = ⟨(be 1 val.size).toArray⟩ := ⟨_, rfl⟩
                  obtain ⟨U4, e4⟩ : ∃ U : ByteArray, U = ⟨P.toArray⟩ := ⟨_, rfl⟩
                  rw [← e1] at h1
                  rw [← e2] at h2
                  rw [← e3] at h3
                  rw [← e1, ← e2, ← e3, ← e4] at HS
                  rw [← e1] at z1
                  rw [← e2] at z2
                  rw [← e3] at z3
                  rw [← e4] at z4
                  rw [← e4]
                  have y1 : U1.size ≤ 1 := by omega
                  have y2 : U2.size ≤ 1 := by omega
                  have y3 : U3.size ≤ 2 := by omega
                  have y4 : U4.size ≤ 1048576 := by omega
                  clear e1 e2 e3 e4 z1 z2 z3 z4
                  go_wp2
                  go_region_held (fun w' => w'.cell? ⟨wr.heap.size, 0, none⟩ = some (.int .i64 (f : Int)) ∧ w'.cell? ⟨wr.heap.size, 1, none⟩ = some (.int .i64 (kd : Int)) ∧ w'.cell? ⟨wr.heap.size, 2, none⟩ = some (.string val) ∧ wr.heap.size < w'.heap.size ∧ Below wo.heap.size wo w') (first | assumption | (refine ⟨by simp, by simp, by simp, by simp, (hb3.alloc hb3.size _).drew⟩) | (exact keep3 (by assumption) (by assumption))) (first | (go_at_call_of 45 (f : Int); refine (h1 _).mono ?_; rintro e w2 ⟨rfl, hb2⟩) | (go_at_call_of 45 (kd : Int); refine (h2 _).mono ?_; rintro e w2 ⟨rfl, hb2⟩) | (go_at_call_of 45 (val.size : Int); refine (h3 _).mono ?_; rintro e w2 ⟨rfl, hb2⟩))
                  all_goals
                    have hS := ‹w2.cell? _ = some _ ∧ w2.cell? _ = some _ ∧ w2.cell? _ = some _ ∧ wr.heap.size < w2.heap.size ∧ Below wo.heap.size wo w2›
                    clear h1 h2 h3 c1 c2 c3
                    go_wp2
                    refine ⟨⟨k2 + 1, by omega, by go_num, ?_, hS.2.2.2.2⟩, by simp [intOf]; omega⟩
                    rw [HW.out, HP.out, HS.out]
                · have HP : Hid (atWire ⟨f, kd, val⟩ = atBytes (f + 16) kd 2 val) := by unfold atWire; rw [if_neg hbig]; exact rfl
                  obtain ⟨F, eF⟩ : ∃ F, F = f + 16 := ⟨_, rfl⟩
                  have hwr : IntKind.i64.wrap ((f : Int) + 16) = (F : Int) := by rw [IntKind.wrap_i64]; omega
                  have hF : F < 256 := by omega
                  rw [← eF] at HP
                  clear eF
                  have h1 := fun w => bytes_any F 1 w (by omega) (by omega)
                  have h2 := fun w => bytes_any kd 1 w (by omega) (by omega)
                  have h3 := fun w => bytes_any val.size 2 w (by omega) (by omega)
                  have HS := hide (str_add5 P F kd 2 val)
                  have z1 := size_arr (be 1 F)
                  have z2 := size_arr (be 1 kd)
                  have z3 := size_arr (be 2 val.size)
                  have z4 := size_arr P
                  rw [be_length] at z1 z2 z3
                  obtain ⟨U1, e1⟩ : ∃ U : ByteArray, U = ⟨(be 1 F).toArray⟩ := ⟨_, rfl⟩
                  obtain ⟨U2, e2⟩ : ∃ U : ByteArray, U = ⟨(be 1 kd).toArray⟩ := ⟨_, rfl⟩
                  obtain ⟨U3, e3⟩ : ∃ U : ByteArray, U = ⟨(be 2 val.size).toArray⟩ := ⟨_, rfl⟩
                  obtain ⟨U4, e4⟩ : ∃ U : ByteArray, U = ⟨P.toArray⟩ := ⟨_, rfl⟩
                  rw [← e1] at h1
                  rw [← e2] at h2
                  rw [← e3] at h3
                  rw [← e1, ← e2, ← e3, ← e4] at HS
                  rw [← e1] at z1
                  rw [← e2] at z2
                  rw [← e3] at z3
                  rw [← e4] at z4
                  rw [← e4]
                  have y1 : U1.size ≤ 1 := by omega
                  have y2 : U2.size ≤ 1 := by omega
                  have y3 : U3.size ≤ 2 := by omega
                  have y4 : U4.size ≤ 1048576 := by omega
                  clear e1 e2 e3 e4 z1 z2 z3 z4
                  go_wp2
                  go_region_held (fun w' => w'.cell? ⟨wr.heap.size, 0, none⟩ = some (.int .i64 (f : Int)) ∧ w'.cell? ⟨wr.heap.size, 1, none⟩ = some (.int .i64 (kd : Int)) ∧ w'.cell? ⟨wr.heap.size, 2, none⟩ = some (.string val) ∧ wr.heap.size < w'.heap.size ∧ Below wo.heap.size wo w') (first | assumption | (refine ⟨by simp, by simp, by simp, by simp, (hb3.alloc hb3.size _).drew⟩) | (exact keep3 (by assumption) (by assumption))) (first | (go_at_call_of 45 (F : Int); refine (h1 _).mono ?_; rintro e w2 ⟨rfl, hb2⟩) | (go_at_call_of 45 (kd : Int); refine (h2 _).mono ?_; rintro e w2 ⟨rfl, hb2⟩) | (go_at_call_of 45 (val.size : Int); refine (h3 _).mono ?_; rintro e w2 ⟨rfl, hb2⟩))
                  all_goals
                    have hS := ‹w2.cell? _ = some _ ∧ w2.cell? _ = some _ ∧ w2.cell? _ = some _ ∧ wr.heap.size < w2.heap.size ∧ Below wo.heap.size wo w2›
                    clear h1 h2 h3 c1 c2 c3
                    go_wp2
                    refine ⟨⟨k2 + 1, by omega, by go_num, ?_, hS.2.2.2.2⟩, by simp [intOf]; omega⟩
                    rw [HW.out, HP.out, HS.out]
              · have HT : Hid (((canL s).take k2).flatMap atWire = annA s) := by rw [List.take_of_length_le (by omega)]; exact rfl
                rw [HT.out]
                have hA := size_arr (annA s)
                have hP := size_arr (pfWire (pfNats l))
                have hsum' : (annA s).length ≤ s.size := hsum
                have h0 := fun w => bytes_any 0 2 w (by omega) (by omega)
                have h1 := fun w => bytes_any (annA s).length 2 w (by omega) (by omega)
                have z0 := size_arr (be 2 0)
                have z1 := size_arr (be 2 (annA s).length)
                rw [be_length] at z0 z1
                have HS : Hid ((⟨(be 2 0).toArray⟩ : ByteArray) ++ ⟨(be 2 (annA s).length).toArray⟩ ++ ⟨(annA s).toArray⟩ ++ ⟨(pfWire (pfNats l)).toArray⟩ = ⟨(annC s l).toArray⟩) := by
                  apply bytes_ext
                  rw [append_data, append_data, append_data]
                  simp [annC]
                have hmsg := fun w => message_any 2 ⟨(annC s l).toArray⟩ w (by omega) (by rw [size_arr, hcl]; omega)
                rw [data_arr] at hmsg
                have hC := size_arr (annC s l)
                obtain ⟨A, eA⟩ : ∃ A : ByteArray, A = ⟨(annA s).toArray⟩ := ⟨_, rfl⟩
                obtain ⟨B, eB⟩ : ∃ B : ByteArray, B = ⟨(pfWire (pfNats l)).toArray⟩ := ⟨_, rfl⟩
                obtain ⟨U, eU⟩ : ∃ U : ByteArray, U = ⟨(be 2 0).toArray⟩ := ⟨_, rfl⟩
                obtain ⟨V, eV⟩ : ∃ V : ByteArray, V = ⟨(be 2 (annA s).length).toArray⟩ := ⟨_, rfl⟩
                obtain ⟨C, eC⟩ : ∃ C : ByteArray, C = ⟨(annC s l).toArray⟩ := ⟨_, rfl⟩
                rw [← eA, ← eB, ← eU, ← eV, ← eC] at HS
                rw [← eA] at hA
                rw [← eB] at hP
                rw [← eU] at z0 h0
                rw [← eV] at z1 h1
                rw [← eC] at hC hmsg
                rw [← eA, ← eB]
                rw [← hA] at h1
                have y0 : U.size ≤ 2 := by omega
                have y1 : V.size ≤ 2 := by omega
                have y2 : A.size ≤ 1048576 := by omega
                have y3 : B.size ≤ 5242880 := by omega
                have hsC : U.size + V.size + A.size + B.size = C.size := by rw [← HS.out]; simp
                rw [← hC] at hgood hlong
                clear hc2 hfine hsum hpw hcl hsz1 HT hA hP hsum' z0 z1 eA eB eU eV eC hC
                rw [← HS.out] at hmsg
                go_wp2_with fail
                refine (h0 _).mono ?_
                rintro e w4 ⟨rfl, hb4⟩
                have b4 := later_below hb3 hb4 hb3.size
                go_wp2_with fail
                refine (h1 _).mono ?_
                rintro e w5 ⟨rfl, hb5⟩
                have b5 := later_below b4 hb5 b4.size
                clear h0 h1 hb4 hb5 b4
                by_cases hn : 200 < 19 + C.size
                · have H := hide (hlong.out hn)
                  have hn' : (200 : Int) < 19 + ((U.size : Int) + V.size + A.size + B.size) := by omega
                  clear hlong hgood hn hsC hmsg
                  go_wp2
                  go_ret2
                  exact ⟨ret_se (by rw [H.out.1]) H.out.2.symm, later_below b1 b5 b1.size⟩
                · have H := hide (hgood.out hn)
                  have hn' : ¬ (200 : Int) < 19 + ((U.size : Int) + V.size + A.size + B.size) := by omega
                  clear hlong hgood hn hsC
                  go_wp2_with (go_at_call 46; refine (hmsg _).mono ?_; rintro e w6 ⟨rfl, hb6⟩)
                  go_ret2
                  exact ⟨ret_se (by rw [H.out.1]) H.out.2.symm, later_below b1 (later_below b5 hb6 b5.size) b1.size⟩

end Go.Proofs.Yteoacdkgicfomaa
