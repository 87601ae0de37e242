/-
  Spoilt: an update whose attributes lack one of the needed ones, or have a wrong one in its place, withdraws all that it was to announce; a right one announces it: for all raw numbers and every list of them.
-/
import Derived.Test.YtjjakgmjoplhoaaRows
import Derived.Test.YtjjakgmjoplhoaaB15
import Derived.ProofKit
import Derived.OpenShut
import Derived.ShutString
import Derived.ChangeOld
import Derived.Below
namespace Go.Proofs.Ytjjakgmjoplhoaa
open Go.ChangeShapes Go.WideShapes Go.ChangeAt Go.RowKit
open Rl

namespace SpoiltLaw

/-- the prefixes that the first update was to announce. -/
def spL (v : Int) (raw : List Int) : List (Int × Int) := if (keepL raw 6).length = 0 then keepL [v] 1 else keepL raw 6

theorem spL_all (v : Int) (raw : List Int) : pfAll (spL v raw) = true := by unfold spL; split <;> exact keepL_all _ _
theorem spL_len (v : Int) (raw : List Int) : 1 ≤ (spL v raw).length ∧ (spL v raw).length ≤ 6 := by
  have h1 := keepL_length raw 6
  have h2 := keepL_length [v] 1
  unfold spL
  split
  · rw [h2]; simp
  · omega

theorem walk (v which : Int) (wrong : Bool) (ar ag : Option Addr) (cr cg : Nat) (raw gone : List Int) (w : World) (hv : inI64 v) (hwh : inI64 which) (hr : RowAt w (.slice ar raw.length cr) raw.length 1 (ints raw)) (hg : RowAt w (.slice ag gone.length cg) gone.length 1 (ints gone)) (hri : ∀ c ∈ raw, inI64 c) (hgi : ∀ c ∈ gone, inI64 c) (hrl : raw.length ≤ 9223372036854775807) (hgl : gone.length ≤ 9223372036854775807) :
    Calls Try.prog 7 #[.int .i64 v, .slice ar raw.length cr, .slice ag gone.length cg, .int .i64 which, .bool wrong] w fun e w' => e = .returned (.bool true) ∧ Below w.heap.size w w' := by
  obtain ⟨W, hW⟩ : ∃ W : Nat, W = (pickI which 3).toNat := ⟨_, rfl⟩
  have hpb := pickI_bounds which 3 (by omega)
  have hWi : pickI which 3 = (W : Int) := by omega
  have hW3 : W < 3 := by omega
  obtain ⟨l, sp, hak, hbad⟩ := spoilt_ak W wrong hW3
  have hga := keepL_all gone 5
  have hra := keepL_all raw 6
  have haa := spL_all v raw
  obtain ⟨al1, al2⟩ := spL_len v raw
  have gl := keepL_length gone 5
  have rl := keepL_length raw 6
  have wG := pfWire_nats_le _ hga
  have wR := pfWire_nats_le _ hra
  have wA := pfWire_nats_le _ haa
  have wS := spTo_len W wrong 3
  have wF := kaW_len false v
  have wT := kaW_len true v
  have zG := txt_len (pfWire (pfNats (keepL gone 5)))
  have zA := txt_len (pfWire (pfNats (spL v raw)))
  have zS := txt_len (spTo W wrong 3)
  have c1 := updC_len (pfWire (pfNats (keepL gone 5))) (spTo W wrong 3) (pfWire (pfNats (spL v raw)))
  have c2 := updC_len (pfWire (pfNats (keepL gone 5))) (kaW false (kaL v)) (pfWire (pfNats (keepL raw 6)))
  have u1 : upd (txt (msgOf 2 (updC (pfWire (pfNats (keepL gone 5))) (spTo W wrong 3) (pfWire (pfNats (spL v raw)))))) = ⟨0, keepL gone 5 ++ spL v raw, [], []⟩ := by
    rw [upd_wire _ _ _ l sp hga haa hak (by omega)]
    unfold updBody
    rw [if_neg (by omega), if_pos hbad]
  have u2 : upd (txt (updM gone raw v)) = ⟨0, keepL gone 5, keepL raw 6, if (keepL raw 6).length = 0 then [] else kaW true (kaL v)⟩ := by
    have h := upd_wire (keepL gone 5) (keepL raw 6) (kaW false (kaL v)) (kaL v) false hga hra (by rw [kaW_false]; exact akOf_wire _ (kaL_can v)) (by omega)
    have e : updM gone raw v = msgOf 2 (updC (pfWire (pfNats (keepL gone 5))) (kaW false (kaL v)) (pfWire (pfNats (keepL raw 6)))) := rfl
    rw [e, h]
    unfold updBody
    by_cases h0 : (keepL raw 6).length = 0
    · rw [if_pos h0, if_pos h0, List.eq_nil_of_length_eq_zero h0]
    · rw [if_neg h0, if_neg h0, if_neg (by rw [kaL_need]; simp), canTo_kaL]
  have m1 : (txt (msgOf 2 (updC (pfWire (pfNats (keepL gone 5))) (spTo W wrong 3) (pfWire (pfNats (spL v raw)))))).size ≤ maxLen := by
    rw [txt_len, msgOf_length]; unfold maxLen; omega
  have m2 : (txt (updM gone raw v)).size ≤ maxLen := by
    have e : updM gone raw v = msgOf 2 (updC (pfWire (pfNats (keepL gone 5))) (kaW false (kaL v)) (pfWire (pfNats (keepL raw 6)))) := rfl
    rw [e, txt_len, msgOf_length]; unfold maxLen; omega
  have hands : ∀ (m : ByteArray) (g a : List (Int × Int)) (T : List UInt8) (wx : World), m.size ≤ maxLen → upd m = ⟨0, g, a, T⟩ → Calls Try.prog 12 #[.string m] wx fun e w' => HandsU e wx w' g a (txt T) := by
    intro m g a T wx hm hu
    refine (update_outer m wx hm).mono ?_
    rw [hu]
    rintro e w' ⟨v1, v2, rfl, hb, g1, g2, _⟩
    obtain ⟨x1, y1, rfl⟩ := slice_of_owns g1
    obtain ⟨x2, y2, rfl⟩ := slice_of_owns g2
    exact ⟨x1, y1, x2, y2, rfl, hb, rowAt_of_owns g1, rowAt_of_owns g2⟩
  refine spoilt_raw v which wrong (.slice ag gone.length cg) ar raw.length cr w W (keepL gone 5) (spL v raw) (keepL raw 6)
    (txt (pfWire (pfNats (keepL gone 5)))) (txt (spTo W wrong 3)) (txt (pfWire (pfNats (spL v raw)))) (txt (kaW true (kaL v))) ⟨(be 2 (txt (pfWire (pfNats (keepL gone 5)))).size).toArray⟩ ⟨(be 2 (txt (spTo W wrong 3)).size).toArray⟩
    (txt (updC (pfWire (pfNats (keepL gone 5))) (spTo W wrong 3) (pfWire (pfNats (spL v raw))))) (txt (msgOf 2 (updC (pfWire (pfNats (keepL gone 5))) (spTo W wrong 3) (pfWire (pfNats (spL v raw)))))) (txt (updM gone raw v)) (txt (if (keepL raw 6).length = 0 then [] else kaW true (kaL v))) (spTo W wrong)
    ?_ ?_ ?_ ?_ ?_ ?_ ?_ rfl (fun _ => rfl) ?_ rfl ?_ ?_ ?_ ?_ ?_ ?_ ?_ ?_ ?_ ?_ ?_ (by omega) (by omega) (by omega) (by omega) (by omega) (by rw [size_arr, be_length]; omega) (by rw [size_arr, be_length]; omega) (by omega)
  · intro wx hb
    exact (keepPrefixes_any _ raw 6 wx (hr.later hb) hri (by omega) hrl).mono fun e w' h => handsL_of h
  · intro wx hb
    exact (keepPrefixes_any _ gone 5 wx (hg.later hb) hgi (by omega) hgl).mono fun e w' h => handsL_of h
  · intro h0 wx b hc hb
    have e : spL v raw = keepL [v] 1 := by unfold spL; rw [if_pos h0]
    rw [e]
    refine (keepPrefixes_any (.slice (some ⟨b, 0, none⟩) 1 1) [v] 1 wx ⟨rfl, .inr ⟨b, 0, 1, rfl, by simp, hb, ?_⟩⟩ (by simpa using hv) (by omega) (by simp)).mono fun e w' h => handsL_of h
    intro j u hu
    cases j with
    | zero => simp [ints] at hu; rw [← hu]; exact hc
    | succ j => simp [ints] at hu
  · intro h0
    unfold spL; rw [if_neg h0]
  · intro wx
    rw [← hWi]
    exact pick_any which 3 wx hwh (by omega)
  · intro k hk wx
    exact keepAttribute_any 64 (k + 1) ⟨#[7, 7]⟩ false wx (by omega) (by omega) (by decide)
  · intro k hk wx
    exact keepAttribute_any 64 (k + 1) (spVal k) false wx (by omega) (by omega) (by have := sp_len k; omega)
  · intro k
    rw [txt_len]; exact spTo_len W wrong k
  · intro vv wx h
    exact told_keep vv _ wx hga (by omega) h
  · intro vv wx h
    exact told_keep vv _ wx haa (by omega) h
  · intro wx
    exact keepBytes_any _ 2 wx (by omega) (by omega)
  · intro wx
    exact keepBytes_any _ 2 wx (by omega) (by omega)
  · exact ku_text _ _ _
  · intro wx
    have h := keepMessage_any 2 (txt (updC (pfWire (pfNats (keepL gone 5))) (spTo W wrong 3) (pfWire (pfNats (spL v raw))))) wx (by omega) (by rw [txt_len]; omega)
    rw [txt_data] at h
    exact h
  · intro wx
    exact hands _ _ _ _ wx m1 u1
  · intro wx hb
    exact keepUpdate_any _ _ gone raw v wx (hg.later hb) (hr.later hb) hgi hri hv hgl hrl
  · intro wx
    exact hands _ _ _ _ wx m2 u2
  · intro wx
    exact keepAttributes_any v true wx hv
  · intro h0
    rw [if_neg (by omega)]

theorem own : ownKnob Try.prog.godebug = none := by kernel_rfl

set_option maxRecDepth 100000 in
theorem lifted (os : Os) (started : os.Started) (H : Type) (enc : TypeId × Value → H) :
    ReturnsInHanded {} Try.checked os 7 .any (Rows.spoiltSpec.pre6 enc Try.prog Try.f7 Rows.spoiltRow.domain false) (Rows.spoiltSpec.post enc Try.prog Try.f7 false true false false) := by
  refine returnsInHanded_of_change (C := Try.checked) own started (by kernel_rfl) Try.func7
    (ChangeSpec.witness6 (enc := enc) (C := Try.checked) false ⟨#[], #[.int .i64 0, .slice none 0 0, .slice none 0 0, .int .i64 0, .bool false], []⟩ 8 (by kernel_rfl) (by kernel_rfl) (by kernel_rfl) (by kernel_rfl)) ?_
  intro W base args ds gs before hval0 hW hcnd _
  have hval : ∀ (j : Nat) t v, Try.f7.params[j]? = some t → args[j]? = some v → Value.okWide Try.prog W .any base t v := hval0
  have hW' := hW
  obtain ⟨p, q, hA0, hV, rfl, hfz, hnd⟩ := hW
  have hA : DataW.TrodAll enc Try.prog W 0 (fun _ => true) true Try.f7.params.toList args.toList ds p := hA0
  rw [Try.params7] at hA hval
  obtain ⟨v0, vs0, d0, ds0, p0, q0, hargs, rfl, rfl, h0, r0⟩ := trodAll_cons hA
  obtain ⟨v1, vs1, d1, ds1, p1, q1, rfl, rfl, rfl, h1, r1⟩ := trodAll_cons r0
  obtain ⟨v2, vs2, d2, ds2, p2, q2, rfl, rfl, rfl, h2, r2⟩ := trodAll_cons r1
  obtain ⟨v3, vs3, d3, ds3, p3, q3, rfl, rfl, rfl, h3, r3⟩ := trodAll_cons r2
  obtain ⟨v4, vs4, d4, ds4, p4, q4, rfl, rfl, rfl, h4, r4⟩ := trodAll_cons r3
  obtain ⟨rfl, rfl, rfl⟩ := trodAll_nil r4
  obtain rfl : args = #[v0, v1, v2, v3, v4] := by cases args; simp_all
  obtain ⟨rfl, rfl⟩ := trodVars_none hV
  obtain ⟨n, rfl, rfl, rfl, w0⟩ := open_int Try.underlying3 (hval 0 3 v0 rfl rfl) h0
  obtain ⟨a1, len1, cap1, rfl⟩ := okWide_slice Try.underlying40 (hval 1 40 v1 rfl rfl)
  obtain ⟨a2, len2, cap2, rfl⟩ := okWide_slice Try.underlying40 (hval 2 40 v2 rfl rfl)
  obtain ⟨m, rfl, rfl, rfl, w3⟩ := open_int Try.underlying3 (hval 3 3 v3 rfl rfl) h3
  obtain ⟨b4, rfl, rfl, rfl⟩ := open_bool Try.underlying4 (hval 4 4 v4 rfl rfl) h4
  have k1 := h1
  have k2 := h2
  have lt1 : ∀ x ∈ p1, x.block < W.heap.size := by obtain ⟨m, hm⟩ := k1; exact DataW.trod_lt m _ _ _ hm
  have lt2 : ∀ x ∈ p2, x.block < W.heap.size := by obtain ⟨m, hm⟩ := k2; exact DataW.trod_lt m _ _ _ hm
  obtain ⟨fuel1, hf1⟩ := h1
  obtain ⟨fuel2, hf2⟩ := h2
  obtain ⟨l1, rfl, hr1, hli1, hll1⟩ := opened_ints hf1
  obtain ⟨l2, rfl, hr2, hli2, hll2⟩ := opened_ints hf2
  clear hA0 hval0
  simp only [List.append_nil] at hW'
  refine (walk n m b4 a1 a2 cap1 cap2 l1 l2 W (inI64_wf w0) (inI64_wf w3) hr1 hr2 hli1 hli2 hll1 hll2).mono fun e W' ⟨he, bel⟩ => ?_
  subst he
  exact ⟨_, rfl, _, _, _, [], _, [], hW', trodAll_mk1 (shut_bool Try.underlying4 _), (trodAll_cons_mk (shut_int Try.underlying3 w0) (trodAll_cons_mk (Below.trod laidOut (by kernel_rfl) (of_decide_eq_true (by kernel_rfl)) k1 bel lt1) (trodAll_cons_mk (Below.trod laidOut (by kernel_rfl) (of_decide_eq_true (by kernel_rfl)) k2 bel lt2) (trodAll_cons_mk (shut_int Try.underlying3 w3) (trodAll_cons_mk (shut_bool Try.underlying4 _) trodAll_mk0))))), rfl, bel.frame _, fun h => by cases h⟩

theorem holds : Rows.SpoiltSaid :=
  OpenClaim.holds_of_wide 7 Try.f7 rfl rfl rfl rfl rfl rfl rfl ⟨rfl, rfl, rfl, rfl, rfl⟩ rfl rfl rfl rfl rfl (by kernel_rfl) Try.func7 (by kernel_rfl)
    (of_decide_eq_true (by kernel_rfl)) (by unfold Func.isWrapper; rw [if_neg (by decide +kernel)]; exact ⟨rfl, rfl⟩)
    (fun os started H enc _ => lifted os started H enc)

end SpoiltLaw

theorem spoilt_holds : Rows.SpoiltSaid := SpoiltLaw.holds
#print axioms spoilt_holds
end Go.Proofs.Ytjjakgmjoplhoaa
