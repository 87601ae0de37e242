/-
  Scanned: of every text, whatever raw numbers, of bulk at most 1048576 together: what Scan finds is just what those bytes are, written again; a right record behind them is found, one with a byte changed is not.
-/
import Derived.Test.YteoacdkgicfomaaT3
import Derived.Test.YteoacdkgicfomaaT4
import Derived.Test.YteoacdkgicfomaaRows
import Derived.ProofKit
import Derived.OpenShut
import Derived.ShutString
import Derived.ChangeOld
import Derived.Below
import Derived.JoinedCond
namespace Go.Proofs.Yteoacdkgicfomaa
open Go.ChangeShapes Go.WideShapes Go.ChangeAt Go.RowKit
open Go.ChangeMaps (open_string shut_string)
open Rl

namespace ScannedLaw

theorem own : ownKnob Try.prog.godebug = none := by kernel_rfl

theorem outer2 (b : ByteArray) (w : World) (hs : b.size ≤ 2097152) :
    Calls Try.prog 28 #[.string b] w fun e w' => Scanned b w e w' := by
  have h := fun wx => scan_of (fun s wx hs => first_any s wx hs) b wx hs
  unfold Scanned at h ⊢
  go_enter Try.func28, Try.ntmps28
  go_wp2_with (go_at_call 48; refine (h _).mono ?_; rintro e w' ⟨v, rfl, ho, hb, h1, h2⟩)
  go_ret2
  exact ⟨v, rfl, ho, hb, h1, h2⟩

theorem hands (b : ByteArray) (l : List Rec) (n : Nat) (w : World) (hs : b.size ≤ 2097152) (h1 : scanR b = l) (h2 : scanN b = n) :
    Calls Try.prog 28 #[.string b] w fun e w' => HandsR l n w e w' := by
  refine (outer2 b w hs).mono ?_
  rintro e w' ⟨v, rfl, ho, hb, _, _⟩
  rw [h1] at ho
  rw [h2]
  obtain ⟨a, c, rfl⟩ := slice_of_owns ho
  exact ⟨a, c, rfl, ho, hb⟩

theorem flat_long (l : List Rec) : l.length * 12 ≤ (l.flatMap recB).length := by
  induction l with
  | nil => simp
  | cons r l ih => rw [List.flatMap_cons, List.length_append, recB_length, List.length_cons]; omega

theorem walk (b : ByteArray) (tm v at_ by_ : Int) (ar : Option Addr) (cr : Nat) (raw : List Int) (w : World) (hs : b.size ≤ 1048576) (ht : inI64 tm) (hv : inI64 v) (ha : inI64 at_) (hy : inI64 by_) (hr : RowAt w (.slice ar raw.length cr) raw.length 1 (ints raw)) (hri : ∀ c ∈ raw, inI64 c) (hrl : raw.length ≤ 9223372036854775807) :
    Calls Try.prog 9 #[.string b, .int .i64 tm, .int .i64 v, .slice ar raw.length cr, .int .i64 at_, .int .i64 by_] w fun e w' => e = .returned (.bool true) ∧ Below w.heap.size w w' := by
  obtain ⟨hfl, hfine, hN⟩ := scan_found b.size b (Nat.le_refl _)
  have hsl := scan_len b
  have hlong := flat_long (scanR b)
  have hLB := len_data b
  obtain ⟨T, hT⟩ : ∃ T : Nat, T = (pickI tm 4294967296).toNat := ⟨_, rfl⟩
  have tb := pickI_bounds tm 4294967296 (by omega)
  have hTi : pickI tm 4294967296 = (T : Int) := by omega
  have hT2 : T < 4294967296 := by omega
  obtain ⟨P, hP⟩ : ∃ P : Nat, P = (pickI v 6).toNat := ⟨_, rfl⟩
  have pb := pickI_bounds v 6 (by omega)
  have hPi : pickI v 6 = (P : Int) := by omega
  have hP2 : P < 6 := by omega
  have hf := xFine T P raw raw v hT2 hP2
  have hU1 := updM_len raw raw v
  have hU2 := updM_long raw raw v
  have hUs := txt_len (updM raw raw v)
  have hxl := recB_length ⟨T, 1, P, txt (updM raw raw v)⟩
  have hxs := txt_len (recB ⟨T, 1, P, txt (updM raw raw v)⟩)
  have hxl2 : (recB ⟨T, 1, P, txt (updM raw raw v)⟩).length = 12 + (updM raw raw v).length := by rw [hxl]; show 12 + (txt (updM raw raw v)).size = _; rw [hUs]
  obtain ⟨m, hm⟩ : ∃ m : Int, m = ((txt (recB ⟨T, 1, P, txt (updM raw raw v)⟩)).size : Int) - 2 := ⟨_, rfl⟩
  obtain ⟨I0, hI⟩ : ∃ I0 : Nat, I0 = (pickI at_ m).toNat := ⟨_, rfl⟩
  have ib := pickI_bounds at_ m (by omega)
  have hIi : pickI at_ m = (I0 : Int) := by omega
  obtain ⟨Q, hQ⟩ : ∃ Q : Nat, Q = (pickI by_ 255).toNat := ⟨_, rfl⟩
  have qb := pickI_bounds by_ 255 (by omega)
  have hQi : pickI by_ 255 = (Q : Int) := by omega
  obtain ⟨I, hII⟩ : ∃ I : Nat, I = if 6 ≤ I0 then I0 + 2 else I0 := ⟨_, rfl⟩
  have hIl : I < (recB ⟨T, 1, P, txt (updM raw raw v)⟩).length := by rw [hII]; split <;> omega
  have hI67 : I ≠ 6 ∧ I ≠ 7 := by rw [hII]; split <;> omega
  obtain ⟨b1, b2⟩ := scan_behind b ⟨T, 1, P, txt (updM raw raw v)⟩ hf
  have hget : (recB ⟨T, 1, P, txt (updM raw raw v)⟩).getD I 0 = (recB ⟨T, 1, P, txt (updM raw raw v)⟩)[I] := by rw [List.getD_eq_getElem?_getD, List.getElem?_eq_getElem hIl]; rfl
  have hno := chg_none ⟨T, 1, P, txt (updM raw raw v)⟩ hf I hIl hI67 (UInt8.ofNat ((recB ⟨T, 1, P, txt (updM raw raw v)⟩)[I].toNat ^^^ (1 + Q))) (xor_other _ _ (by omega) (by omega))
  obtain ⟨s1, s2⟩ := scan_stops b _ hno
  have hBs : (b.extract 0 (scanN b)).size = scanN b := by rw [ByteArray.size_extract]; omega
  refine scanned_raw b tm v at_ by_ ar raw.length cr w (scanR b) (scanN b) T P I0 I Q (txt (updM raw raw v)) (txt (recB ⟨T, 1, P, txt (updM raw raw v)⟩)) (b.extract 0 (scanN b))
    (txt (b.data.toList.take (scanN b) ++ (recB ⟨T, 1, P, txt (updM raw raw v)⟩ ++ [0]))) (txt (b.data.toList.take (scanN b) ++ chg (recB ⟨T, 1, P, txt (updM raw raw v)⟩) I (UInt8.ofNat ((recB ⟨T, 1, P, txt (updM raw raw v)⟩)[I].toNat ^^^ (1 + Q)))))
    (fun k => txt (((scanR b).take k).flatMap recB)) (fun k => txt (recB ((scanR b).getD k ⟨0, 0, 0, ⟨#[]⟩⟩)))
    hs (by omega) hN (fun wx => hands b _ _ wx (by omega) rfl rfl) ?_ rfl (flat_all b) rfl ?_ ?_ ?_ ?_ (by omega) (by omega) (behind_text b _ _) (by omega) ?_ ?_ (by omega) hII ?_ (by omega) ?_ ?_
  · intro k hk
    have hfk := hfine (scanR b)[k] (List.getElem_mem hk)
    obtain ⟨f1, f2, f3, f4, f5⟩ := hfk
    obtain ⟨g1, g2, g3⟩ := kind_of_ok f5
    have hg : (scanR b).getD k ⟨0, 0, 0, ⟨#[]⟩⟩ = (scanR b)[k] := by rw [List.getD_eq_getElem?_getD, List.getElem?_eq_getElem hk]; rfl
    have hle := flat_le (scanR b) k
    refine ⟨⟨f1, g1, g2, g3⟩, ?_, ?_, ?_, ?_⟩
    · rw [txt_len]; omega
    · rw [hg, txt_len, recB_length]; omega
    · rw [hg]; exact flat_step (scanR b) k hk
    · intro wx
      rw [hg]
      exact keepRecord_any (scanR b)[k] wx f1 f2 f3 f4
  · intro wx
    rw [← hTi]
    exact pick_any tm 4294967296 wx ht (by omega)
  · intro wx
    rw [← hPi]
    exact pick_any v 6 wx hv (by omega)
  · intro wx hb
    exact keepUpdate_any _ _ raw raw v wx (hr.later hb) (hr.later hb) hri hri hv hrl hrl
  · intro wx
    exact keepRecord_any ⟨T, 1, P, txt (updM raw raw v)⟩ wx hf.1 hf.2.1 hf.2.2.1 hf.2.2.2.1
  · intro wx
    exact hands _ _ _ wx (by rw [txt_len]; simp only [List.length_append, List.length_take, List.length_cons, List.length_nil]; omega) b1 (by rw [b2, hxs, hxl])
  · intro wx
    rw [← hm, ← hIi]
    exact pick_any at_ m wx ha (by omega)
  · intro wx
    rw [← hQi]
    exact pick_any by_ 255 wx hy (by omega)
  · show b.extract 0 (scanN b) ++ _ = _
    rw [txt_data, hget, chg_text]
    exact stops_text b _ _
  · intro wx
    exact hands _ _ _ wx (by rw [txt_len]; have := chg_len (recB ⟨T, 1, P, txt (updM raw raw v)⟩) I (UInt8.ofNat ((recB ⟨T, 1, P, txt (updM raw raw v)⟩)[I].toNat ^^^ (1 + Q))) hIl; simp only [List.length_append, List.length_take]; omega) s1 s2

set_option maxRecDepth 100000 in
theorem contract (H : Type) (enc : TypeId × Value → H) (W : World) (base : Nat) (args : Array Value) (ds gs : List (DataW H)) (before : List MemPlace)
    (hval0 : ∀ (j : Nat) t v, Try.f9.params[j]? = some t → args[j]? = some v → Value.okWide Try.prog W .any base t v)
    (hW : DataW.Whole enc Try.prog Try.f9.params.toList Rows.scannedSpec.vars false W args.toList ds gs before) (hk : Rows.uptoSmall H (ds ++ gs) = true) :
    Calls Try.prog 9 args W fun e W' => ∃ v, e = .returned v ∧ Rows.scannedSpec.post enc Try.prog Try.f9 false true false false W args v W' := by
  have hval : ∀ (j : Nat) t v, Try.f9.params[j]? = some t → args[j]? = some v → Value.okWide Try.prog W .any base t v := hval0
  have hW' := hW
  obtain ⟨p, q, hA0, hV, rfl, hfz, hnd⟩ := hW
  have hA : DataW.TrodAll enc Try.prog W 0 (fun _ => true) true Try.f9.params.toList args.toList ds p := hA0
  rw [Try.params9] at hA hval
  obtain ⟨v0, vs0, d0, ds0, p0, q0, hargs, rfl, rfl, h0, r0⟩ := trodAll_cons hA
  obtain ⟨v1, vs1, d1, ds1, p1, q1, rfl, rfl, rfl, h1, r1⟩ := trodAll_cons r0
  obtain ⟨v2, vs2, d2, ds2, p2, q2, rfl, rfl, rfl, h2, r2⟩ := trodAll_cons r1
  obtain ⟨v3, vs3, d3, ds3, p3, q3, rfl, rfl, rfl, h3, r3⟩ := trodAll_cons r2
  obtain ⟨v4, vs4, d4, ds4, p4, q4, rfl, rfl, rfl, h4, r4⟩ := trodAll_cons r3
  obtain ⟨v5, vs5, d5, ds5, p5, q5, rfl, rfl, rfl, h5, r5⟩ := trodAll_cons r4
  obtain ⟨rfl, rfl, rfl⟩ := trodAll_nil r5
  obtain rfl : args = #[v0, v1, v2, v3, v4, v5] := by cases args; simp_all
  obtain ⟨rfl, rfl⟩ := trodVars_none hV
  obtain ⟨s, rfl, rfl, rfl, ws⟩ := open_string Try.underlying9 (hval 0 9 v0 rfl rfl) h0
  obtain ⟨n1, rfl, rfl, rfl, w1⟩ := open_int Try.underlying3 (hval 1 3 v1 rfl rfl) h1
  obtain ⟨n2, rfl, rfl, rfl, w2⟩ := open_int Try.underlying3 (hval 2 3 v2 rfl rfl) h2
  obtain ⟨a3, len3, cap3, rfl⟩ := okWide_slice Try.underlying40 (hval 3 40 v3 rfl rfl)
  obtain ⟨n4, rfl, rfl, rfl, w4⟩ := open_int Try.underlying3 (hval 4 3 v4 rfl rfl) h4
  obtain ⟨n5, rfl, rfl, rfl, w5⟩ := open_int Try.underlying3 (hval 5 3 v5 rfl rfl) h5
  have k3 := h3
  have lt3 : ∀ x ∈ p3, x.block < W.heap.size := by obtain ⟨m, hm⟩ := k3; exact DataW.trod_lt m _ _ _ hm
  obtain ⟨fuel3, hf3⟩ := h3
  obtain ⟨l3, rfl, hr3, hli3, hll3⟩ := opened_ints hf3
  have hb := bulk_bound hk
  obtain ⟨hs, _⟩ := bulk_string _ _ hb
  have hs' : s.size ≤ 1048576 := by rw [len_data] at hs; exact hs
  clear hA0
  simp only [List.append_nil, List.nil_append] at hW'
  refine (walk s n1 n2 n4 n5 a3 cap3 l3 W hs' (inI64_wf w1) (inI64_wf w2) (inI64_wf w4) (inI64_wf w5) hr3 hli3 hll3).mono fun e W' ⟨he, bel⟩ => ?_
  subst he
  exact ⟨_, rfl, _, _, _, [], _, [], hW', trodAll_mk1 (shut_bool Try.underlying4 _), (trodAll_cons_mk (shut_string Try.underlying9 ws) (trodAll_cons_mk (shut_int Try.underlying3 w1) (trodAll_cons_mk (shut_int Try.underlying3 w2) (trodAll_cons_mk (Below.trod laidOut (by kernel_rfl) (of_decide_eq_true (by kernel_rfl)) k3 bel lt3) (trodAll_cons_mk (shut_int Try.underlying3 w4) (trodAll_cons_mk (shut_int Try.underlying3 w5) trodAll_mk0)))))), rfl, bel.frame _, fun h => by cases h⟩

set_option maxRecDepth 100000 in
theorem lifted (os : Os) (started : os.Started) (H : Type) (enc : TypeId × Value → H) (F : Stop.Interp) :
    ReturnsInHanded {} Try.checked os 9 .any ((Rows.OpenSpec.upto Rows.scannedSpec).pre6 enc Try.prog Try.f9 Rows.scannedUptoRow.domain false) (((Rows.OpenSpec.upto Rows.scannedSpec).at F).post enc Try.prog Try.f9 false true false false) := by
  refine returnsInHanded_of_cond (C := Try.checked) (s := Rows.OpenSpec.upto Rows.scannedSpec) (k := Rows.uptoSmall) rfl own started (by kernel_rfl) Try.func9
    (OpenSpec.witness (enc := enc) (C := Try.checked) (s := Rows.OpenSpec.upto Rows.scannedSpec) (k := Rows.uptoSmall) rfl false ⟨#[], #[.string ByteArray.empty, .int .i64 0, .int .i64 0, .slice none 0 0, .int .i64 0, .int .i64 0], []⟩ 8 (by kernel_rfl) (by kernel_rfl) (by kernel_rfl) (by kernel_rfl)
      (x := ([.lit (.string []), .lit (.int .i64 0), .lit (.int .i64 0), .nil, .lit (.int .i64 0), .lit (.int .i64 0)], [], [])) (by kernel_rfl) rfl (by kernel_rfl)) ?_
  intro W base args ds gs before hval hW _ hk _
  exact contract H enc W base args ds gs before hval hW hk

theorem over : Rows.scannedUptoRow.holds Try.pinned (Rows.OpenSpec.upto Rows.scannedSpec) :=
  OpenClaim.holds_of_cond 9 Try.f9 rfl rfl rfl rfl rfl rfl rfl ⟨rfl, rfl, rfl, rfl, rfl⟩ rfl rfl rfl rfl rfl (by kernel_rfl) Try.func9 (by kernel_rfl)
    (of_decide_eq_true (by kernel_rfl)) (by unfold Func.isWrapper; rw [if_neg (by decide +kernel)]; exact ⟨rfl, rfl⟩)
    (fun os started H enc _ F => lifted os started H enc F)

end ScannedLaw

theorem scanned_holds : Rows.ScannedUptoSaid := ScannedLaw.over
#print axioms scanned_holds
end Go.Proofs.Yteoacdkgicfomaa
