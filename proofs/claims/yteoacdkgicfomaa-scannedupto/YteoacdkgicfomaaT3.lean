/-
  routelogkeep's message, walked.
-/
import Derived.Test.YteoacdkgicfomaaT2
import Derived.Test.YteoacdkgicfomaaAnnRef
import Derived.Deep.RegionHeld
import Derived.Test.YteoacdkgicfomaaAkSort
import Derived.Test.YteoacdkgicfomaaUpdAll
import Derived.Test.YteoacdkgicfomaaT1
import Derived.Deep.CutBlock
namespace Go.Proofs.Yteoacdkgicfomaa
open Go.RowKit
open Rl

/-- sixteen marks lie at b. -/
def Marks16 (w : World) (b : Nat) : Prop := ∀ j, j < 16 → w.cell? ⟨b, j, none⟩ = some (.int .u8 255)

theorem mark_get (l : List UInt8) (h : l = List.replicate 16 255) (j : Nat) (hj : j < l.length) : l[j] = 255 := List.eq_of_mem_replicate (n := 16) (by rw [← h]; exact List.getElem_mem _)

theorem marks16_of {w : World} {B b c : Nat} (h : w.ownsRow B 5 1 (.slice (some ⟨b, 0, none⟩) 16 c) 16 (u8s (markRow 16))) : Marks16 w b := by
  intro j hj
  have h1 := h.cellAt j (by omega)
  rw [u8s_get _ _ (by rw [markRow_length 16 (by omega)]; omega)] at h1
  rw [h1]
  have e : (markRow 16)[j]'(by rw [markRow_length 16 (by omega)]; omega) = 255 := mark_get _ (by rfl) _ _
  rw [e]; rfl

/-- the marks as a text, in this world. -/
def MarksText (w : World) (b : Nat) (M : ByteArray) : Prop := (convert 59 9 (.slice (some ⟨b, 0, none⟩) 16 16)).run Try.prog w = .ok (.string M) w

theorem marksText_of {w : World} {b : Nat} (h : Marks16 w b) : MarksText w b ⟨mark16.toArray⟩ := by
  have hl : mark16.length = 16 := by simp [mark16]
  have h2 := run_convert_bytes_back (P := Try.prog) w 59 9 5 ⟨b, 0, none⟩ 16 mark16 Try.underlying59 Try.underlying5 Try.underlying9 (by
    intro j hj
    rw [add_head, h j (by omega)]
    have e : mark16[j]'(by omega) = 255 := mark_get _ rfl _ _
    rw [e]; rfl)
  rw [hl] at h2
  exact h2

theorem keepM {w wx w2 : World} {b : Nat} {M : ByteArray} (HM : Hid (∀ (w : World) (b : Nat), Marks16 w b → MarksText w b M)) (hS : Marks16 wx b ∧ b < wx.heap.size ∧ (convert 59 9 (.slice (some ⟨b, 0, none⟩) 16 16)).run Try.prog wx = .ok (.string M) wx ∧ Below w.heap.size w wx) (hb : Below wx.heap.size wx w2) :
    Marks16 w2 b ∧ b < w2.heap.size ∧ (convert 59 9 (.slice (some ⟨b, 0, none⟩) 16 16)).run Try.prog w2 = .ok (.string M) w2 ∧ Below w.heap.size w w2 := by
  obtain ⟨h1, h2, _, h4⟩ := hS
  have h5 : Marks16 w2 b := fun j hj => (hb.cell (p := ⟨b, j, none⟩) h2).trans (h1 j hj)
  exact ⟨h5, Nat.lt_of_lt_of_le h2 hb.size, HM.out _ _ h5, below_held h4 hb⟩

set_option maxRecDepth 20000 in
set_option maxHeartbeats 4000000 in
theorem keepMessage_any (k : Nat) (c : ByteArray) (w : World) (hk : k < 256) (hc : c.size ≤ 1073741824) :
    Calls Try.prog 25 #[.int .i64 (k : Int), .string c] w fun e w' => e = .returned (.string (txt (msgOf k c.data.toList))) ∧ Below w.heap.size w w' := by
  obtain ⟨i0, hi, hz0, hz1, hz2⟩ := info_parts info_u8
  have h1 := fun w => keepBytes_any (19 + c.size) 2 w (by omega) (by omega)
  have h2 := fun w => keepBytes_any k 1 w (by omega) (by omega)
  have s0 := size_arr mark16
  have s1 := size_arr (be 2 (19 + c.size))
  have s2 := size_arr (be 1 k)
  rw [be_length] at s1 s2
  have hs0 : mark16.length = 16 := by simp [mark16]
  rw [hs0] at s0
  have HM : Hid (∀ (w : World) (b : Nat), Marks16 w b → MarksText w b ⟨mark16.toArray⟩) := fun w b h => marksText_of h
  have HE : Hid ((⟨mark16.toArray⟩ : ByteArray) ++ ⟨(be 2 (19 + c.size)).toArray⟩ ++ ⟨(be 1 k).toArray⟩ ++ c = txt (msgOf k c.data.toList)) := by
    apply bytes_ext
    rw [append_data, append_data, append_data, data_arr, data_arr, data_arr, txt_data]
    unfold msgOf
    rw [len_data]; simp
  obtain ⟨U, eU⟩ : ∃ U : ByteArray, U = ⟨(be 2 (19 + c.size)).toArray⟩ := ⟨_, rfl⟩
  obtain ⟨V, eV⟩ : ∃ V : ByteArray, V = ⟨(be 1 k).toArray⟩ := ⟨_, rfl⟩
  obtain ⟨M, eM⟩ : ∃ M : ByteArray, M = ⟨mark16.toArray⟩ := ⟨_, rfl⟩
  rw [← eM] at s0 HE HM
  have t0 : M.size ≤ 16 := by omega
  rw [← eU] at s1 h1 HE
  rw [← eV] at s2 h2 HE
  have t1 : U.size ≤ 2 := by omega
  have t2 : V.size ≤ 1 := by omega
  clear s0 s1 s2 eU eV eM hs0
  obtain ⟨N, eN⟩ : ∃ N, N = 19 + c.size := ⟨_, rfl⟩
  have hN : 19 + (c.size : Int) = (N : Int) := by omega
  rw [← eN] at h1
  have hwN : IntKind.i64.wrap (N : Int) = (N : Int) := by rw [IntKind.wrap_i64]; omega
  clear eN
  go_enter Try.func25, Try.ntmps25
  go_wp2_with (at_make; refine wpList_make_full _ rfl _ _ 59 rfl w.heap.size 5 i0 (.int .u8 0) 1 Try.underlying59 hi hz0 hz1 .i64 .i64 _ _ 16 rfl rfl rfl rfl (by rw [hz2]; omega) (by unfold maxLen; omega) (Nat.le_refl _) ?_; intro w1 hown hgrow)
  have h0 : (madeCells (Value.int .u8 0).cells (16 * 1)).toList = u8s (markRow 0) := zeros_u8 16
  rw [h0] at hown
  clear h0
  go_loopw [6] (fun i wr => ∃ j : Nat, j ≤ 16 ∧ i = .int .i64 j ∧ wr.ownsRow w.heap.size 5 1 (.slice (some ⟨w.heap.size, 0, none⟩) 16 16) 16 (u8s (markRow j)) ∧ Below w.heap.size w wr) (fun i _ => 16 - (intOf i).toNat)
  case atStart => exact ⟨0, by omega, rfl, hown, (Below.refl _ _).grown hgrow (Nat.le_refl _) (by simp)⟩
  case round =>
    obtain ⟨j, hj, rfl, hr, hb⟩ := hrel
    by_cases hlt : j < 16
    · have hcell := hr.cellAt j (by omega)
      rw [u8s_get _ _ (by rw [markRow_length _ hj]; omega)] at hcell
      have hfrozen := hr.frozenAt j
      have H := hide (hr.stored j (.int .u8 255))
      have HR := hide (markRow_step j hlt)
      clear hr
      go_wp2
      go_roundw
      case rel => exact ⟨j + 1, by omega, by go_num, by have h := H.out.1; rw [set_u8s _ j 255 255 (by decide), HR.out] at h; exact h, hb.setCell (by simp) _⟩
      case measure => simp [intOf]; omega
    · have e : j = 16 := by omega
      subst e
      have hM := marks16_of hr
      have hT := HM.out _ _ hM
      unfold MarksText at hT
      have gs : w.heap.size < wr.heap.size := (hr.lt w.heap.size rfl).2
      clear hr
      go_wp2
      go_region_held (fun w' => Marks16 w' w.heap.size ∧ w.heap.size < w'.heap.size ∧ (convert 59 9 (.slice (some ⟨w.heap.size, 0, none⟩) 16 16)).run Try.prog w' = .ok (.string M) w' ∧ Below w.heap.size w w')
        (first | assumption | (exact keepM HM ⟨hM, gs, hT, hb⟩ (Below.refl _ _).drew) | (exact keepM HM (by assumption) (by assumption)))
        (first | (go_at_call_of 26 (N : Int); refine (h1 _).mono ?_; rintro e w2 ⟨rfl, hb2⟩) | (go_at_call_of 26 (k : Int); refine (h2 _).mono ?_; rintro e w2 ⟨rfl, hb2⟩))
      all_goals
        have hS := ‹Marks16 w2 _ ∧ _›
        go_wp2
        go_ret
        exact ⟨ret_str HE.out, hS.2.2.2⟩

end Go.Proofs.Yteoacdkgicfomaa
/-
  routelogkeep's raw numbers make canonical attributes and prefixes.
-/
namespace Go.Proofs.Yteoacdkgicfomaa
open Go.RowKit
open Rl

theorem kK_ge (v : Int) : 9 ≤ kK v ∧ kK v < 256 := by
  have := pickI_bounds (v.tdiv 17) 200 (by omega)
  unfold kK; omega

theorem kF_is (v : Int) : kF v = 192 ∨ kF v = 224 := by
  have := pickI_bounds v 2 (by omega)
  unfold kF; omega

theorem kaL_mem (v : Int) (a : At) (h : a ∈ kaL v) : a = ⟨64, 1, k1 v⟩ ∨ a = ⟨64, 2, k2 v⟩ ∨ a = ⟨64, 3, k3 v⟩ ∨ a = ⟨128, 4, k4 v⟩ ∨ a = ⟨192, 8, k8 v⟩ ∨ a = ⟨kF v, kK v, kx v⟩ := by
  have hif : ∀ (p : Prop) [Decidable p] (b : At), a ∈ (if p then [b] else []) → a = b := by
    intro p _ b h
    by_cases hp : p
    · rw [if_pos hp] at h; simpa using h
    · rw [if_neg hp] at h; simp at h
  unfold kaL at h
  rcases List.mem_append.1 h with h | h
  · rcases List.mem_append.1 h with h | h
    · rcases List.mem_append.1 h with h | h
      · simp at h; rcases h with h | h | h
        · exact Or.inl h
        · exact Or.inr (Or.inl h)
        · exact Or.inr (Or.inr (Or.inl h))
      · exact Or.inr (Or.inr (Or.inr (Or.inl (hif _ _ h))))
    · exact Or.inr (Or.inr (Or.inr (Or.inr (Or.inl (hif _ _ h)))))
  · exact Or.inr (Or.inr (Or.inr (Or.inr (Or.inr (hif _ _ h)))))

theorem k2_path (v : Int) : pathB (k2 v).data.toList = true := by
  unfold k2
  split
  · have e : ((⟨#[2, 1]⟩ : ByteArray) ++ txt (be 4 (pickI (v.tdiv 3) 1000).toNat)).data.toList = 2 :: 1 :: be 4 (pickI (v.tdiv 3) 1000).toNat := by
      rw [append_data, txt_data]; rfl
    rw [e]
    have hl := be_length 4 (pickI (v.tdiv 3) 1000).toNat
    have ho : segOk (2 :: 1 :: be 4 (pickI (v.tdiv 3) 1000).toNat) = true := by
      unfold segOk
      rw [decide_eq_true_iff, List.length_cons, List.length_cons, hl]
      have a0 : at8 (2 :: 1 :: be 4 (pickI (v.tdiv 3) 1000).toNat) 0 = 2 := rfl
      have a1 : at8 (2 :: 1 :: be 4 (pickI (v.tdiv 3) 1000).toNat) 1 = 1 := rfl
      omega
    rw [pathB_step _ ho]
    have e2 : (2 :: 1 :: be 4 (pickI (v.tdiv 3) 1000).toNat).drop (2 + 4 * at8 (2 :: 1 :: be 4 (pickI (v.tdiv 3) 1000).toNat) 1) = [] := by
      have a1 : at8 (2 :: 1 :: be 4 (pickI (v.tdiv 3) 1000).toNat) 1 = 1 := rfl
      rw [List.drop_eq_nil_iff, List.length_cons, List.length_cons, hl, a1]
      omega
    rw [e2]; rfl
  · rfl

theorem atOk_of (f k : Nat) (v : ByteArray) (hk : knownB k = true) (hf : (f : Int) = flagsI k) (hr : rightB k v = true) : atOk f k v = true := by
  unfold atOk; rw [if_pos hk, hr, decide_eq_true hf]; rfl

theorem kaL_ok (v : Int) (a : At) (h : a ∈ kaL v) : atOk a.flags a.kind a.val = true ∧ a.kind < 256 ∧ a.val.size ≤ 8 := by
  have y1 := k1_size v
  have y2 := k2_size v
  have y3 := k3_size v
  have y4 := k4_size v
  have y8 := k8_size v
  have yx := kx_size v
  have hK := kK_ge v
  rcases kaL_mem v a h with rfl | rfl | rfl | rfl | rfl | rfl
  · refine ⟨?_, by simp, by simp only; omega⟩
    have hv : at8 (k1 v).data.toList 0 ≤ 2 := by
      have := pickI_bounds v 3 (by omega)
      unfold k1; rw [txt_data]
      show (UInt8.ofNat ((pickI v 3).toNat / 256 ^ 0 % 256)).toNat ≤ 2
      rw [ofNat_lt _ (by omega)]; omega
    have e : rightB ((1 : Nat) : Int) (k1 v) = true := by unfold rightB; rw [if_pos (by decide), decide_eq_true_iff]; exact ⟨y1, hv⟩
    exact atOk_of 64 1 _ (by decide) (by decide) e
  · refine ⟨?_, by simp, by simp only; omega⟩
    have e : rightB ((2 : Nat) : Int) (k2 v) = true := by unfold rightB; rw [if_neg (by decide), if_pos (by decide)]; exact k2_path v
    exact atOk_of 64 2 _ (by decide) (by decide) e
  · refine ⟨?_, by simp, by simp only; omega⟩
    have e : rightB ((3 : Nat) : Int) (k3 v) = true := by unfold rightB; rw [if_neg (by omega), if_neg (by omega), if_pos (by omega), decide_eq_true_iff]; exact y3
    exact atOk_of 64 3 _ (by decide) (by decide) e
  · refine ⟨?_, by simp, by simp only; omega⟩
    have e : rightB ((4 : Nat) : Int) (k4 v) = true := by unfold rightB; rw [if_neg (by omega), if_neg (by omega), if_pos (by omega), decide_eq_true_iff]; exact y4
    exact atOk_of 128 4 _ (by decide) (by decide) e
  · refine ⟨?_, by simp, by simp only; omega⟩
    have e : rightB ((8 : Nat) : Int) (k8 v) = true := by unfold rightB; rw [if_neg (by omega), if_neg (by omega), if_neg (by omega), if_neg (by omega), if_neg (by omega), decide_eq_true_iff, y8]; omega
    exact atOk_of 192 8 _ (by decide) (by decide) e
  · refine ⟨?_, by simp only; omega, by simp only; omega⟩
    have e : knownB (kK v : Nat) = false := by unfold knownB; rw [decide_eq_false_iff_not]; omega
    unfold atOk
    simp only
    rw [if_neg (by simp [e]), decide_eq_true_iff]
    rcases kF_is v with h | h <;> rw [h]
    · exact Or.inl rfl
    · exact Or.inr rfl

theorem kaL_sorted (v : Int) : (kaL v).Pairwise fun a b => a.kind < b.kind := by
  have hK := kK_ge v
  unfold kaL
  by_cases h7 : pickI (v.tdiv 7) 3 = 0 <;> by_cases h11 : pickI (v.tdiv 11) 3 = 0 <;> by_cases h13 : pickI (v.tdiv 13) 3 = 0 <;> simp [h7, h11, h13] <;> omega

theorem kaL_can (v : Int) : CanList (kaL v) := ⟨fun a ha => ⟨(kaL_ok v a ha).1, (kaL_ok v a ha).2.1, by have := (kaL_ok v a ha).2.2; omega⟩, kaL_sorted v⟩

theorem needN_app (l m : List At) : needN (l ++ m) = needN l + needN m := by unfold needN; rw [List.filter_append, List.length_append]

theorem kaL_need (v : Int) : needN (kaL v) = 3 := by
  have hK := kK_ge v
  have hif : ∀ (p : Prop) [Decidable p] (b : At), 3 < b.kind → needN (if p then [b] else []) = 0 := by
    intro p _ b h
    by_cases hp : p
    · rw [if_pos hp]; unfold needN; rw [List.filter_cons, if_neg (by simp; omega)]; rfl
    · rw [if_neg hp]; rfl
  unfold kaL
  rw [needN_app, needN_app, needN_app, hif _ _ (by simp), hif _ _ (by simp), hif _ _ (by simp only; omega)]
  rfl

theorem kaW_true (l : List At) : kaW true l = l.flatMap atTwo := rfl

theorem flatMap_same {l : List At} {f g : At → List UInt8} (h : ∀ a ∈ l, f a = g a) : l.flatMap f = l.flatMap g := by
  induction l with
  | nil => rfl
  | cons a l ih =>
    rw [List.flatMap_cons, List.flatMap_cons, h a List.mem_cons_self, ih fun b hb => h b (List.mem_cons_of_mem _ hb)]

theorem kaW_false (v : Int) : kaW false (kaL v) = (kaL v).flatMap atWire := by
  refine flatMap_same fun a ha => ?_
  have := (kaL_ok v a ha).2.2
  show atBytes a.flags a.kind 1 a.val = atWire a
  exact (if_pos (by omega) : atWire a = _).symm

theorem kaW_len (c : Bool) (v : Int) : (kaW c (kaL v)).length ≤ 72 := by
  have h : ∀ l : List At, (∀ a ∈ l, a.val.size ≤ 8) → (kaW c l).length ≤ 12 * l.length := by
    intro l; induction l with
    | nil => intro _; simp [kaW]
    | cons a l ih =>
      intro h
      have h1 := ih fun b hb => h b (List.mem_cons_of_mem _ hb)
      have h2 := h a List.mem_cons_self
      have h3 := kaB_len c a
      rw [txt_len] at h3
      have e : kaW c (a :: l) = kaB c a ++ kaW c l := by simp [kaW]
      rw [e, List.length_append, List.length_cons]; omega
  have h6 : (kaL v).length ≤ 6 := by
    unfold kaL
    simp only [List.length_append, List.length_cons, List.length_nil]
    by_cases h7 : pickI (v.tdiv 7) 3 = 0 <;> by_cases h11 : pickI (v.tdiv 11) 3 = 0 <;> by_cases h13 : pickI (v.tdiv 13) 3 = 0 <;> simp [h7, h11, h13]
  have := h (kaL v) fun a ha => (kaL_ok v a ha).2.2
  omega

theorem canTo_kaL (v : Int) : canTo (kaL v) 256 = kaW true (kaL v) := canTo_all (kaL v) (kaL_sorted v) fun a ha => (kaL_ok v a ha).2.1

theorem kaL_ann (v : Int) : canB (txt (kaW true (kaL v))) = true ∧ annA (txt (kaW true (kaL v))) = kaW false (kaL v) := by
  obtain ⟨h1, _, h3⟩ := can_text (kaL v) (kaL_can v) (kaL_need v)
  rw [kaW_true, kaW_false]
  exact ⟨h1, h3⟩

/-! prefixes. -/

theorem keepP_ok (v : Int) : pfxOk (keepP v).1 (keepP v).2 = true := by
  have hA := keepAddr_bounds v
  have hL := keepLen_bounds v
  have hg := gap_pos (keepLen v)
  unfold keepP
  simp only
  generalize keepAddr v = a at *
  generalize keepLen v = n at *
  have h1 := Int.emod_nonneg a (Int.ne_of_gt hg)
  have h2 := Int.emod_add_mul_ediv a (gap n)
  have h3 : 0 ≤ gap n * (a / gap n) := Int.mul_nonneg (by omega) (Int.ediv_nonneg (by omega) (by omega))
  have h4 : a - a % gap n = gap n * (a / gap n) := by omega
  rw [pfxOk_in _ _ (by omega) (by omega) (by omega) (by omega), h4, Int.mul_emod_right]
  rfl

theorem keepL_all (raw : List Int) (top : Nat) : pfAll (keepL raw top) = true := by
  unfold pfAll keepL
  rw [List.all_eq_true]
  intro p hp
  obtain ⟨c, _, rfl⟩ := List.mem_map.1 hp
  exact keepP_ok c

theorem nats_ok (l : List (Int × Int)) (h : pfAll l = true) : ∀ p ∈ pfNats l, pfxOk p.1 p.2 = true := by
  intro p hp
  have e := pfNats_ints l h
  have hm : ((p.1 : Int), (p.2 : Int)) ∈ l := by
    rw [← e]; unfold pfInts; exact List.mem_map.2 ⟨p, hp, rfl⟩
  unfold pfAll at h
  rw [List.all_eq_true] at h
  exact h _ hm

theorem rdAll_nats (l : List (Int × Int)) (h : pfAll l = true) : rdAll (txt (pfWire (pfNats l))) = some l := by
  rw [rdAll_wire _ (nats_ok l h), pfNats_ints l h]

theorem ktTo_wire (l : List (Nat × Nat)) : ktTo l l.length = pfWire l := by
  unfold ktTo pfWire
  rw [List.take_length]
  congr 1
  funext p
  unfold pfxBytes
  have e : be 1 p.2 = [UInt8.ofNat p.2] := by
    show [UInt8.ofNat (p.2 / 256 ^ 0 % 256)] = _
    congr 1
    apply UInt8.toNat.inj
    simp [UInt8.toNat_ofNat']
  rw [e]; rfl

end Go.Proofs.Yteoacdkgicfomaa
/-
  routelogkeep's update, walked: a message out of raw numbers; and what Update makes of it.
-/
namespace Go.Proofs.Yteoacdkgicfomaa
open Go.RowKit
open Rl

theorem told_keep (v : Value) (l : List (Int × Int)) (w : World) (h : pfAll l = true) (hl : l.length ≤ 1000) (hr : RowAt w v l.length 2 (pfCells l)) :
    Calls Try.prog 21 #[v] w fun e w' => e = .returned (.string (txt (pfWire (pfNats l)))) ∧ Below w.heap.size w w' := by
  have e := pfNats_ints l h
  have hn := pfNats_length l
  have hc := keepTold_any v (pfNats l) w (by omega) (pfNats_bounds l h) (by
    have e2 : (pfNats l).map (fun p => ((p.1 : Int), (p.2 : Int))) = l := e
    rw [e2, hn]; exact hr)
  rw [ktTo_wire] at hc
  exact hc

/-- the content, and the message. -/
def keepW (gone : List Int) (top : Nat) : List UInt8 := pfWire (pfNats (keepL gone top))
def updM (gone come : List Int) (v : Int) : List UInt8 := msgOf 2 (updC (keepW gone 5) (kaW false (kaL v)) (keepW come 6))

theorem keepW_len (gone : List Int) (top : Nat) : (keepW gone top).length ≤ 5 * top := by
  have h := pfWire_nats_le (keepL gone top) (keepL_all gone top)
  have h2 := keepL_length gone top
  unfold keepW
  omega

theorem updC_len (W A C : List UInt8) : (updC W A C).length = 4 + W.length + A.length + C.length := by
  simp [updC, be_length]; omega

theorem ku_text (W A C : List UInt8) : (⟨(be 2 (txt W).size).toArray⟩ : ByteArray) ++ txt W ++ ⟨(be 2 (txt A).size).toArray⟩ ++ txt A ++ txt C = txt (updC W A C) := by
  apply bytes_ext
  rw [append_data, append_data, append_data, append_data, data_arr, data_arr, txt_data, txt_data, txt_data, txt_data, txt_len, txt_len]
  simp [updC]

set_option maxRecDepth 20000 in
set_option maxHeartbeats 4000000 in
theorem keepUpdate_any (vg vc : Value) (gone come : List Int) (v : Int) (w : World) (hg : RowAt w vg gone.length 1 (ints gone)) (hc : RowAt w vc come.length 1 (ints come)) (hgi : ∀ c ∈ gone, inI64 c) (hci : ∀ c ∈ come, inI64 c) (hv : inI64 v) (hgl : gone.length ≤ 9223372036854775807) (hcl : come.length ≤ 9223372036854775807) :
    Calls Try.prog 27 #[vg, vc, .int .i64 v] w fun e w' => e = .returned (.string (txt (updM gone come v))) ∧ Below w.heap.size w w' := by
  have q1 := keepW_len gone 5
  have q2 := kaW_len false v
  have q3 := keepW_len come 6
  have n1 := keepL_length gone 5
  have n3 := keepL_length come 6
  have HT := hide (ku_text (keepW gone 5) (kaW false (kaL v)) (keepW come 6))
  have pG := fun wx h => keepPrefixes_any vg gone 5 wx h hgi (by omega) hgl
  have pC := fun wx h => keepPrefixes_any vc come 6 wx h hci (by omega) hcl
  have tG := fun v wx h => told_keep v (keepL gone 5) wx (keepL_all _ _) (by omega) h
  have tC := fun v wx h => told_keep v (keepL come 6) wx (keepL_all _ _) (by omega) h
  have pA := fun wx => keepAttributes_any v false wx hv
  have HM : Hid (∀ wx, Calls Try.prog 25 #[.int .i64 (2 : Int), .string (txt (updC (keepW gone 5) (kaW false (kaL v)) (keepW come 6)))] wx fun e w' => e = .returned (.string (txt (updM gone come v))) ∧ Below wx.heap.size wx w') := by
    intro wx
    have h := keepMessage_any 2 (txt (updC (keepW gone 5) (kaW false (kaL v)) (keepW come 6))) wx (by omega) (by rw [txt_len, updC_len]; omega)
    rw [txt_data] at h
    exact h
  have s1 := txt_len (keepW gone 5)
  have s2 := txt_len (kaW false (kaL v))
  have s3 := txt_len (keepW come 6)
  rw [show pfWire (pfNats (keepL gone 5)) = keepW gone 5 from rfl] at tG
  rw [show pfWire (pfNats (keepL come 6)) = keepW come 6 from rfl] at tC
  generalize txt (updC (keepW gone 5) (kaW false (kaL v)) (keepW come 6)) = T at *
  generalize txt (updM gone come v) = R at *
  generalize txt (keepW gone 5) = W at *
  generalize txt (kaW false (kaL v)) = A at *
  generalize txt (keepW come 6) = C at *
  have z1 : W.size ≤ 25 := by omega
  have z2 : A.size ≤ 72 := by omega
  have z3 : C.size ≤ 30 := by omega
  clear s1 s2 s3 q1 q2 q3
  have h1 := fun w => keepBytes_any W.size 2 w (by omega) (by omega)
  have h2 := fun w => keepBytes_any A.size 2 w (by omega) (by omega)
  have y1 := size_arr (be 2 W.size)
  have y2 := size_arr (be 2 A.size)
  rw [be_length] at y1 y2
  generalize (⟨(be 2 W.size).toArray⟩ : ByteArray) = U1 at *
  generalize (⟨(be 2 A.size).toArray⟩ : ByteArray) = U2 at *
  have y1' : U1.size ≤ 2 := by omega
  have y2' : U2.size ≤ 2 := by omega
  clear y1 y2
  go_enter Try.func27, Try.ntmps27
  go_wp2_with fail
  refine (pG _ hg).mono ?_
  rintro e w1 ⟨v1, rfl, ho1, hb1⟩
  go_wp2_with fail
  refine (tG _ _ (rowAt_of_owns ho1)).mono ?_
  rintro e w2 ⟨rfl, hb2⟩
  have B2 := below_held hb1 hb2
  go_wp2_with fail
  refine (pA _).mono ?_
  rintro e w3 ⟨rfl, hb3⟩
  have B3 := below_held B2 hb3
  go_wp2_with fail
  refine (h1 _).mono ?_
  rintro e w4 ⟨rfl, hb4⟩
  have B4 := below_held B3 hb4
  go_wp2_with fail
  refine (h2 _).mono ?_
  rintro e w5 ⟨rfl, hb5⟩
  have B5 := below_held B4 hb5
  go_wp2_with fail
  refine (pC _ (hc.later B5)).mono ?_
  rintro e w6 ⟨v6, rfl, ho6, hb6⟩
  have B6 := below_held B5 hb6
  go_wp2_with fail
  refine (tC _ _ (rowAt_of_owns ho6)).mono ?_
  rintro e w7 ⟨rfl, hb7⟩
  have B7 := below_held B6 hb7
  go_wp2_with fail
  rw [HT.out]
  refine (HM.out _).mono ?_
  rintro e w8 ⟨rfl, hb8⟩
  have B8 := below_held B7 hb8
  go_wp2
  go_ret
  exact ⟨rfl, B8⟩

/-- what Update makes of a message that is written so. -/
theorem upd_wire (g a : List (Int × Int)) (A : List UInt8) (l : List At) (sp : Bool) (hg : pfAll g = true) (ha : pfAll a = true) (hA : akOf (txt A) = some (l, sp)) (hlen : 19 + (updC (pfWire (pfNats g)) A (pfWire (pfNats a))).length ≤ 200) :
    upd (txt (msgOf 2 (updC (pfWire (pfNats g)) A (pfWire (pfNats a))))) = updBody g a l sp := by
  have h1 := updC_len (pfWire (pfNats g)) A (pfWire (pfNats a))
  obtain ⟨f1, f2, f3⟩ := msg_frame (updC (pfWire (pfNats g)) A (pfWire (pfNats a))) 2 (by omega) hlen
  obtain ⟨c1, c2, c3, c4⟩ := updC_parts (pfWire (pfNats g)) A (pfWire (pfNats a)) (by omega) (by omega)
  have hf : frameOk (txt (msgOf 2 (updC (pfWire (pfNats g)) A (pfWire (pfNats a))))) = true := by
    unfold frameOk
    rw [decide_eq_true_iff, txt_data, txt_len, msgOf_length]
    exact ⟨f1, f2, f3⟩
  unfold upd
  rw [if_pos hf, msg_content]
  unfold updParts
  rw [if_pos c1, c2, c3, c4, rdAll_nats g hg, rdAll_nats a ha, hA]

end Go.Proofs.Yteoacdkgicfomaa
/-
  What Scanned asks of bytes, as plain facts.
-/
namespace Go.Proofs.Yteoacdkgicfomaa
open Go.RowKit
open Rl

/-- the update of raw numbers is one that Update takes. -/
theorem upd_updM (gone come : List Int) (v : Int) : (upd (txt (updM gone come v))).err = 0 := by
  have hga := keepL_all gone 5
  have hra := keepL_all come 6
  have wG := pfWire_nats_le _ hga
  have wR := pfWire_nats_le _ hra
  have wF := kaW_len false v
  have gl := keepL_length gone 5
  have rl := keepL_length come 6
  have c2 := updC_len (pfWire (pfNats (keepL gone 5))) (kaW false (kaL v)) (pfWire (pfNats (keepL come 6)))
  have h := upd_wire (keepL gone 5) (keepL come 6) (kaW false (kaL v)) (kaL v) false hga hra (by rw [kaW_false]; exact akOf_wire _ (kaL_can v)) (by omega)
  have e : updM gone come v = msgOf 2 (updC (pfWire (pfNats (keepL gone 5))) (kaW false (kaL v)) (pfWire (pfNats (keepL come 6)))) := rfl
  rw [e, h]
  unfold updBody
  split
  · rfl
  · split <;> rfl

theorem updM_len (gone come : List Int) (v : Int) : (updM gone come v).length ≤ 200 := by
  have hga := keepL_all gone 5
  have hra := keepL_all come 6
  have wG := pfWire_nats_le _ hga
  have wR := pfWire_nats_le _ hra
  have wF := kaW_len false v
  have gl := keepL_length gone 5
  have rl := keepL_length come 6
  have c2 := updC_len (pfWire (pfNats (keepL gone 5))) (kaW false (kaL v)) (pfWire (pfNats (keepL come 6)))
  have e : updM gone come v = msgOf 2 (updC (pfWire (pfNats (keepL gone 5))) (kaW false (kaL v)) (pfWire (pfNats (keepL come 6)))) := rfl
  rw [e, msgOf_length]
  omega

theorem updM_long (gone come : List Int) (v : Int) : 19 ≤ (updM gone come v).length := by
  have e : updM gone come v = msgOf 2 (updC (pfWire (pfNats (keepL gone 5))) (kaW false (kaL v)) (pfWire (pfNats (keepL come 6)))) := rfl
  rw [e, msgOf_length]
  omega

theorem kind_of_ok {k p : Nat} {b : ByteArray} (h : recOk k p b = true) : 1 ≤ k ∧ k ≤ 6 ∧ p < 6 := by
  unfold recOk at h
  split at h
  · simp at h
  · split at h
    · omega
    · split at h
      · omega
      · split at h
        · omega
        · split at h
          · omega
          · simp at h

theorem xFine (T P : Nat) (gone come : List Int) (v : Int) (hT : T < 4294967296) (hP : P < 6) : RecFine ⟨T, 1, P, txt (updM gone come v)⟩ := by
  have h1 := updM_len gone come v
  have h2 := txt_len (updM gone come v)
  refine ⟨hT, by show (1 : Nat) < 256; omega, by show P < 256; omega, by show (txt (updM gone come v)).size < 65536; omega, ?_⟩
  show recOk 1 P (txt (updM gone come v)) = true
  rw [recOk_msg P _ (by omega), decide_eq_true_iff]
  exact upd_updM gone come v

theorem flat_step (l : List Rec) (k : Nat) (h : k < l.length) : txt ((l.take k).flatMap recB) ++ txt (recB l[k]) = txt ((l.take (k + 1)).flatMap recB) := by
  rw [List.take_succ_eq_append_getElem h, List.flatMap_append, txt_app]
  congr 2
  simp

theorem flat_le (l : List Rec) (k : Nat) : ((l.take k).flatMap recB).length ≤ (l.flatMap recB).length := by
  have h : l.flatMap recB = (l.take k).flatMap recB ++ (l.drop k).flatMap recB := by rw [← List.flatMap_append, List.take_append_drop]
  rw [h, List.length_append]; omega

theorem flat_all (b : ByteArray) : txt (((scanR b).take (scanR b).length).flatMap recB) = b.extract 0 (scanN b) := by
  obtain ⟨h1, _, _⟩ := scan_found b.size b (Nat.le_refl _)
  rw [List.take_length, h1]
  symm
  apply txt_ext
  rw [ext_list]; simp

theorem behind_text (b : ByteArray) (n : Nat) (x : List UInt8) : b.extract 0 n ++ txt x ++ ⟨#[0]⟩ = txt (b.data.toList.take n ++ (x ++ [0])) := by
  apply bytes_ext
  rw [append_data, append_data, txt_data, txt_data, ext_list]
  simp

theorem stops_text (b : ByteArray) (n : Nat) (y : List UInt8) : b.extract 0 n ++ txt y = txt (b.data.toList.take n ++ y) := by
  apply bytes_ext
  rw [append_data, txt_data, txt_data, ext_list]
  simp

/-- x with its i-th byte changed. -/
def chg (x : List UInt8) (i : Nat) (c : UInt8) : List UInt8 := x.take i ++ c :: x.drop (i + 1)

theorem chg_text (x : List UInt8) (i : Nat) (c : UInt8) : (txt x).extract 0 i ++ ⟨#[c]⟩ ++ (txt x).extract (i + 1) (txt x).size = txt (chg x i c) := by
  apply bytes_ext
  rw [append_data, append_data, txt_data, ext_list, ext_list, txt_data, txt_len, List.take_of_length_le (l := x.drop (i + 1)) (by simp)]
  unfold chg
  simp

theorem chg_len (x : List UInt8) (i : Nat) (c : UInt8) (h : i < x.length) : (chg x i c).length = x.length := by
  unfold chg; simp; omega

theorem chg_none (r : Rec) (hf : RecFine r) (i : Nat) (hi : i < (recB r).length) (h67 : i ≠ 6 ∧ i ≠ 7) (c : UInt8) (hc : c ≠ (recB r)[i]) : firstR (txt (chg (recB r) i c)) = false := by
  refine rec_changed r hf ((recB r).take i) ((recB r).drop (i + 1)) c (recB r)[i] ?_ hc ?_
  · rw [← List.drop_eq_getElem_cons hi, List.take_append_drop]
  · rw [List.length_take]; omega

/-- a byte and a number that isn't 0 of eight bits: another byte. -/
theorem xor_other (a : UInt8) (q : Nat) (h1 : 1 ≤ q) (h2 : q < 256) : UInt8.ofNat (a.toNat ^^^ q) ≠ a := by
  intro h
  have hx : a.toNat ^^^ q < 256 := Nat.xor_lt_two_pow (n := 8) a.toNat_lt h2
  have e := congrArg UInt8.toNat h
  rw [UInt8.toNat_ofNat', Nat.mod_eq_of_lt hx] at e
  have e2 : a.toNat ^^^ (a.toNat ^^^ q) = a.toNat ^^^ a.toNat := by rw [e]
  rw [← Nat.xor_assoc, Nat.xor_self, Nat.zero_xor] at e2
  omega

theorem xor_byte (x : UInt8) (Q : Nat) (hQ : Q < 255) : bits .xor .u8 (x.toNat : Int) (IntKind.u8.wrap (IntKind.i64.wrap (1 + (Q : Int)))) = ((UInt8.ofNat (x.toNat ^^^ (1 + Q))).toNat : Int) := by
  have h0 := x.toNat_lt
  have hx : x.toNat ^^^ (1 + Q) < 2 ^ 8 := Nat.xor_lt_two_pow h0 (by omega)
  have e1 : IntKind.i64.wrap (1 + (Q : Int)) = ((1 + Q : Nat) : Int) := by rw [IntKind.wrap_i64]; omega
  have e2 : ∀ n : Nat, n < 256 → IntKind.u8.wrap (n : Int) = (n : Int) := fun n hn => by rw [IntKind.wrap_u8]; omega
  rw [e1, e2 _ (by omega)]
  simp only [bits, BitVec.ofInt_natCast, BitVec.toNat_xor, BitVec.toNat_ofNat]
  have e8 : 2 ^ IntKind.u8.bits = 256 := rfl
  rw [e8, Nat.mod_eq_of_lt (by omega : x.toNat < 256), Nat.mod_eq_of_lt (by omega : 1 + Q < 256), e2 _ (by omega), UInt8.toNat_ofNat', Nat.mod_eq_of_lt hx]

theorem conv_one (w : World) (T : TypeId) (G : UInt8) :
    (convert 59 9 (.slice (some ⟨w.heap.size, 0, none⟩) 1 1)).run Try.prog ((w.alloc (.cells #[.int .u8 (G.toNat : Int)] T)).drew) = .ok (.string ⟨#[G]⟩) ((w.alloc (.cells #[.int .u8 (G.toNat : Int)] T)).drew) := by
  have h := run_convert_bytes_back (P := Try.prog) ((w.alloc (.cells #[.int .u8 (G.toNat : Int)] T)).drew) 59 9 5 ⟨w.heap.size, 0, none⟩ 1 [G] Try.underlying59 Try.underlying5 Try.underlying9 (by
    intro j hj
    have : j = 0 := by simpa using hj
    subst this
    exact cells_new w _ _ 0 _ rfl)
  exact h

theorem rowAt_head {w : World} {a : Option Addr} {n m c c2 size : Nat} {xs ys : List Value} (h : RowAt w (.slice a (n + m) c) (n + m) size (xs ++ ys)) (hx : xs.length = n * size) : RowAt w (.slice a n c2) n size xs := by
  refine ⟨hx, ?_⟩
  by_cases h0 : n = 0
  · subst h0; exact .inl ⟨a, c2, rfl, rfl⟩
  · rcases h.2 with ⟨x, y, e, h1⟩ | ⟨b, o, cap, e, _, hb, hc⟩
    · omega
    · injection e with e1 e2 e3
      subst e1
      exact .inr ⟨b, o, c2, rfl, by omega, hb, fun j u hj => hc j u (by rw [List.getElem?_append_left (List.getElem?_eq_some_iff.1 hj).1]; exact hj)⟩

end Go.Proofs.Yteoacdkgicfomaa
/-
  Scan, walked, both: over what first hands back.
-/
namespace Go.Proofs.Yteoacdkgicfomaa
open Go.RowKit
open Rl

theorem info_rec : (Try.prog.info? 57).map (fun i => (i.zero, i.size, i.bytes)) = some (some (.agg #[.int .i64 0, .int .i64 0, .int .i64 0, .string ⟨#[]⟩]), 4, 40) := by kernel_rfl

theorem rec_four (t k p : Int) (b : ByteArray) : ∀ u ∈ [Value.int .i64 t, Value.int .i64 k, Value.int .i64 p, Value.string b], u.oneCell' = true := by
  intro u hu; simp at hu; rcases hu with rfl | rfl | rfl | rfl <;> rfl

/-- what Scan hands back. -/
def Scanned (b : ByteArray) (w : World) (e : Ending) (w' : World) : Prop :=
  ∃ v, e = .returned (.tuple #[v, .int .i64 (scanN b : Int)]) ∧ w'.ownsRow w.heap.size 57 4 v (scanR b).length (recCells (scanR b)) ∧ Below w.heap.size w w' ∧ (scanR b).length * 12 ≤ b.size ∧ scanN b ≤ b.size

def FirstOf (n : Nat) : Prop := ∀ (s : ByteArray) (w : World), s.size ≤ 2097152 → Calls Try.prog n #[.string s] w fun e w' => e = .returned (.tuple #[recAgg (frRec s), .int .i64 (frLen s : Int)]) ∧ Below w.heap.size w w'

set_option maxRecDepth 20000 in
set_option maxHeartbeats 4000000 in
theorem scan_of (HF : FirstOf 67) (b : ByteArray) (w : World) (hs : b.size ≤ 2097152) :
    Calls Try.prog 48 #[.string b] w fun e w' => Scanned b w e w' := by
  obtain ⟨i0, hi, hz0, hz1, hz2⟩ := info_parts info_rec
  go_enter Try.func48, Try.ntmps48
  go_wp2
  go_loopw [4, 5] (fun x i wr => ∃ (n : Nat) (xs : List Rec) (s : ByteArray) (lv : Value), lv = x ∧ i = .int .i64 n ∧ Hid (ScanMid b xs n s) ∧ wr.ownsRow w.heap.size 57 4 lv xs.length (recCells xs) ∧ Below w.heap.size w wr) (fun _ i _ => b.size - (intOf i).toNat)
  case atStart => exact ⟨0, [], b, _, rfl, rfl, scanMid_start b, World.ownsRow_nil _ _ _ _, Below.refl _ _⟩
  case round =>
    obtain ⟨n, xs, s, lv, rfl, rfl, HM, hown, hbel⟩ := hrel
    obtain ⟨av, cv, rfl⟩ := slice_of_owns hown
    have hm := HM.out
    obtain ⟨_, _, m3, m4, m5⟩ := hm
    have m4i : (n : Int) ≤ (b.size : Int) := by omega
    have hsz : s.size ≤ 2097152 := by rw [m3, ByteArray.size_extract]; omega
    have HS := hide m3
    have hcall := fun wx => HF s wx hsz
    clear m3 HF
    cases hf : firstR s with
    | false =>
      obtain ⟨e1, e2⟩ := frRec_no hf
      obtain ⟨r1, r2⟩ := scanMid_end HM.out hf
      have HA0 : recAgg ⟨0, 0, 0, ⟨#[]⟩⟩ = .agg #[.int .i64 0, .int .i64 0, .int .i64 0, .string ⟨#[]⟩] := rfl
      rw [e1, e2, HA0] at hcall
      clear e1 e2 HA0
      have HR : Hid (scanR b = xs ∧ scanN b = n) := ⟨r1, r2⟩
      clear r1 r2
      go_wp2_with fail
      rw [← HS.out]
      refine (hcall _).mono ?_
      rintro e w2 ⟨rfl, hb2⟩
      have hown2 := owns_later hown hb2
      have hbel2 := later_below hbel hb2 hbel.size
      go_wp2
      go_ret2
      refine ⟨.slice av xs.length cv, ?_, ?_, ?_, ?_, ?_⟩
      · rw [HR.out.2]; rfl
      · rw [HR.out.1]; exact hown2.alloc _
      · exact hbel2.alloc hbel2.size _
      · rw [HR.out.1]; omega
      · rw [HR.out.2]; omega
    | true =>
      obtain ⟨e1, e2⟩ := frRec_yes hf
      have HN := hide (scanMid_step HM.out hf)
      have hm2 := (scanMid_step HM.out hf).2.2.2.1
      rw [e1, e2] at hcall
      clear e1 e2 hf
      have HA : Hid (∀ r : Rec, recAgg r = .agg #[.int .i64 (r.time : Int), .int .i64 (r.kind : Int), .int .i64 (r.peer : Int), .string r.body]) := fun _ => rfl
      rw [HA.out] at hcall
      clear HA
      generalize headR s = r at *
      generalize bodyN s = N at *
      have hne : (((12 + N : Nat) : Int) == 0) = false := by rw [beq_eq_false_iff_ne]; omega
      obtain ⟨M, hM⟩ : ∃ M, M = n + (12 + N) := ⟨_, rfl⟩
      have hnn : (n : Int) + ((12 + N : Nat) : Int) = (M : Int) := by omega
      have hMn : (n : Int) < (M : Int) ∧ (M : Int) ≤ (b.size : Int) := by omega
      rw [← hM] at HN
      clear hM hm2
      generalize 12 + N = Z at *
      go_wp2_with fail
      rw [← HS.out]
      refine (hcall _).mono ?_
      rintro e w2 ⟨rfl, hb2⟩
      have hown2 := owns_later hown hb2
      have hbel2 := later_below hbel hb2 hbel.size
      have HT : Hid (recCells (xs ++ [r]) = recCells xs ++ [.int .i64 (r.time : Int), .int .i64 (r.kind : Int), .int .i64 (r.peer : Int), .string r.body]) := by rw [recCells_app]; rfl
      go_wp2_with (at_builtin; refine wpList_append_own _ rfl _ _ 52 rfl w.heap.size 57 i0 (.agg #[.int .i64 0, .int .i64 0, .int .i64 0, .string ⟨#[]⟩]) 4 40 Try.underlying52 hi hz0 hz1 hz2 rfl (by decide) _ _ _ rfl ((hown2.alloc _).alloc _) ⟨w2.heap.size + 1, 0, none⟩ 1 1 [.int .i64 (r.time : Int), .int .i64 (r.kind : Int), .int .i64 (r.peer : Int), .string r.body] rfl rfl (cells_new2' _ _ _ _) (rec_four _ _ _ _) (by unfold maxLen; omega) (by omega) (by have := hbel2.size; simp; omega) ?_; intro v5 w5 hown5 hgrow5 _)
      refine ⟨⟨M, xs ++ [r], restR s, v5, rfl, rfl, HN, ?_, below_app2' hbel2 hbel2.size hown2 hgrow5⟩, by simp [intOf]; omega⟩
      rw [HT.out]
      simpa using hown5

set_option maxRecDepth 20000 in
set_option maxHeartbeats 4000000 in
theorem scanRef_of (HF : FirstOf 49) (b : ByteArray) (w : World) (hs : b.size ≤ 2097152) :
    Calls Try.prog 29 #[.string b] w fun e w' => Scanned b w e w' := by
  obtain ⟨i0, hi, hz0, hz1, hz2⟩ := info_parts info_rec
  go_enter Try.func29, Try.ntmps29
  go_wp2
  go_loopw [4, 5] (fun x i wr => ∃ (n : Nat) (xs : List Rec) (s : ByteArray) (lv : Value), lv = x ∧ i = .int .i64 n ∧ Hid (ScanMid b xs n s) ∧ wr.ownsRow w.heap.size 57 4 lv xs.length (recCells xs) ∧ Below w.heap.size w wr) (fun _ i _ => b.size - (intOf i).toNat)
  case atStart => exact ⟨0, [], b, _, rfl, rfl, scanMid_start b, World.ownsRow_nil _ _ _ _, Below.refl _ _⟩
  case round =>
    obtain ⟨n, xs, s, lv, rfl, rfl, HM, hown, hbel⟩ := hrel
    obtain ⟨av, cv, rfl⟩ := slice_of_owns hown
    have hm := HM.out
    obtain ⟨_, _, m3, m4, m5⟩ := hm
    have m4i : (n : Int) ≤ (b.size : Int) := by omega
    have hsz : s.size ≤ 2097152 := by rw [m3, ByteArray.size_extract]; omega
    have HS := hide m3
    have hcall := fun wx => HF s wx hsz
    clear m3 HF
    cases hf : firstR s with
    | false =>
      obtain ⟨e1, e2⟩ := frRec_no hf
      obtain ⟨r1, r2⟩ := scanMid_end HM.out hf
      have HA0 : recAgg ⟨0, 0, 0, ⟨#[]⟩⟩ = .agg #[.int .i64 0, .int .i64 0, .int .i64 0, .string ⟨#[]⟩] := rfl
      rw [e1, e2, HA0] at hcall
      clear e1 e2 HA0
      have HR : Hid (scanR b = xs ∧ scanN b = n) := ⟨r1, r2⟩
      clear r1 r2
      go_wp2_with fail
      rw [← HS.out]
      refine (hcall _).mono ?_
      rintro e w2 ⟨rfl, hb2⟩
      have hown2 := owns_later hown hb2
      have hbel2 := later_below hbel hb2 hbel.size
      go_wp2
      go_ret2
      refine ⟨.slice av xs.length cv, ?_, ?_, ?_, ?_, ?_⟩
      · rw [HR.out.2]; rfl
      · rw [HR.out.1]; exact hown2.alloc _
      · exact hbel2.alloc hbel2.size _
      · rw [HR.out.1]; omega
      · rw [HR.out.2]; omega
    | true =>
      obtain ⟨e1, e2⟩ := frRec_yes hf
      have HN := hide (scanMid_step HM.out hf)
      have hm2 := (scanMid_step HM.out hf).2.2.2.1
      rw [e1, e2] at hcall
      clear e1 e2 hf
      have HA : Hid (∀ r : Rec, recAgg r = .agg #[.int .i64 (r.time : Int), .int .i64 (r.kind : Int), .int .i64 (r.peer : Int), .string r.body]) := fun _ => rfl
      rw [HA.out] at hcall
      clear HA
      generalize headR s = r at *
      generalize bodyN s = N at *
      have hne : (((12 + N : Nat) : Int) == 0) = false := by rw [beq_eq_false_iff_ne]; omega
      obtain ⟨M, hM⟩ : ∃ M, M = n + (12 + N) := ⟨_, rfl⟩
      have hnn : (n : Int) + ((12 + N : Nat) : Int) = (M : Int) := by omega
      have hMn : (n : Int) < (M : Int) ∧ (M : Int) ≤ (b.size : Int) := by omega
      rw [← hM] at HN
      clear hM hm2
      generalize 12 + N = Z at *
      go_wp2_with fail
      rw [← HS.out]
      refine (hcall _).mono ?_
      rintro e w2 ⟨rfl, hb2⟩
      have hown2 := owns_later hown hb2
      have hbel2 := later_below hbel hb2 hbel.size
      have HT : Hid (recCells (xs ++ [r]) = recCells xs ++ [.int .i64 (r.time : Int), .int .i64 (r.kind : Int), .int .i64 (r.peer : Int), .string r.body]) := by rw [recCells_app]; rfl
      go_wp2_with (at_builtin; refine wpList_append_own _ rfl _ _ 52 rfl w.heap.size 57 i0 (.agg #[.int .i64 0, .int .i64 0, .int .i64 0, .string ⟨#[]⟩]) 4 40 Try.underlying52 hi hz0 hz1 hz2 rfl (by decide) _ _ _ rfl ((hown2.alloc _).alloc _) ⟨w2.heap.size + 1, 0, none⟩ 1 1 [.int .i64 (r.time : Int), .int .i64 (r.kind : Int), .int .i64 (r.peer : Int), .string r.body] rfl rfl (cells_new2' _ _ _ _) (rec_four _ _ _ _) (by unfold maxLen; omega) (by omega) (by have := hbel2.size; simp; omega) ?_; intro v5 w5 hown5 hgrow5 _)
      refine ⟨⟨M, xs ++ [r], restR s, v5, rfl, rfl, HN, ?_, below_app2' hbel2 hbel2.size hown2 hgrow5⟩, by simp [intOf]; omega⟩
      rw [HT.out]
      simpa using hown5

end Go.Proofs.Yteoacdkgicfomaa
/-
  Two lists of the same records are the same, walked: routeloglaw.sameR, routelogkeep.alike.
-/
namespace Go.Proofs.Yteoacdkgicfomaa
open Go.RowKit
open Rl

set_option maxRecDepth 20000 in
set_option maxHeartbeats 4000000 in
theorem sameR_any (va vb : Value) (l : List Rec) (a0 a1 : Option Addr) (c0 c1 : Nat) (w : World) (hl : l.length ≤ 1073741824) (ha : va = .slice a0 l.length c0) (hb : vb = .slice a1 l.length c1) (hra : RowAt w va l.length 4 (recCells l)) (hrb : RowAt w vb l.length 4 (recCells l)) :
    Calls Try.prog 30 #[va, vb] w fun e w' => e = .returned (.bool true) ∧ Below w.heap.size w w' := by
  rcases hra.2 with ⟨x, y, hv, hn⟩ | ⟨b, o, cap, hv, hn, hbk, hc⟩
  · have e0 : l = [] := List.eq_nil_of_length_eq_zero hn
    subst e0
    subst ha hb
    go_enter Try.func30, Try.ntmps30
    go_wp2
    refine wp_loop_rounds 1 ?_
    rw [rounds_succ]
    go_wp2
    go_ret
    exact ⟨rfl, Below.refl _ _⟩
  · rcases hrb.2 with ⟨x, y, hv2, hn2⟩ | ⟨b2, o2, cap2, hv2, hn2, hbk2, hc2⟩
    · omega
    · clear ha hb
      subst hv hv2
      have hne : ((l.length : Int) != (l.length : Int)) = false := by simp
      go_enter Try.func30, Try.ntmps30
      go_wp2
      go_loopw [5] (fun i wr => ∃ k : Nat, k ≤ l.length ∧ i = .int .i64 k ∧ Below w.heap.size w wr) (fun i _ => l.length - (intOf i).toNat)
      case atStart => exact ⟨0, Nat.zero_le _, rfl, Below.refl _ _⟩
      case round =>
        obtain ⟨k, hk, rfl, hbel⟩ := hrel
        by_cases hlt : k < l.length
        · obtain ⟨g1, g2, g3, g4⟩ := recCells_get l k hlt
          have q1 := (hbel.cell (p := ⟨b, o + k * 4, none⟩) hbk).trans (hc _ _ g1)
          have q2 := (hbel.cell (p := ⟨b, o + k * 4 + 1, none⟩) hbk).trans (hc _ _ g2)
          have q3 := (hbel.cell (p := ⟨b, o + k * 4 + 2, none⟩) hbk).trans (hc _ _ g3)
          have q4 := (hbel.cell (p := ⟨b, o + k * 4 + 3, none⟩) hbk).trans (hc _ _ g4)
          have r1 := (hbel.cell (p := ⟨b2, o2 + k * 4, none⟩) hbk2).trans (hc2 _ _ g1)
          have r2 := (hbel.cell (p := ⟨b2, o2 + k * 4 + 1, none⟩) hbk2).trans (hc2 _ _ g2)
          have r3 := (hbel.cell (p := ⟨b2, o2 + k * 4 + 2, none⟩) hbk2).trans (hc2 _ _ g3)
          have r4 := (hbel.cell (p := ⟨b2, o2 + k * 4 + 3, none⟩) hbk2).trans (hc2 _ _ g4)
          clear hc hc2 g1 g2 g3 g4 hra hrb
          generalize l[k].time = p at *
          generalize l[k].kind = q at *
          generalize l[k].peer = s at *
          generalize l[k].body = t at *
          have hlt' : (k : Int) < (l.length : Int) := by omega
          have hk0 : (0 : Int) ≤ (k : Int) := by omega
          go_wp2
          go_quiet (fail)
          go_wp2
          exact ⟨⟨k + 1, by omega, by go_num, below_drewN hbel _⟩, by simp [intOf]; omega⟩
        · clear hc hc2 hra hrb
          go_wp2
          go_ret
          exact ⟨rfl, hbel⟩

set_option maxRecDepth 20000 in
set_option maxHeartbeats 4000000 in
theorem alike_any (va vb : Value) (l : List Rec) (a0 a1 : Option Addr) (c0 c1 : Nat) (w : World) (hl : l.length ≤ 1073741824) (ha : va = .slice a0 l.length c0) (hb : vb = .slice a1 l.length c1) (hra : RowAt w va l.length 4 (recCells l)) (hrb : RowAt w vb l.length 4 (recCells l)) :
    Calls Try.prog 32 #[va, vb] w fun e w' => e = .returned (.bool true) ∧ Below w.heap.size w w' := by
  rcases hra.2 with ⟨x, y, hv, hn⟩ | ⟨b, o, cap, hv, hn, hbk, hc⟩
  · have e0 : l = [] := List.eq_nil_of_length_eq_zero hn
    subst e0
    subst ha hb
    go_enter Try.func32, Try.ntmps32
    go_wp2
    refine wp_loop_rounds 1 ?_
    rw [rounds_succ]
    go_wp2
    go_ret
    exact ⟨rfl, Below.refl _ _⟩
  · rcases hrb.2 with ⟨x, y, hv2, hn2⟩ | ⟨b2, o2, cap2, hv2, hn2, hbk2, hc2⟩
    · omega
    · clear ha hb
      subst hv hv2
      have hne : ((l.length : Int) != (l.length : Int)) = false := by simp
      go_enter Try.func32, Try.ntmps32
      go_wp2
      go_loopw [5] (fun i wr => ∃ k : Nat, k ≤ l.length ∧ i = .int .i64 k ∧ Below w.heap.size w wr) (fun i _ => l.length - (intOf i).toNat)
      case atStart => exact ⟨0, Nat.zero_le _, rfl, Below.refl _ _⟩
      case round =>
        obtain ⟨k, hk, rfl, hbel⟩ := hrel
        by_cases hlt : k < l.length
        · obtain ⟨g1, g2, g3, g4⟩ := recCells_get l k hlt
          have q1 := (hbel.cell (p := ⟨b, o + k * 4, none⟩) hbk).trans (hc _ _ g1)
          have q2 := (hbel.cell (p := ⟨b, o + k * 4 + 1, none⟩) hbk).trans (hc _ _ g2)
          have q3 := (hbel.cell (p := ⟨b, o + k * 4 + 2, none⟩) hbk).trans (hc _ _ g3)
          have q4 := (hbel.cell (p := ⟨b, o + k * 4 + 3, none⟩) hbk).trans (hc _ _ g4)
          have r1 := (hbel.cell (p := ⟨b2, o2 + k * 4, none⟩) hbk2).trans (hc2 _ _ g1)
          have r2 := (hbel.cell (p := ⟨b2, o2 + k * 4 + 1, none⟩) hbk2).trans (hc2 _ _ g2)
          have r3 := (hbel.cell (p := ⟨b2, o2 + k * 4 + 2, none⟩) hbk2).trans (hc2 _ _ g3)
          have r4 := (hbel.cell (p := ⟨b2, o2 + k * 4 + 3, none⟩) hbk2).trans (hc2 _ _ g4)
          clear hc hc2 g1 g2 g3 g4 hra hrb
          generalize l[k].time = p at *
          generalize l[k].kind = q at *
          generalize l[k].peer = s at *
          generalize l[k].body = t at *
          have hlt' : (k : Int) < (l.length : Int) := by omega
          have hk0 : (0 : Int) ≤ (k : Int) := by omega
          go_wp2
          go_quiet (fail)
          go_wp2
          exact ⟨⟨k + 1, by omega, by go_num, below_drewN hbel _⟩, by simp [intOf]; omega⟩
        · clear hc hc2 hra hrb
          go_wp2
          go_ret
          exact ⟨rfl, hbel⟩

end Go.Proofs.Yteoacdkgicfomaa
/-
  routelogkeep.Scanned, walked: over what Scan hands back of each of the three texts.
-/
namespace Go.Proofs.Yteoacdkgicfomaa
open Go.RowKit
open Rl

/-- what a call of Scan hands back. -/
def HandsR (l : List Rec) (n : Nat) (wx : World) (e : Ending) (w' : World) : Prop :=
  ∃ a c, e = .returned (.tuple #[.slice a l.length c, .int .i64 (n : Int)]) ∧ w'.ownsRow wx.heap.size 57 4 (.slice a l.length c) l.length (recCells l) ∧ Below wx.heap.size wx w'

/-- what the region of the long condition keeps: the last record's box, the list, what lies below. -/
def HoldZ (w : World) (nz : Nat) (t k p u v : Value) (l : List Rec) (wx : World) : Prop := Box4 wx nz t k p u ∧ RowAt wx v l.length 4 (recCells l) ∧ Below w.heap.size w wx

theorem HoldZ.later {w wx w2 : World} {nz : Nat} {t k p u v : Value} {l : List Rec} (h : HoldZ w nz t k p u v l wx) (hb : Below wx.heap.size wx w2) : HoldZ w nz t k p u v l w2 := ⟨h.1.later hb, h.2.1.later hb, below_held h.2.2 hb⟩

theorem holdZ_cells {w wx : World} {nz : Nat} {t k p u v : Value} {l : List Rec} (h : HoldZ w nz t k p u v l wx) : wx.cell? ⟨nz, 0, none⟩ = some t ∧ wx.cell? ⟨nz, 1, none⟩ = some k ∧ wx.cell? ⟨nz, 2, none⟩ = some p ∧ wx.cell? ⟨nz, 3, none⟩ = some u ∧ HoldZ w nz t k p u v l wx := by
  have hb := h.1
  obtain ⟨d0, d1, d2, d3, _⟩ := hb
  exact ⟨d0, d1, d2, d3, h⟩

theorem keepZ {w wx w2 : World} {nz : Nat} {t k p u v : Value} {l : List Rec} (h : wx.cell? ⟨nz, 0, none⟩ = some t ∧ wx.cell? ⟨nz, 1, none⟩ = some k ∧ wx.cell? ⟨nz, 2, none⟩ = some p ∧ wx.cell? ⟨nz, 3, none⟩ = some u ∧ HoldZ w nz t k p u v l wx) (hb : Below wx.heap.size wx w2) :
    w2.cell? ⟨nz, 0, none⟩ = some t ∧ w2.cell? ⟨nz, 1, none⟩ = some k ∧ w2.cell? ⟨nz, 2, none⟩ = some p ∧ w2.cell? ⟨nz, 3, none⟩ = some u ∧ HoldZ w nz t k p u v l w2 := holdZ_cells (h.2.2.2.2.later hb)

theorem restZ {w wx : World} {nz : Nat} {t k p u v : Value} {l : List Rec} (h : wx.cell? ⟨nz, 0, none⟩ = some t ∧ wx.cell? ⟨nz, 1, none⟩ = some k ∧ wx.cell? ⟨nz, 2, none⟩ = some p ∧ wx.cell? ⟨nz, 3, none⟩ = some u ∧ HoldZ w nz t k p u v l wx) : Below w.heap.size w wx := h.2.2.2.2.2.2

/-- what the last region keeps. -/
def HoldY (w : World) (v : Value) (l : List Rec) (wx : World) : Prop := RowAt wx v l.length 4 (recCells l) ∧ Below w.heap.size w wx
theorem HoldY.later {w wx w2 : World} {v : Value} {l : List Rec} (h : HoldY w v l wx) (hb : Below wx.heap.size wx w2) : HoldY w v l w2 := ⟨h.1.later hb, below_held h.2 hb⟩
theorem HoldY.drew {w wx : World} {v : Value} {l : List Rec} (h : HoldY w v l wx) : HoldY w v l wx.drew := h.later (Below.refl _ _).drew
theorem HoldY.new {w wx : World} {v : Value} {l : List Rec} (h : HoldY w v l wx) (o : Obj) : HoldY w v l (wx.alloc o) := h.later (below_new _ _)

set_option maxRecDepth 20000 in
set_option maxHeartbeats 16000000 in
theorem scanned_raw (b : ByteArray) (tm v at_ by_ : Int) (ar : Option Addr) (rn cr : Nat) (w : World) (l : List Rec) (N T P I0 I Q : Nat) (U X BN Z Y : ByteArray) (F R : Nat → ByteArray)
    (hb : b.size ≤ 1048576) (hl : l.length * 12 ≤ b.size) (hN : N ≤ b.size)
    (pS1 : ∀ wx, Calls Try.prog 28 #[.string b] wx fun e w' => HandsR l N wx e w')
    (HR : Hid (∀ k (h : k < l.length), (l[k].time < 4294967296 ∧ 1 ≤ l[k].kind ∧ l[k].kind ≤ 6 ∧ l[k].peer < 6) ∧ (F k).size ≤ 1048576 ∧ (R k).size ≤ 70000 ∧ F k ++ R k = F (k + 1) ∧ CallsStr 31 #[.int .i64 (l[k].time : Int), .int .i64 (l[k].kind : Int), .int .i64 (l[k].peer : Int), .string l[k].body] (R k)))
    (HF0 : Hid (F 0 = ⟨#[]⟩)) (HFN : Hid (F l.length = BN)) (HBN : b.extract 0 N = BN)
    (pT : CallsInt 23 #[.int .i64 tm, .int .i64 4294967296] (T : Int)) (pP : CallsInt 23 #[.int .i64 v, .int .i64 6] (P : Int))
    (pU : ∀ wx, Below w.heap.size w wx → Calls Try.prog 27 #[.slice ar rn cr, .slice ar rn cr, .int .i64 v] wx fun e w' => e = .returned (.string U) ∧ Below wx.heap.size wx w')
    (pX : CallsStr 31 #[.int .i64 (T : Int), .int .i64 1, .int .i64 (P : Int), .string U] X) (hX1 : 14 ≤ X.size) (hX2 : X.size ≤ 400)
    (HZ : Hid (BN ++ X ++ ⟨#[0]⟩ = Z)) (hBN : BN.size ≤ 1048576)
    (pS2 : ∀ wx, Calls Try.prog 28 #[.string Z] wx fun e w' => HandsR (l ++ [⟨T, 1, P, U⟩]) (N + X.size) wx e w')
    (pI : CallsInt 23 #[.int .i64 at_, .int .i64 ((X.size : Int) - 2)] (I0 : Int)) (hI0 : I0 + 2 < X.size) (hI : I = if 6 ≤ I0 then I0 + 2 else I0)
    (pQ : CallsInt 23 #[.int .i64 by_, .int .i64 255] (Q : Int)) (hQ : Q < 255)
    (HY : Hid (BN ++ (X.extract 0 I ++ ⟨#[UInt8.ofNat ((X.data.toList.getD I 0).toNat ^^^ (1 + Q))]⟩ ++ X.extract (I + 1) X.size) = Y))
    (pS3 : ∀ wx, Calls Try.prog 28 #[.string Y] wx fun e w' => HandsR l N wx e w') :
    Calls Try.prog 9 #[.string b, .int .i64 tm, .int .i64 v, .slice ar rn cr, .int .i64 at_, .int .i64 by_] w fun e w' => e = .returned (.bool true) ∧ Below w.heap.size w w' := by
  have n0 : decide ((N : Int) < 0) = false := decide_eq_false (by omega)
  have n1 : decide ((b.size : Int) < (N : Int)) = false := decide_eq_false (by omega)
  have n2 : decide (b.size < N) = false := decide_eq_false (by omega)
  go_enter Try.func9, Try.ntmps9
  go_wp2_with fail
  refine (pS1 _).mono ?_
  rintro e w1 ⟨a1, c1, rfl, ho1, hb1⟩
  go_upto_block 0 with fail
  go_cut [15] (fun s wx => s = .string BN ∧ RowAt wx (.slice a1 l.length c1) l.length 4 (recCells l) ∧ Below w.heap.size w wx)
  case first =>
    have r0 := rowAt_of_owns ho1
    have hbw := hb1
    clear pT pP pU pX pS2 pI pQ pS3 pS1 HZ HY ho1 hb1 hI hI0 hQ HBN hX1 hX2 hN n0 n1 n2
    go_wp2_with fail
    go_loopw [15, 16] (fun s i wr => ∃ k : Nat, k ≤ l.length ∧ i = .int .i64 k ∧ s = .string (F k) ∧ Below w1.heap.size w1 wr) (fun _ i _ => l.length - (intOf i).toNat)
    case atStart => exact ⟨0, Nat.zero_le _, rfl, by rw [HF0.out], Below.refl _ _⟩
    case round =>
      obtain ⟨k, hk, rfl, rfl, hbel⟩ := hrel
      by_cases hlt : k < l.length
      · obtain ⟨⟨t1, k1, k2, p1⟩, z1, z2, e1, cR⟩ := HR.out k hlt
        rcases (r0.later hbel).2 with ⟨_, _, _, h0⟩ | ⟨g, o, cap, e, _, hbk, hc⟩
        · omega
        · cases e
          obtain ⟨g1, g2, g3, g4⟩ := recCells_get l k hlt
          have q1 := hc _ _ g1
          have q2 : wr.cell? ⟨g, o + k * 4 + 1, none⟩ = _ := hc _ _ g2
          have q3 : wr.cell? ⟨g, o + k * 4 + 2, none⟩ = _ := hc _ _ g3
          have q4 : wr.cell? ⟨g, o + k * 4 + 3, none⟩ = _ := hc _ _ g4
          clear g1 g2 g3 g4 hc r0 hbk HR HF0 HFN
          generalize l[k].time = t at *
          generalize l[k].kind = kd at *
          generalize l[k].peer = p at *
          generalize l[k].body = bd at *
          have hx : (k : Int) < (l.length : Int) := by omega
          have hk0 : (0 : Int) ≤ (k : Int) := by omega
          have u1 : ¬ ((t : Int) < 0) := by omega
          have u2 : ¬ ((4294967295 : Int) < (t : Int)) := by omega
          have u3 : ¬ ((p : Int) < 0) := by omega
          have u4 : ¬ ((6 : Int) ≤ (p : Int)) := by omega
          have u5 : ¬ ((kd : Int) < 1) := by omega
          have u6 : ¬ ((6 : Int) < (kd : Int)) := by omega
          have HE := hide e1
          clear e1 t1 k1 k2 p1
          go_wp2_with (go_at_call 31; refine (cR _).mono ?_; rintro e w2 ⟨rfl, hb2⟩)
          exact ⟨⟨k + 1, by omega, by go_num, by rw [← HE.out], below_held (hbel.alloc hbel.size _) hb2⟩, by simp [intOf]; omega⟩
      · have e : k = l.length := by omega
        subst e
        have r1 := r0.later hbel
        clear r0 HR
        go_wp2_with fail
        go_meet
        case rel => exact ⟨by rw [HFN.out], r1, below_held hbw hbel⟩
  case rest =>
    clear HR HF0 HFN ho1 hb1
    obtain ⟨rfl, r1, B1⟩ := hcut
    go_wp2_with fail
    refine (pT _).mono ?_
    rintro e w2 ⟨rfl, hw⟩
    rw [hw]
    clear hw w2
    go_wp2_with fail
    refine (pP _).mono ?_
    rintro e w2 ⟨rfl, hw⟩
    rw [hw]
    clear hw w2
    go_wp2_with fail
    refine (pU _ B1).mono ?_
    rintro e w2 ⟨rfl, hb2⟩
    have B2 := below_held B1 hb2
    have r2 := r1.later hb2
    clear hb2 r1 B1
    go_wp2_with fail
    refine (pX _).mono ?_
    rintro e w3 ⟨rfl, hb3⟩
    have B3 := below_held B2 hb3
    have r3 := r2.later hb3
    clear hb3 r2 B2 pX
    go_wp2_with fail
    rw [HZ.out]
    refine (pS2 _).mono ?_
    rintro e w4 ⟨a2, c2, rfl, ho4, hb4⟩
    have B4 := below_held B3 hb4
    have r4 := r3.later hb4
    have k4 := rowAt_of_owns ho4
    have hcap : ∃ g, a2 = some ⟨g, 0, none⟩ ∧ l.length + 1 ≤ c2 ∧ c2 ≤ maxLen := by
      rcases ho4.2 with ⟨_, h0⟩ | ⟨g, cap, cur, e, _, _, h1, h2, _, _⟩
      · rw [List.length_append, List.length_singleton] at h0; omega
      · injection e with e1 e2 e3
        rw [List.length_append, List.length_singleton] at h1
        exact ⟨g, e1, by omega, by omega⟩
    obtain ⟨g, rfl, cp1, cp2⟩ := hcap
    rw [List.length_append, List.length_singleton] at k4
    clear hb4 r3 B3 ho4 pS2 HZ
    have j1 : (((N + X.size : Nat) : Int) != (N : Int) + (X.size : Int)) = false := by simp
    have j2 : (((l.length + 1 : Nat) : Int) != (l.length : Int) + 1) = false := by simp
    have gets : (recCells (l ++ [⟨T, 1, P, U⟩]))[l.length * 4]? = some (.int .i64 (T : Int)) ∧ (recCells (l ++ [⟨T, 1, P, U⟩]))[l.length * 4 + 1]? = some (.int .i64 1) ∧ (recCells (l ++ [⟨T, 1, P, U⟩]))[l.length * 4 + 2]? = some (.int .i64 (P : Int)) ∧ (recCells (l ++ [⟨T, 1, P, U⟩]))[l.length * 4 + 3]? = some (.string U) := by
      have h := recCells_get (l ++ [⟨T, 1, P, U⟩]) l.length (by simp)
      simpa using h
    have hcells : w4.cell? ⟨g, 0 + l.length * 4, none⟩ = some (.int .i64 (T : Int)) ∧ w4.cell? ⟨g, 0 + l.length * 4 + 1, none⟩ = some (.int .i64 1) ∧ w4.cell? ⟨g, 0 + l.length * 4 + 2, none⟩ = some (.int .i64 (P : Int)) ∧ w4.cell? ⟨g, 0 + l.length * 4 + 3, none⟩ = some (.string U) := by
      rcases k4.2 with ⟨_, _, _, h0⟩ | ⟨b', o', cap', e, _, _, hc⟩
      · omega
      · injection e with e1 e2 e3
        injection e1 with e1
        injection e1 with e4 e5 e6
        subst e4 e5
        exact ⟨hc _ _ gets.1, hc _ _ gets.2.1, hc _ _ gets.2.2.1, hc _ _ gets.2.2.2⟩
    rw [Nat.zero_add] at hcells
    obtain ⟨q0, q1, q2, q3⟩ := hcells
    have h4 : RowAt w4 (.slice (some ⟨g, 0, none⟩) l.length c2) l.length 4 (recCells l) := by
      rw [recCells_app] at k4
      exact rowAt_head k4 (by rw [recCells_length])
    clear gets k4
    have x1 : (0 : Int) ≤ (l.length : Int) := by omega
    have x2 : (l.length : Int) < (l.length : Int) + 1 := by omega
    go_wp2_with fail
    have ba : Below w4.heap.size w4 (w4.alloc (.cells #[.int .i64 (T : Int), .int .i64 1, .int .i64 (P : Int), .string U] 57)) := (Below.refl _ _).alloc (Nat.le_refl _) _
    have bx := box4_new w4 (.int .i64 (T : Int)) (.int .i64 1) (.int .i64 (P : Int)) (.string U) 57
    have B5 := below_held B4 ba
    have k5 := h4.later ba
    have r5 := r4.later ba
    clear B4 h4 r4 ba q0 q1 q2 q3
    generalize w4.alloc (.cells #[.int .i64 (T : Int), .int .i64 1, .int .i64 (P : Int), .string U] 57) = wz at *
    generalize w4.heap.size = nz at *
    refine (alike_any _ _ l (some ⟨g, 0, none⟩) a1 c2 c1 _ (by omega) rfl rfl k5 r5).mono ?_
    rintro e w6 ⟨rfl, hb6⟩
    have B6 := below_held B5 hb6
    have r6 := r5.later hb6
    have bx6 := bx.later hb6
    clear B5 k5 r5 bx hb6
    have HZ : HoldZ w nz (.int .i64 (T : Int)) (.int .i64 1) (.int .i64 (P : Int)) (.string U) (.slice a1 l.length c1) l w6 := ⟨bx6, r6, B6⟩
    have hz := holdZ_cells HZ
    clear bx6 r6 B6 HZ
    go_wp2_with fail
    go_region_held (fun w' => w'.cell? ⟨nz, 0, none⟩ = some (.int .i64 (T : Int)) ∧ w'.cell? ⟨nz, 1, none⟩ = some (.int .i64 1) ∧ w'.cell? ⟨nz, 2, none⟩ = some (.int .i64 (P : Int)) ∧ w'.cell? ⟨nz, 3, none⟩ = some (.string U) ∧ HoldZ w nz (.int .i64 (T : Int)) (.int .i64 1) (.int .i64 (P : Int)) (.string U) (.slice a1 l.length c1) l w')
      (first | assumption | (exact keepZ hz (Below.refl _ _).drew) | (exact keepZ (by assumption) (by assumption)))
      (first
        | (go_at_call_of 23 (4294967296 : Int); refine (pT _).mono ?_; rintro e w7 ⟨rfl, hw7⟩; rw [hw7]; clear hw7 w7)
        | (go_at_call_of 23 (6 : Int); refine (pP _).mono ?_; rintro e w7 ⟨rfl, hw7⟩; rw [hw7]; clear hw7 w7)
        | (go_at_call 27; refine (pU _ (restZ (by assumption))).mono ?_; rintro e w8 ⟨rfl, hb8⟩))
    have hH := (‹w8.cell? _ = some _ ∧ _› : w8.cell? ⟨nz, 0, none⟩ = some (.int .i64 (T : Int)) ∧ w8.cell? ⟨nz, 1, none⟩ = some (.int .i64 1) ∧ w8.cell? ⟨nz, 2, none⟩ = some (.int .i64 (P : Int)) ∧ w8.cell? ⟨nz, 3, none⟩ = some (.string U) ∧ HoldZ w nz (.int .i64 (T : Int)) (.int .i64 1) (.int .i64 (P : Int)) (.string U) (.slice a1 l.length c1) l w8)
    obtain ⟨_, _, _, _, _, r8, B8⟩ := hH
    clear hb8 hz pT pP pU
    go_wp2_with fail
    refine (pI _).mono ?_
    rintro e w9 ⟨rfl, hw9⟩
    rw [hw9]
    clear hw9 w9 pI
    have hi2 : (¬ ((6 : Int) ≤ (I0 : Int)) ∧ (I0 : Int) = (I : Int)) ∨ ((6 : Int) ≤ (I0 : Int) ∧ (I0 : Int) + 2 = (I : Int)) := by
      by_cases h : 6 ≤ I0
      · rw [if_pos h] at hI; omega
      · rw [if_neg h] at hI; omega
    have hiX : I < X.size := by omega
    have hiX1 : (I : Int) < (X.size : Int) := by omega
    have hiX3 : (I : Int) ≤ (X.size : Int) := by omega
    have hi0 : (0 : Int) ≤ (I : Int) := by omega
    obtain ⟨J, hJ⟩ : ∃ J, J = I + 1 := ⟨_, rfl⟩
    have iJ : (I : Int) + 1 = (J : Int) := by omega
    have wJ : IntKind.i64.wrap (J : Int) = (J : Int) := by rw [IntKind.wrap_i64]; omega
    have hJX : (J : Int) ≤ (X.size : Int) := by omega
    have hJ0 : (0 : Int) ≤ (J : Int) := by omega
    rw [← hJ] at HY
    clear hI hJ
    have hXI : X.data.toList.getD I 0 = X[I] := by
      rw [List.getD_eq_getElem?_getD, List.getElem?_eq_getElem (by rw [len_data]; exact hiX)]; rfl
    have hxb := xor_byte X[I] Q hQ
    rw [hXI] at HY
    obtain ⟨G, hG⟩ : ∃ G, G = UInt8.ofNat (X[I].toNat ^^^ (1 + Q)) := ⟨_, rfl⟩
    rw [← hG] at HY hxb
    have HX := hide hxb
    clear hxb hG hXI
    obtain ⟨X1, e1⟩ : ∃ X1, X.extract 0 I = X1 := ⟨_, rfl⟩
    obtain ⟨X2, e2⟩ : ∃ X2, X.extract J X.size = X2 := ⟨_, rfl⟩
    have y1 : X1.size ≤ 400 := by rw [← e1, ByteArray.size_extract]; omega
    have y2 : X2.size ≤ 400 := by rw [← e2, ByteArray.size_extract]; omega
    rw [e1, e2] at HY
    have g1 : ¬ 9223372036854775807 < X1.size + 1 := by omega
    have g2 : ¬ 9223372036854775807 < X1.size + 1 + X2.size := by omega
    have g3 : ¬ 9223372036854775807 < BN.size + (X1.size + 1 + X2.size) := by omega
    rcases hi2 with ⟨h6, e6⟩ | ⟨h6, e6⟩
    · rw [e6] at h6 ⊢
      clear e6 hI0
      go_wp2_with fail
      refine wp_region_held_drew (S := fun w' => HoldY w (.slice a1 l.length c1) l w') (by kernel_rfl) (HoldY.drew ⟨r8, B8⟩) (fun hHeld => ?_)
      refine wpAnyH_take (i := 0) (v := ?v0_1) rfl (by kernel_rfl) (by kernel_rfl) (by kernel_rfl) (fun _ _ _ h => h) (Or.inl ⟨by rfl, ?hy0_1⟩) (by assumption) ?rest0_1
      case hy0_1 =>
        intro w' hSw
        first | (go_simp; with_reducible rfl) | go_simp
      refine wpAnyH_take (i := 1) (v := ?v1_2) rfl (by kernel_rfl) (by kernel_rfl) (by kernel_rfl) (fun _ _ _ h => h) (Or.inl ⟨by rfl, ?hy1_2⟩) (by assumption) ?rest1_2
      case hy1_2 =>
        intro w' hSw
        first | (go_simp; with_reducible rfl) | go_simp
      refine wpAnyH_take (i := 2) (v := ?v2_3) rfl (by kernel_rfl) (by kernel_rfl) (by kernel_rfl) (fun _ _ _ h => h) (Or.inl ⟨by rfl, ?hy2_3⟩) (by assumption) ?rest2_3
      case hy2_3 =>
        intro w' hSw
        first | (go_simp; with_reducible rfl) | go_simp
      refine wpAnyH_take (i := 3) (v := ?v3_4) rfl (by kernel_rfl) (by kernel_rfl) (by kernel_rfl) (fun _ _ _ h => h) (Or.inl ⟨by rfl, ?hy3_4⟩) (by assumption) ?rest3_4
      case hy3_4 =>
        intro w' hSw
        first | (go_simp; with_reducible rfl) | go_simp
      refine wpAnyH_take (i := 4) (v := ?v4_5) rfl (by kernel_rfl) (by kernel_rfl) (by kernel_rfl) (fun _ _ _ h => h) (Or.inl ⟨by rfl, ?hy4_5⟩) (by assumption) ?rest4_5
      case hy4_5 =>
        intro w' hSw
        first | (go_simp; with_reducible rfl) | go_simp
      refine wpAnyH_take (i := 5) (v := ?v5_6) rfl (by kernel_rfl) (by kernel_rfl) (by kernel_rfl) (fun _ _ _ h => h) (Or.inl ⟨by rfl, ?hy5_6⟩) (by assumption) ?rest5_6
      case hy5_6 =>
        intro w' hSw
        first | (go_simp; with_reducible rfl) | go_simp
      refine wpAnyH_take (i := 6) (v := ?v6_7) rfl (by kernel_rfl) (by kernel_rfl) (by kernel_rfl) (fun _ _ _ h => h) (Or.inl ⟨by rfl, ?hy6_7⟩) (by assumption) ?rest6_7
      case hy6_7 =>
        intro w' hSw
        first | (go_simp; with_reducible rfl) | go_simp
      refine wpAnyH_take (i := 14) (v := ?v14_8) rfl (by kernel_rfl) (by kernel_rfl) (by kernel_rfl) (fun _ _ _ h => h) (Or.inl ⟨by rfl, ?hy14_8⟩) (by assumption) ?rest14_8
      case hy14_8 =>
        intro w' hSw
        first | (go_simp; with_reducible rfl) | go_simp
      refine wpAnyH_take (i := 15) (v := ?v15_9) rfl (by kernel_rfl) (by kernel_rfl) (by kernel_rfl) (fun _ _ _ h => h) (Or.inl ⟨by rfl, ?hy15_9⟩) (by assumption) ?rest15_9
      case hy15_9 =>
        intro w' hSw
        first | (go_simp; with_reducible rfl) | go_simp
      refine wpAnyH_take (i := 16) (v := ?v16_10) rfl (by kernel_rfl) (by kernel_rfl) (by kernel_rfl) (fun _ _ _ h => h) (Or.inl ⟨by rfl, ?hy16_10⟩) (by assumption) ?rest16_10
      case hy16_10 =>
        intro w' hSw
        first | (go_simp; with_reducible rfl) | go_simp
      refine wpAnyH_take (i := 17) (v := ?v17_11) rfl (by kernel_rfl) (by kernel_rfl) (by kernel_rfl) (fun _ _ _ h => h) (Or.inl ⟨by rfl, ?hy17_11⟩) (by assumption) ?rest17_11
      case hy17_11 =>
        intro w' hSw
        first | (go_simp; with_reducible rfl) | go_simp
      simp only [Act.put, List.setIfInBounds_toArray]
      refine wpAnyH_ready (rs := [7]) (by kernel_rfl) (by simp) ?_
      refine AllReadyH.cons rfl (fun K hK => ?_) ?_
      · go_simp
        go_wp2_with (go_at_call 23; refine (pQ _).mono ?_; rintro e w' ⟨rfl, hw⟩; rw [hw]; clear hw w')
        refine hK.out _ _ (by assumption) (fun hHeld2 => ?_)
        clear hK K
        refine wpAnyH_take (i := 8) (v := ?v8_12) rfl (by kernel_rfl) (by kernel_rfl) (by kernel_rfl) (fun _ _ _ h => h) (Or.inl ⟨by rfl, ?hy8_12⟩) (by assumption) ?rest8_12
        case hy8_12 =>
          intro w' hSw
          first | (go_simp; with_reducible rfl) | go_simp
        refine wpAnyH_take (i := 9) (v := ?v9_13) rfl (by kernel_rfl) (by kernel_rfl) (by kernel_rfl) (fun _ _ _ h => h) (Or.inl ⟨by rfl, ?hy9_13⟩) (by assumption) ?rest9_13
        case hy9_13 =>
          intro w' hSw
          first | (go_simp; with_reducible rfl) | go_simp
        refine wpAnyH_take (i := 10) (v := ?v10_14) rfl (by kernel_rfl) (by kernel_rfl) (by kernel_rfl) (fun _ _ _ h => h) (Or.inl ⟨by rfl, ?hy10_14⟩) (by assumption) ?rest10_14
        case hy10_14 =>
          intro w' hSw
          first | (go_simp; with_reducible rfl) | go_simp
        simp only [Act.put, List.setIfInBounds_toArray]
        refine wpAnyH_ready (rs := [11]) (by kernel_rfl) (by simp) ?_
        refine AllReadyH.cons rfl (fun K hK => ?_) ?_
        · go_simp
          rw [HX.out]
          refine hK.out _ _ (HoldY.drew (HoldY.new ⟨r8, B8⟩ _)) (fun hHeld3 => ?_)
          clear hK K
          have hconv := conv_one w8 5 G
          refine wpAnyH_ready (rs := [12]) (by kernel_rfl) (by simp) ?_
          refine AllReadyH.cons rfl (fun K hK => ?_) ?_
          · go_simp
            refine hK.out _ _ hHeld3 (fun hHeld4 => ?_)
            clear hK K hconv
            refine wpAnyH_take (i := 13) (v := ?v13_15) rfl (by kernel_rfl) (by kernel_rfl) (by kernel_rfl) (fun _ _ _ h => h) (Or.inl ⟨by rfl, ?hy13_15⟩) (by assumption) ?rest13_15
            case hy13_15 =>
              intro w' hSw
              first | (go_simp; with_reducible rfl) | go_simp
            refine wpAnyH_take (i := 18) (v := ?v18_16) rfl (by kernel_rfl) (by kernel_rfl) (by kernel_rfl) (fun _ _ _ h => h) (Or.inl ⟨by rfl, ?hy18_16⟩) (by assumption) ?rest18_16
            case hy18_16 =>
              intro w' hSw
              first | (go_simp; with_reducible rfl) | go_simp
            refine wpAnyH_take (i := 19) (v := ?v19_17) rfl (by kernel_rfl) (by kernel_rfl) (by kernel_rfl) (fun _ _ _ h => h) (Or.inl ⟨by rfl, ?hy19_17⟩) (by assumption) ?rest19_17
            case hy19_17 =>
              intro w' hSw
              first | (go_simp; with_reducible rfl) | go_simp
            simp only [Act.put, List.setIfInBounds_toArray]
            refine wpAnyH_done (by kernel_rfl) ?_ _
            obtain ⟨r9, B9⟩ := hHeld4
            clear hHeld hHeld2 hHeld3 r8 B8
            generalize (w8.alloc (.cells #[.int .u8 (G.toNat : Int)] 5)).drew = wy at *
            go_wp2_with fail
            rw [HY.out]
            refine (pS3 _).mono ?_
            rintro e wk ⟨a3, c3, rfl, ho5, hb5⟩
            have B10 := below_held B9 hb5
            have r10 := r9.later hb5
            have k10 := rowAt_of_owns ho5
            clear ho5 hb5 B9 r9
            go_wp2_with fail
            refine (alike_any _ _ l a3 a1 c3 c1 _ (by omega) rfl rfl k10 r10).mono ?_
            rintro e wl ⟨rfl, hb6⟩
            have B11 := below_held B10 hb6
            go_wp2
            go_ret
            exact ⟨rfl, B11⟩
          exact AllReadyH.nil
        exact AllReadyH.nil
      exact AllReadyH.nil
    · have hI3 : (I0 : Int) + 2 ≤ 400 := by omega
      go_wp2_with fail
      refine wp_region_held_drew (S := fun w' => HoldY w (.slice a1 l.length c1) l w') (by kernel_rfl) (HoldY.drew ⟨r8, B8⟩) (fun hHeld => ?_)
      refine wpAnyH_take (i := 0) (v := ?v0_51) rfl (by kernel_rfl) (by kernel_rfl) (by kernel_rfl) (fun _ _ _ h => h) (Or.inl ⟨by rfl, ?hy0_51⟩) (by assumption) ?rest0_51
      case hy0_51 =>
        intro w' hSw
        first | (go_simp; with_reducible rfl) | go_simp
      refine wpAnyH_take (i := 1) (v := ?v1_52) rfl (by kernel_rfl) (by kernel_rfl) (by kernel_rfl) (fun _ _ _ h => h) (Or.inl ⟨by rfl, ?hy1_52⟩) (by assumption) ?rest1_52
      case hy1_52 =>
        intro w' hSw
        first | (go_simp; with_reducible rfl) | go_simp
      refine wpAnyH_take (i := 2) (v := ?v2_53) rfl (by kernel_rfl) (by kernel_rfl) (by kernel_rfl) (fun _ _ _ h => h) (Or.inl ⟨by rfl, ?hy2_53⟩) (by assumption) ?rest2_53
      case hy2_53 =>
        intro w' hSw
        first | (go_simp; with_reducible rfl) | go_simp
      refine wpAnyH_take (i := 3) (v := ?v3_54) rfl (by kernel_rfl) (by kernel_rfl) (by kernel_rfl) (fun _ _ _ h => h) (Or.inl ⟨by rfl, ?hy3_54⟩) (by assumption) ?rest3_54
      case hy3_54 =>
        intro w' hSw
        first | (go_simp; with_reducible rfl) | go_simp
      refine wpAnyH_take (i := 4) (v := ?v4_55) rfl (by kernel_rfl) (by kernel_rfl) (by kernel_rfl) (fun _ _ _ h => h) (Or.inl ⟨by rfl, ?hy4_55⟩) (by assumption) ?rest4_55
      case hy4_55 =>
        intro w' hSw
        first | (go_simp; with_reducible rfl) | go_simp
      refine wpAnyH_take (i := 5) (v := ?v5_56) rfl (by kernel_rfl) (by kernel_rfl) (by kernel_rfl) (fun _ _ _ h => h) (Or.inl ⟨by rfl, ?hy5_56⟩) (by assumption) ?rest5_56
      case hy5_56 =>
        intro w' hSw
        first | (go_simp; with_reducible rfl) | go_simp
      refine wpAnyH_take (i := 6) (v := ?v6_57) rfl (by kernel_rfl) (by kernel_rfl) (by kernel_rfl) (fun _ _ _ h => h) (Or.inl ⟨by rfl, ?hy6_57⟩) (by assumption) ?rest6_57
      case hy6_57 =>
        intro w' hSw
        first | (go_simp; with_reducible rfl) | go_simp
      refine wpAnyH_take (i := 14) (v := ?v14_58) rfl (by kernel_rfl) (by kernel_rfl) (by kernel_rfl) (fun _ _ _ h => h) (Or.inl ⟨by rfl, ?hy14_58⟩) (by assumption) ?rest14_58
      case hy14_58 =>
        intro w' hSw
        first | (go_simp; with_reducible rfl) | go_simp
      refine wpAnyH_take (i := 15) (v := ?v15_59) rfl (by kernel_rfl) (by kernel_rfl) (by kernel_rfl) (fun _ _ _ h => h) (Or.inl ⟨by rfl, ?hy15_59⟩) (by assumption) ?rest15_59
      case hy15_59 =>
        intro w' hSw
        first | (go_simp; with_reducible rfl) | go_simp
      refine wpAnyH_take (i := 16) (v := ?v16_60) rfl (by kernel_rfl) (by kernel_rfl) (by kernel_rfl) (fun _ _ _ h => h) (Or.inl ⟨by rfl, ?hy16_60⟩) (by assumption) ?rest16_60
      case hy16_60 =>
        intro w' hSw
        first | (go_simp; with_reducible rfl) | go_simp
      refine wpAnyH_take (i := 17) (v := ?v17_61) rfl (by kernel_rfl) (by kernel_rfl) (by kernel_rfl) (fun _ _ _ h => h) (Or.inl ⟨by rfl, ?hy17_61⟩) (by assumption) ?rest17_61
      case hy17_61 =>
        intro w' hSw
        first | (go_simp; with_reducible rfl) | go_simp
      simp only [Act.put, List.setIfInBounds_toArray]
      refine wpAnyH_ready (rs := [7]) (by kernel_rfl) (by simp) ?_
      refine AllReadyH.cons rfl (fun K hK => ?_) ?_
      · go_simp
        go_wp2_with (go_at_call 23; refine (pQ _).mono ?_; rintro e w' ⟨rfl, hw⟩; rw [hw]; clear hw w')
        refine hK.out _ _ (by assumption) (fun hHeld2 => ?_)
        clear hK K
        refine wpAnyH_take (i := 8) (v := ?v8_62) rfl (by kernel_rfl) (by kernel_rfl) (by kernel_rfl) (fun _ _ _ h => h) (Or.inl ⟨by rfl, ?hy8_62⟩) (by assumption) ?rest8_62
        case hy8_62 =>
          intro w' hSw
          first | (go_simp; with_reducible rfl) | go_simp
        refine wpAnyH_take (i := 9) (v := ?v9_63) rfl (by kernel_rfl) (by kernel_rfl) (by kernel_rfl) (fun _ _ _ h => h) (Or.inl ⟨by rfl, ?hy9_63⟩) (by assumption) ?rest9_63
        case hy9_63 =>
          intro w' hSw
          first | (go_simp; with_reducible rfl) | go_simp
        refine wpAnyH_take (i := 10) (v := ?v10_64) rfl (by kernel_rfl) (by kernel_rfl) (by kernel_rfl) (fun _ _ _ h => h) (Or.inl ⟨by rfl, ?hy10_64⟩) (by assumption) ?rest10_64
        case hy10_64 =>
          intro w' hSw
          first | (go_simp; with_reducible rfl) | go_simp
        simp only [Act.put, List.setIfInBounds_toArray]
        refine wpAnyH_ready (rs := [11]) (by kernel_rfl) (by simp) ?_
        refine AllReadyH.cons rfl (fun K hK => ?_) ?_
        · go_simp
          rw [HX.out]
          refine hK.out _ _ (HoldY.drew (HoldY.new ⟨r8, B8⟩ _)) (fun hHeld3 => ?_)
          clear hK K
          have hconv := conv_one w8 5 G
          refine wpAnyH_ready (rs := [12]) (by kernel_rfl) (by simp) ?_
          refine AllReadyH.cons rfl (fun K hK => ?_) ?_
          · go_simp
            refine hK.out _ _ hHeld3 (fun hHeld4 => ?_)
            clear hK K hconv
            refine wpAnyH_take (i := 13) (v := ?v13_65) rfl (by kernel_rfl) (by kernel_rfl) (by kernel_rfl) (fun _ _ _ h => h) (Or.inl ⟨by rfl, ?hy13_65⟩) (by assumption) ?rest13_65
            case hy13_65 =>
              intro w' hSw
              first | (go_simp; with_reducible rfl) | go_simp
            refine wpAnyH_take (i := 18) (v := ?v18_66) rfl (by kernel_rfl) (by kernel_rfl) (by kernel_rfl) (fun _ _ _ h => h) (Or.inl ⟨by rfl, ?hy18_66⟩) (by assumption) ?rest18_66
            case hy18_66 =>
              intro w' hSw
              first | (go_simp; with_reducible rfl) | go_simp
            refine wpAnyH_take (i := 19) (v := ?v19_67) rfl (by kernel_rfl) (by kernel_rfl) (by kernel_rfl) (fun _ _ _ h => h) (Or.inl ⟨by rfl, ?hy19_67⟩) (by assumption) ?rest19_67
            case hy19_67 =>
              intro w' hSw
              first | (go_simp; with_reducible rfl) | go_simp
            simp only [Act.put, List.setIfInBounds_toArray]
            refine wpAnyH_done (by kernel_rfl) ?_ _
            obtain ⟨r9, B9⟩ := hHeld4
            clear hHeld hHeld2 hHeld3 r8 B8
            generalize (w8.alloc (.cells #[.int .u8 (G.toNat : Int)] 5)).drew = wy at *
            go_wp2_with fail
            rw [HY.out]
            refine (pS3 _).mono ?_
            rintro e wk ⟨a3, c3, rfl, ho5, hb5⟩
            have B10 := below_held B9 hb5
            have r10 := r9.later hb5
            have k10 := rowAt_of_owns ho5
            clear ho5 hb5 B9 r9
            go_wp2_with fail
            refine (alike_any _ _ l a3 a1 c3 c1 _ (by omega) rfl rfl k10 r10).mono ?_
            rintro e wl ⟨rfl, hb6⟩
            have B11 := below_held B10 hb6
            go_wp2
            go_ret
            exact ⟨rfl, B11⟩
          exact AllReadyH.nil
        exact AllReadyH.nil
      exact AllReadyH.nil

end Go.Proofs.Yteoacdkgicfomaa
