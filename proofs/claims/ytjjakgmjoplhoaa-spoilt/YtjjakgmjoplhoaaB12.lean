/-
  routelogkeep's raw numbers make canonical attributes and prefixes.
-/
import Derived.Test.YtjjakgmjoplhoaaB09
import Derived.Test.YtjjakgmjoplhoaaB06
import Derived.Test.YtjjakgmjoplhoaaB08
import Derived.Test.YtjjakgmjoplhoaaB03
import Derived.Test.YtjjakgmjoplhoaaB05
import Derived.Test.YtjjakgmjoplhoaaB02
namespace Go.Proofs.Ytjjakgmjoplhoaa
open Go.RowKit
open Rl

theorem kK_ge (v : Int) : 9 ≤ kK v ∧ kK v < 256 := by
  have := pickI_bounds (v.tdiv 17) 200 (by omega)
  unfold kK; omega

theorem kF_is (v : Int) : kF v = 192 ∨ kF v = 224 := by
  have := pickI_bounds v 2 (by omega)
  unfold kF; omega

theorem kaL_mem (v : Int) (a : At) (h : a ∈ kaL v) : a = ⟨64, 1, k1 v⟩ ∨ a = ⟨64, 2, k2 v⟩ ∨ a = ⟨64, 3, k3 v⟩ ∨ a = ⟨128, 4, k4 v⟩ ∨ a = ⟨192, 8, k8 v⟩ ∨ a = ⟨kF v, kK v, kx v⟩ := by
  have hif : ∀ (p : Prop) [Decidable p] (b : At), a ∈ (if p then [b] else []) → a = b := by
    intro p _ b h
    by_cases hp : p
    · rw [if_pos hp] at h; simpa using h
    · rw [if_neg hp] at h; simp at h
  unfold kaL at h
  rcases List.mem_append.1 h with h | h
  · rcases List.mem_append.1 h with h | h
    · rcases List.mem_append.1 h with h | h
      · simp at h; rcases h with h | h | h
        · exact Or.inl h
        · exact Or.inr (Or.inl h)
        · exact Or.inr (Or.inr (Or.inl h))
      · exact Or.inr (Or.inr (Or.inr (Or.inl (hif _ _ h))))
    · exact Or.inr (Or.inr (Or.inr (Or.inr (Or.inl (hif _ _ h)))))
  · exact Or.inr (Or.inr (Or.inr (Or.inr (Or.inr (hif _ _ h)))))

theorem k2_path (v : Int) : pathB (k2 v).data.toList = true := by
  unfold k2
  split
  · have e : ((⟨#[2, 1]⟩ : ByteArray) ++ txt (be 4 (pickI (v.tdiv 3) 1000).toNat)).data.toList = 2 :: 1 :: be 4 (pickI (v.tdiv 3) 1000).toNat := by
      rw [append_data, txt_data]; rfl
    rw [e]
    have hl := be_length 4 (pickI (v.tdiv 3) 1000).toNat
    have ho : segOk (2 :: 1 :: be 4 (pickI (v.tdiv 3) 1000).toNat) = true := by
      unfold segOk
      rw [decide_eq_true_iff, List.length_cons, List.length_cons, hl]
      have a0 : at8 (2 :: 1 :: be 4 (pickI (v.tdiv 3) 1000).toNat) 0 = 2 := rfl
      have a1 : at8 (2 :: 1 :: be 4 (pickI (v.tdiv 3) 1000).toNat) 1 = 1 := rfl
      omega
    rw [pathB_step _ ho]
    have e2 : (2 :: 1 :: be 4 (pickI (v.tdiv 3) 1000).toNat).drop (2 + 4 * at8 (2 :: 1 :: be 4 (pickI (v.tdiv 3) 1000).toNat) 1) = [] := by
      have a1 : at8 (2 :: 1 :: be 4 (pickI (v.tdiv 3) 1000).toNat) 1 = 1 := rfl
      rw [List.drop_eq_nil_iff, List.length_cons, List.length_cons, hl, a1]
      omega
    rw [e2]; rfl
  · rfl

theorem atOk_of (f k : Nat) (v : ByteArray) (hk : knownB k = true) (hf : (f : Int) = flagsI k) (hr : rightB k v = true) : atOk f k v = true := by
  unfold atOk; rw [if_pos hk, hr, decide_eq_true hf]; rfl

theorem kaL_ok (v : Int) (a : At) (h : a ∈ kaL v) : atOk a.flags a.kind a.val = true ∧ a.kind < 256 ∧ a.val.size ≤ 8 := by
  have y1 := k1_size v
  have y2 := k2_size v
  have y3 := k3_size v
  have y4 := k4_size v
  have y8 := k8_size v
  have yx := kx_size v
  have hK := kK_ge v
  rcases kaL_mem v a h with rfl | rfl | rfl | rfl | rfl | rfl
  · refine ⟨?_, by simp, by simp only; omega⟩
    have hv : at8 (k1 v).data.toList 0 ≤ 2 := by
      have := pickI_bounds v 3 (by omega)
      unfold k1; rw [txt_data]
      show (UInt8.ofNat ((pickI v 3).toNat / 256 ^ 0 % 256)).toNat ≤ 2
      rw [ofNat_lt _ (by omega)]; omega
    have e : rightB ((1 : Nat) : Int) (k1 v) = true := by unfold rightB; rw [if_pos (by decide), decide_eq_true_iff]; exact ⟨y1, hv⟩
    exact atOk_of 64 1 _ (by decide) (by decide) e
  · refine ⟨?_, by simp, by simp only; omega⟩
    have e : rightB ((2 : Nat) : Int) (k2 v) = true := by unfold rightB; rw [if_neg (by decide), if_pos (by decide)]; exact k2_path v
    exact atOk_of 64 2 _ (by decide) (by decide) e
  · refine ⟨?_, by simp, by simp only; omega⟩
    have e : rightB ((3 : Nat) : Int) (k3 v) = true := by unfold rightB; rw [if_neg (by omega), if_neg (by omega), if_pos (by omega), decide_eq_true_iff]; exact y3
    exact atOk_of 64 3 _ (by decide) (by decide) e
  · refine ⟨?_, by simp, by simp only; omega⟩
    have e : rightB ((4 : Nat) : Int) (k4 v) = true := by unfold rightB; rw [if_neg (by omega), if_neg (by omega), if_pos (by omega), decide_eq_true_iff]; exact y4
    exact atOk_of 128 4 _ (by decide) (by decide) e
  · refine ⟨?_, by simp, by simp only; omega⟩
    have e : rightB ((8 : Nat) : Int) (k8 v) = true := by unfold rightB; rw [if_neg (by omega), if_neg (by omega), if_neg (by omega), if_neg (by omega), if_neg (by omega), decide_eq_true_iff, y8]; omega
    exact atOk_of 192 8 _ (by decide) (by decide) e
  · refine ⟨?_, by simp only; omega, by simp only; omega⟩
    have e : knownB (kK v : Nat) = false := by unfold knownB; rw [decide_eq_false_iff_not]; omega
    unfold atOk
    simp only
    rw [if_neg (by simp [e]), decide_eq_true_iff]
    rcases kF_is v with h | h <;> rw [h]
    · exact Or.inl rfl
    · exact Or.inr rfl

theorem kaL_sorted (v : Int) : (kaL v).Pairwise fun a b => a.kind < b.kind := by
  have hK := kK_ge v
  unfold kaL
  by_cases h7 : pickI (v.tdiv 7) 3 = 0 <;> by_cases h11 : pickI (v.tdiv 11) 3 = 0 <;> by_cases h13 : pickI (v.tdiv 13) 3 = 0 <;> simp [h7, h11, h13] <;> omega

theorem kaL_can (v : Int) : CanList (kaL v) := ⟨fun a ha => ⟨(kaL_ok v a ha).1, (kaL_ok v a ha).2.1, by have := (kaL_ok v a ha).2.2; omega⟩, kaL_sorted v⟩

theorem needN_app (l m : List At) : needN (l ++ m) = needN l + needN m := by unfold needN; rw [List.filter_append, List.length_append]

theorem kaL_need (v : Int) : needN (kaL v) = 3 := by
  have hK := kK_ge v
  have hif : ∀ (p : Prop) [Decidable p] (b : At), 3 < b.kind → needN (if p then [b] else []) = 0 := by
    intro p _ b h
    by_cases hp : p
    · rw [if_pos hp]; unfold needN; rw [List.filter_cons, if_neg (by simp; omega)]; rfl
    · rw [if_neg hp]; rfl
  unfold kaL
  rw [needN_app, needN_app, needN_app, hif _ _ (by simp), hif _ _ (by simp), hif _ _ (by simp only; omega)]
  rfl

theorem kaW_true (l : List At) : kaW true l = l.flatMap atTwo := rfl

theorem flatMap_same {l : List At} {f g : At → List UInt8} (h : ∀ a ∈ l, f a = g a) : l.flatMap f = l.flatMap g := by
  induction l with
  | nil => rfl
  | cons a l ih =>
    rw [List.flatMap_cons, List.flatMap_cons, h a List.mem_cons_self, ih fun b hb => h b (List.mem_cons_of_mem _ hb)]

theorem kaW_false (v : Int) : kaW false (kaL v) = (kaL v).flatMap atWire := by
  refine flatMap_same fun a ha => ?_
  have := (kaL_ok v a ha).2.2
  show atBytes a.flags a.kind 1 a.val = atWire a
  exact (if_pos (by omega) : atWire a = _).symm

theorem kaW_len (c : Bool) (v : Int) : (kaW c (kaL v)).length ≤ 72 := by
  have h : ∀ l : List At, (∀ a ∈ l, a.val.size ≤ 8) → (kaW c l).length ≤ 12 * l.length := by
    intro l; induction l with
    | nil => intro _; simp [kaW]
    | cons a l ih =>
      intro h
      have h1 := ih fun b hb => h b (List.mem_cons_of_mem _ hb)
      have h2 := h a List.mem_cons_self
      have h3 := kaB_len c a
      rw [txt_len] at h3
      have e : kaW c (a :: l) = kaB c a ++ kaW c l := by simp [kaW]
      rw [e, List.length_append, List.length_cons]; omega
  have h6 : (kaL v).length ≤ 6 := by
    unfold kaL
    simp only [List.length_append, List.length_cons, List.length_nil]
    by_cases h7 : pickI (v.tdiv 7) 3 = 0 <;> by_cases h11 : pickI (v.tdiv 11) 3 = 0 <;> by_cases h13 : pickI (v.tdiv 13) 3 = 0 <;> simp [h7, h11, h13]
  have := h (kaL v) fun a ha => (kaL_ok v a ha).2.2
  omega

theorem canTo_kaL (v : Int) : canTo (kaL v) 256 = kaW true (kaL v) := canTo_all (kaL v) (kaL_sorted v) fun a ha => (kaL_ok v a ha).2.1

theorem kaL_ann (v : Int) : canB (txt (kaW true (kaL v))) = true ∧ annA (txt (kaW true (kaL v))) = kaW false (kaL v) := by
  obtain ⟨h1, _, h3⟩ := can_text (kaL v) (kaL_can v) (kaL_need v)
  rw [kaW_true, kaW_false]
  exact ⟨h1, h3⟩

/-! prefixes. -/

theorem keepP_ok (v : Int) : pfxOk (keepP v).1 (keepP v).2 = true := by
  have hA := keepAddr_bounds v
  have hL := keepLen_bounds v
  have hg := gap_pos (keepLen v)
  unfold keepP
  simp only
  generalize keepAddr v = a at *
  generalize keepLen v = n at *
  have h1 := Int.emod_nonneg a (Int.ne_of_gt hg)
  have h2 := Int.emod_add_mul_ediv a (gap n)
  have h3 : 0 ≤ gap n * (a / gap n) := Int.mul_nonneg (by omega) (Int.ediv_nonneg (by omega) (by omega))
  have h4 : a - a % gap n = gap n * (a / gap n) := by omega
  rw [pfxOk_in _ _ (by omega) (by omega) (by omega) (by omega), h4, Int.mul_emod_right]
  rfl

theorem keepL_all (raw : List Int) (top : Nat) : pfAll (keepL raw top) = true := by
  unfold pfAll keepL
  rw [List.all_eq_true]
  intro p hp
  obtain ⟨c, _, rfl⟩ := List.mem_map.1 hp
  exact keepP_ok c

theorem nats_ok (l : List (Int × Int)) (h : pfAll l = true) : ∀ p ∈ pfNats l, pfxOk p.1 p.2 = true := by
  intro p hp
  have e := pfNats_ints l h
  have hm : ((p.1 : Int), (p.2 : Int)) ∈ l := by
    rw [← e]; unfold pfInts; exact List.mem_map.2 ⟨p, hp, rfl⟩
  unfold pfAll at h
  rw [List.all_eq_true] at h
  exact h _ hm

theorem rdAll_nats (l : List (Int × Int)) (h : pfAll l = true) : rdAll (txt (pfWire (pfNats l))) = some l := by
  rw [rdAll_wire _ (nats_ok l h), pfNats_ints l h]

theorem ktTo_wire (l : List (Nat × Nat)) : ktTo l l.length = pfWire l := by
  unfold ktTo pfWire
  rw [List.take_length]
  congr 1
  funext p
  unfold pfxBytes
  have e : be 1 p.2 = [UInt8.ofNat p.2] := by
    show [UInt8.ofNat (p.2 / 256 ^ 0 % 256)] = _
    congr 1
    apply UInt8.toNat.inj
    simp [UInt8.toNat_ofNat']
  rw [e]; rfl

end Go.Proofs.Ytjjakgmjoplhoaa
/-
  message.cutPart, message.parts and the document's parts, walked.
-/
namespace Go.Proofs.Ytjjakgmjoplhoaa
open Go.RowKit
open Rl

theorem n2_read (s : ByteArray) (w : World) :
    Calls Try.prog 52 #[.string (s.extract 0 2)] w fun e w' => e = .returned (.int .i64 (n2 s : Int)) ∧ w' = w := by
  refine (read_any _ w (by rw [ByteArray.size_extract]; omega)).mono ?_
  rintro e w' ⟨he, hw⟩
  exact ⟨by rw [he, n2_cast], hw⟩

theorem n2_ref (s : ByteArray) (w : World) :
    Calls Try.prog 34 #[.string (s.extract 0 2)] w fun e w' => e = .returned (.int .i64 (n2 s : Int)) ∧ w' = w := by
  refine (number_any _ w (by rw [ByteArray.size_extract]; omega)).mono ?_
  rintro e w' ⟨he, hw⟩
  exact ⟨by rw [he, n2_cast], hw⟩

theorem n2_ref2 (s : ByteArray) (w : World) (h : 4 + n2 s ≤ s.size) :
    Calls Try.prog 34 #[.string (s.extract (2 + n2 s) (4 + n2 s))] w fun e w' => e = .returned (.int .i64 (n2 (cutTail s) : Int)) ∧ w' = w := by
  refine (number_any _ w (by rw [ByteArray.size_extract]; omega)).mono ?_
  rintro e w' ⟨he, hw⟩
  exact ⟨by rw [he, n2_tail s h], hw⟩

set_option maxHeartbeats 800000 in
theorem cutPart_no (s : ByteArray) (w : World) (hs : s.size ≤ maxLen) (h : cutOk s = false) :
    Calls Try.prog 71 #[.string s] w fun e w' => e = .returned (.tuple #[.string ⟨#[]⟩, .string ⟨#[]⟩, .bool false]) ∧ Below w.heap.size w w' := by
  unfold maxLen at hs
  unfold cutOk at h
  rw [decide_eq_false_iff_not] at h
  have hl := n2_lt s
  by_cases h2 : s.size < 2
  · clear h
    go_enter Try.func71, Try.ntmps71
    go_wp2
    go_ret3
    exact ⟨rfl, Below.refl _ _⟩
  · have h3 : s.size < 2 + n2 s := by omega
    clear h
    go_enter Try.func71, Try.ntmps71
    go_wp2_with (go_at_call 52; refine (n2_read s _).mono ?_; rintro e w' ⟨rfl, rfl⟩)
    go_ret3
    exact ⟨rfl, Below.refl _ _⟩

set_option maxHeartbeats 800000 in
theorem cutPart_yes (s : ByteArray) (w : World) (hs : s.size ≤ maxLen) (h : cutOk s = true) :
    Calls Try.prog 71 #[.string s] w fun e w' => e = .returned (.tuple #[.string (cutHead s), .string (cutTail s), .bool true]) ∧ Below w.heap.size w w' := by
  unfold maxLen at hs
  unfold cutOk at h
  rw [decide_eq_true_iff] at h
  have hl := n2_lt s
  obtain ⟨h2, h3⟩ := h
  have hcall := fun w => n2_read s w
  unfold cutHead cutTail
  generalize n2 s = n at *
  go_enter Try.func71, Try.ntmps71
  go_wp2_with (go_at_call 52; refine (hcall _).mono ?_; rintro e w' ⟨rfl, rfl⟩)
  go_region
  go_wp2
  go_ret3
  exact ⟨rfl, below_drewN (Below.refl _ _) _⟩

set_option maxHeartbeats 800000 in
theorem parts_no1 (s : ByteArray) (w : World) (hs : s.size ≤ maxLen) (h1 : cutOk s = false) :
    Calls Try.prog 53 #[.string s] w fun e w' => e = .returned (.tuple #[.string ⟨#[]⟩, .string ⟨#[]⟩, .string ⟨#[]⟩, .bool false]) ∧ Below w.heap.size w w' := by
  have hc := fun w => cutPart_no s w hs h1
  unfold maxLen at hs
  go_enter Try.func53, Try.ntmps53
  go_wp2_with (go_at_call 71; refine (hc _).mono ?_; rintro e w1 ⟨rfl, hb1⟩)
  exact bodyPost_ret (v := .tuple #[.string ⟨#[]⟩, .string ⟨#[]⟩, .string ⟨#[]⟩, .bool false]) (by simp [results, Try.results53, go_sem]) rfl ⟨rfl, hb1⟩

set_option maxHeartbeats 800000 in
theorem parts_no2 (s : ByteArray) (w : World) (hs : s.size ≤ maxLen) (h1 : cutOk s = true) (h2 : cutOk (cutTail s) = false) :
    Calls Try.prog 53 #[.string s] w fun e w' => e = .returned (.tuple #[.string (cutHead s), .string ⟨#[]⟩, .string ⟨#[]⟩, .bool false]) ∧ Below w.heap.size w w' := by
  have ht : (cutTail s).size ≤ maxLen := Nat.le_trans (cutTail_le s) hs
  have hc := fun w => cutPart_yes s w hs h1
  have hd := fun w => cutPart_no (cutTail s) w ht h2
  generalize cutHead s = p at *
  generalize cutTail s = r at *
  clear h1 h2
  unfold maxLen at hs
  go_enter Try.func53, Try.ntmps53
  go_wp2_with (first | (go_at_call_of 71 s; refine (hc _).mono ?_; rintro e w1 ⟨rfl, hb1⟩) | (go_at_call_of 71 r; refine (hd _).mono ?_; rintro e w2 ⟨rfl, hb2⟩))
  exact bodyPost_ret (v := .tuple #[.string p, .string ⟨#[]⟩, .string ⟨#[]⟩, .bool false]) (by simp [results, Try.results53, go_sem]) rfl ⟨rfl, hb1.trans (hb2.mono hb1.size)⟩

set_option maxHeartbeats 800000 in
theorem parts_yes (s : ByteArray) (w : World) (hs : s.size ≤ maxLen) (h1 : cutOk s = true) (h2 : cutOk (cutTail s) = true) :
    Calls Try.prog 53 #[.string s] w fun e w' => e = .returned (.tuple #[.string (cutHead s), .string (cutHead (cutTail s)), .string (cutTail (cutTail s)), .bool true]) ∧ Below w.heap.size w w' := by
  have ht : (cutTail s).size ≤ maxLen := Nat.le_trans (cutTail_le s) hs
  have hc := fun w => cutPart_yes s w hs h1
  have hd := fun w => cutPart_yes (cutTail s) w ht h2
  generalize cutHead s = p at *
  generalize cutTail s = r at *
  generalize cutHead r = p2 at *
  generalize cutTail r = r2 at *
  clear h1 h2
  unfold maxLen at hs
  go_enter Try.func53, Try.ntmps53
  go_wp2_with (first | (go_at_call_of 71 s; refine (hc _).mono ?_; rintro e w1 ⟨rfl, hb1⟩) | (go_at_call_of 71 r; refine (hd _).mono ?_; rintro e w2 ⟨rfl, hb2⟩))
  exact bodyPost_ret (v := .tuple #[.string p, .string p2, .string r2, .bool true]) (by simp [results, Try.results53, go_sem]) rfl ⟨rfl, hb1.trans (hb2.mono hb1.size)⟩

set_option maxHeartbeats 1600000 in
theorem partsref_no (s : ByteArray) (w : World) (hs : s.size ≤ maxLen) (hk : partsOk s = false) :
    Calls Try.prog 36 #[.string s] w fun e w' => e = .returned (.tuple #[.string ⟨#[]⟩, .string ⟨#[]⟩, .string ⟨#[]⟩, .bool false]) ∧ Below w.heap.size w w' := by
  unfold maxLen at hs
  have hl := n2_lt s
  have hl2 := n2_lt (cutTail s)
  have hp := partsOk_iff s
  have hc1 := fun w => n2_ref s w
  have hc2 := n2_ref2 s
  rw [hk] at hp
  simp only [Bool.false_eq_true, false_iff] at hp
  generalize n2 (cutTail s) = n at *
  generalize n2 s = k at *
  clear hk
  go_enter Try.func36, Try.ntmps36
  go_wp2_with (first | (go_at_call_of 34 (s.extract 0 2); refine (hc1 _).mono ?_; rintro e w1 ⟨rfl, rfl⟩) | (go_at_call 34; refine (hc2 _ (by omega)).mono ?_; rintro e w1 ⟨rfl, rfl⟩))
  all_goals first | (exfalso; apply hp; omega) | skip
  all_goals exact bodyPost_ret (v := .tuple #[.string ⟨#[]⟩, .string ⟨#[]⟩, .string ⟨#[]⟩, .bool false]) (by simp [results, Try.results36, go_sem]) rfl ⟨rfl, Below.refl _ _⟩

set_option maxHeartbeats 1600000 in
theorem partsref_yes (s : ByteArray) (w : World) (hs : s.size ≤ maxLen) (hk : partsOk s = true) :
    Calls Try.prog 36 #[.string s] w fun e w' => e = .returned (.tuple #[.string (cutHead s), .string (cutHead (cutTail s)), .string (cutTail (cutTail s)), .bool true]) ∧ Below w.heap.size w w' := by
  unfold maxLen at hs
  have hl := n2_lt s
  have hl2 := n2_lt (cutTail s)
  obtain ⟨hp1, hp2⟩ := (partsOk_iff s).1 hk
  rw [tailHead s hp2, tailTail s]
  have hc1 := fun w => n2_ref s w
  have hc2 := n2_ref2 s
  unfold cutHead
  generalize n2 (cutTail s) = n at *
  generalize n2 s = k at *
  clear hk
  go_enter Try.func36, Try.ntmps36
  go_wp2_with (first | (go_at_call_of 34 (s.extract 0 2); refine (hc1 _).mono ?_; rintro e w1 ⟨rfl, rfl⟩) | (go_at_call 34; refine (hc2 _ (by omega)).mono ?_; rintro e w1 ⟨rfl, rfl⟩))
  go_region
  go_wp2
  exact bodyPost_ret (v := .tuple #[.string (s.extract 2 (2 + k)), .string (s.extract (4 + k) (4 + k + n)), .string (s.extract (4 + k + n) s.size), .bool true]) (by simp [results, Try.results36, go_sem]) rfl ⟨rfl, below_drewN (Below.refl _ _) _⟩

end Go.Proofs.Ytjjakgmjoplhoaa
/-
  What Update answers, as a plain function of the bytes; the readers' contracts, by what they answer.
-/
namespace Go.Proofs.Ytjjakgmjoplhoaa
open Go.RowKit
open Rl

/-- the error, what is withdrawn, what is announced, the attributes. -/
structure Upd where
  err : Int
  gone : List (Int × Int)
  come : List (Int × Int)
  text : List UInt8

def updBody (g a : List (Int × Int)) (l : List At) (sp : Bool) : Upd :=
  if a.length = 0 then ⟨0, g, [], []⟩
  else if sp = true ∨ needN l ≠ 3 then ⟨0, g ++ a, [], []⟩
  else ⟨0, g, a, canTo l 256⟩

def updParts (c : ByteArray) : Upd :=
  if partsOk c = true then
    match rdAll (cutHead c), rdAll (cutTail (cutTail c)), akOf (cutHead (cutTail c)) with
    | some g, some a, some (l, sp) => updBody g a l sp
    | _, _, _ => ⟨3, [], [], []⟩
  else ⟨3, [], [], []⟩

def frameOk (m : ByteArray) : Bool := decide (frE m.data.toList = 0 ∧ frN m.data.toList = m.size ∧ frK m.data.toList = 2)

def upd (m : ByteArray) : Upd := if frameOk m = true then updParts (m.extract 19 m.size) else ⟨2, [], [], []⟩

/-- two rows that the caller owns share nothing. -/
def Apart (v1 v2 : Value) : Prop := ∀ k, v1.ownBlock = some k → v2.ownBlock ≠ some k

theorem rd_yes (s : ByteArray) (l : List (Int × Int)) (w : World) (hs : s.size ≤ 1048576) (h : rdAll s = some l) :
    Calls Try.prog 54 #[.string s] w fun e w' => ∃ a c, e = .returned (.tuple #[.slice a l.length c, .bool true]) ∧ Below w.heap.size w w' ∧ w'.ownsRow w.heap.size 36 2 (.slice a l.length c) l.length (pfCells l) ∧ l.length ≤ s.size := by
  refine (readPrefixes_any s w hs).mono ?_
  rintro e w' ⟨v, he, hb, hy, _⟩
  obtain ⟨ho, hl⟩ := hy l h
  obtain ⟨a, c, rfl⟩ := slice_of_owns ho
  exact ⟨a, c, by rw [he, h]; rfl, hb, ho, hl⟩

theorem rd_no (s : ByteArray) (w : World) (hs : s.size ≤ 1048576) (h : rdAll s = none) :
    Calls Try.prog 54 #[.string s] w fun e w' => e = .returned (.tuple #[.slice none 0 0, .bool false]) ∧ Below w.heap.size w w' := by
  refine (readPrefixes_any s w hs).mono ?_
  rintro e w' ⟨v, he, hb, _, hn⟩
  exact ⟨by rw [he, h, hn h]; rfl, hb⟩

theorem ak_yes (s : ByteArray) (l : List At) (sp : Bool) (w : World) (hs : s.size ≤ 1048576) (h : akOf s = some (l, sp)) :
    Calls Try.prog 55 #[.string s] w fun e w' => ∃ v l', e = .returned (.tuple #[v, .bool sp, .int .i64 0]) ∧ Below w.heap.size w w' ∧ l'.Perm l ∧ ByKind l' ∧ RowAt w' v l'.length 3 (atCells l') ∧ Kep s.size (fun _ => true) l ∧ l.length ≤ s.size := by
  refine (readAttributes_any s w hs).mono ?_
  rintro e w' ⟨hb, _, hy⟩
  obtain ⟨v, l', he, hp, ho, hown, hk, hl⟩ := hy l sp h
  exact ⟨v, l', he, hb, hp, ho, rowAt_of_owns hown, hk, hl⟩

theorem ak_no (s : ByteArray) (w : World) (hs : s.size ≤ 1048576) (h : akOf s = none) :
    Calls Try.prog 55 #[.string s] w fun e w' => e = .returned (.tuple #[.slice none 0 0, .bool false, .int .i64 3]) ∧ Below w.heap.size w w' := by
  refine (readAttributes_any s w hs).mono ?_
  rintro e w' ⟨hb, hn, _⟩
  exact ⟨hn h, hb⟩

/-- what the bytes of a text of canonical attributes come to. -/
theorem canTo_perm_sorted {l l' : List At} (hp : l'.Perm l) (ho : (l.map (·.kind)).Nodup) (hb : ByKind l') (hk : ∀ a ∈ l, a.kind < 256) : l'.flatMap atCan = canTo l 256 := by
  rw [← canTo_all l' hb (fun a ha => hk a (hp.mem_iff.1 ha)), canTo_perm hp ho]

theorem atCan_le (l : List At) (m : Nat) (h : ∀ a ∈ l, a.val.size ≤ m) : (l.flatMap atCan).length ≤ l.length * (m + 4) := by
  induction l with
  | nil => simp
  | cons a l ih =>
    rw [List.flatMap_cons, List.length_append, List.length_cons, Nat.succ_mul]
    have h1 := ih (fun b hb => h b (List.mem_cons_of_mem _ hb))
    have h2 := h a (List.mem_cons_self ..)
    have h3 : (atCan a).length = 2 + 2 + a.val.size := by unfold atCan; rw [atBytes_length]
    omega

end Go.Proofs.Ytjjakgmjoplhoaa
