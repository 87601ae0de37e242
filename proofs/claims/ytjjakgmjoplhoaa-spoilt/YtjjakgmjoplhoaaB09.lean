/-
  What the readers make of what the writers write: prefixes, attributes, messages, as plain functions of the bytes.
-/
import Derived.Test.YtjjakgmjoplhoaaB08
import Derived.Test.YtjjakgmjoplhoaaB01
import Derived.Test.YtjjakgmjoplhoaaB06
import Derived.Test.YtjjakgmjoplhoaaB03
import Derived.Deep.Cut
import Derived.Deep.CutRange
import Derived.Deep.DeepCutAuto
namespace Go.Proofs.Ytjjakgmjoplhoaa
open Go.RowKit
open Rl

/-- bytes as a text. -/
def txt (l : List UInt8) : ByteArray := ⟨l.toArray⟩

theorem txt_data (l : List UInt8) : (txt l).data.toList = l := by simp [txt]
theorem txt_len (l : List UInt8) : (txt l).size = l.length := by show l.toArray.size = _; simp
theorem txt_of (s : ByteArray) : txt s.data.toList = s := by unfold txt; cases s; simp
theorem txt_ext {s : ByteArray} {l : List UInt8} (h : s.data.toList = l) : s = txt l := by rw [← h, txt_of]

theorem txt_extract (l : List UInt8) (a b : Nat) : (txt l).extract a b = txt ((l.drop a).take (b - a)) := by
  apply txt_ext; rw [Lib.extract_data, txt_data]

theorem num_app (m : List UInt8) : ∀ l : List UInt8, num (l ++ m) = num l * 256 ^ m.length + num m := by
  induction m with
  | nil => intro l; simp [num]
  | cons c m ih =>
    intro l
    have e1 := ih (l ++ [c])
    have e2 := ih [c]
    have e3 : l ++ c :: m = (l ++ [c]) ++ m := by simp
    have e4 : c :: m = [c] ++ m := rfl
    have e5 : num [c] = (c.toNat : Int) := by simp [num]
    rw [e3, e1, num_snoc]
    conv => rhs; rw [e4, e2, e5]
    rw [Int.add_mul, List.length_append, List.length_singleton, Int.pow_add]
    have e : (256 : Int) * num l * 256 ^ m.length = num l * (256 ^ 1 * 256 ^ m.length) := by rw [Int.mul_comm 256 (num l), Int.mul_assoc]; rfl
    rw [e]
    omega

theorem pow_cast (k : Nat) : ((256 ^ k : Nat) : Int) = (256 : Int) ^ k := Int.natCast_pow 256 k

theorem num_be (k n : Nat) : num (be k n) = ((n % 256 ^ k : Nat) : Int) := by
  induction k with
  | zero => simp [be, num_nil, Nat.mod_one]
  | succ k ih =>
    have e : be (k + 1) n = [UInt8.ofNat (n / 256 ^ k % 256)] ++ be k n := rfl
    rw [e, num_app, be_length, ih]
    have h1 : num [UInt8.ofNat (n / 256 ^ k % 256)] = ((n / 256 ^ k % 256 : Nat) : Int) := by
      have := toNat_mod (n / 256 ^ k)
      simp only [num, List.foldl_cons, List.foldl_nil]
      omega
    rw [h1, Nat.pow_succ, Nat.mod_mul, Int.natCast_add, Int.natCast_mul, pow_cast, Int.mul_comm]
    omega

/-- the first k bytes of a number of m bytes. -/
theorem num_be_take (m k n : Nat) (_h : k ≤ m) : num ((be m n).take k) = ((n % 256 ^ m / 256 ^ (m - k) : Nat) : Int) := by
  have e : num (be m n) = num ((be m n).take k) * 256 ^ (m - k) + num ((be m n).drop k) := by
    have h1 := num_app ((be m n).drop k) ((be m n).take k)
    rw [List.take_append_drop, List.length_drop, be_length] at h1
    exact h1
  have hb := num_be m n
  have h0 := num_nonneg ((be m n).drop k)
  have h1 := num_nonneg ((be m n).take k)
  have h2 := num_lt (m - k) ((be m n).drop k) (by rw [List.length_drop, be_length]; omega)
  have hp : (256 : Int) ^ (m - k) = ((256 ^ (m - k) : Nat) : Int) := (pow_cast _).symm
  have hpp : 0 < 256 ^ (m - k) := Nat.pow_pos (by omega)
  rw [hp] at e h2
  obtain ⟨x, hx⟩ : ∃ x : Nat, num ((be m n).take k) = (x : Int) := ⟨_, (Int.toNat_of_nonneg h1).symm⟩
  obtain ⟨y, hy⟩ : ∃ y : Nat, num ((be m n).drop k) = (y : Int) := ⟨_, (Int.toNat_of_nonneg h0).symm⟩
  rw [hx, hy, hb] at e
  rw [hy] at h2
  rw [hx]
  have e2 : n % 256 ^ m = x * 256 ^ (m - k) + y := by
    apply Int.ofNat.inj
    show ((n % 256 ^ m : Nat) : Int) = ((x * 256 ^ (m - k) + y : Nat) : Int)
    rw [Int.natCast_add, Int.natCast_mul]; exact e
  have h2' : y < 256 ^ (m - k) := Int.ofNat_lt.1 h2
  rw [e2, Nat.add_comm, Nat.add_mul_div_right _ _ hpp, Nat.div_eq_of_lt h2', Nat.zero_add]

/-! what begins a text of three parts. -/

theorem n2_txt (n : Nat) (r : List UInt8) (h : n < 65536) : n2 (txt (be 2 n ++ r)) = n := by
  have hc := n2_cast (txt (be 2 n ++ r))
  rw [txt_extract, txt_data, List.drop_zero, List.take_append_of_le_length (by rw [be_length]; omega), List.take_of_length_le (by rw [be_length]; omega), num_be] at hc
  have e : (256 : Nat) ^ 2 = 65536 := by decide
  rw [e, Nat.mod_eq_of_lt h] at hc
  omega

theorem cutHead_txt (p r : List UInt8) (h : p.length < 65536) : cutHead (txt (be 2 p.length ++ (p ++ r))) = txt p := by
  unfold cutHead
  rw [n2_txt _ _ h, txt_extract]
  congr 1
  rw [List.drop_append_of_le_length (by rw [be_length]; omega), List.drop_of_length_le (by rw [be_length]; omega), List.nil_append, List.take_append_of_le_length (by omega), List.take_of_length_le (by omega)]

theorem cutTail_txt (p r : List UInt8) (h : p.length < 65536) : cutTail (txt (be 2 p.length ++ (p ++ r))) = txt r := by
  unfold cutTail
  rw [n2_txt _ _ h, txt_extract, txt_len]
  congr 1
  rw [← List.append_assoc, List.drop_left' (by rw [List.length_append, be_length])]
  rw [List.take_of_length_le]
  simp [be_length]; omega

theorem cutOk_txt (p r : List UInt8) (h : p.length < 65536) : cutOk (txt (be 2 p.length ++ (p ++ r))) = true := by
  unfold cutOk
  rw [n2_txt _ _ h, txt_len, decide_eq_true_iff]
  simp [be_length]

/-- the content of an update. -/
def updC (W A C : List UInt8) : List UInt8 := be 2 W.length ++ (W ++ (be 2 A.length ++ (A ++ C)))

theorem updC_parts (W A C : List UInt8) (hW : W.length < 65536) (hA : A.length < 65536) : partsOk (txt (updC W A C)) = true ∧ cutHead (txt (updC W A C)) = txt W ∧ cutHead (cutTail (txt (updC W A C))) = txt A ∧ cutTail (cutTail (txt (updC W A C))) = txt C := by
  unfold updC partsOk
  rw [cutOk_txt _ _ hW, cutTail_txt _ _ hW, cutOk_txt _ _ hA, cutHead_txt _ _ hW, cutHead_txt _ _ hA, cutTail_txt _ _ hA]
  exact ⟨rfl, rfl, rfl, rfl⟩

/-! a message. -/

theorem msg_frame (c : List UInt8) (k : Nat) (hk : k < 256) (h : 19 + c.length ≤ 200) : frE (msgOf k c) = 0 ∧ frN (msgOf k c) = ((19 + c.length : Nat) : Int) ∧ frK (msgOf k c) = (k : Int) := by
  have hm : marked (msgOf k c) = true := by
    unfold marked msgOf mark16
    rw [List.take_append_of_le_length (by simp), List.take_of_length_le (by simp), List.all_eq_true]
    intro x hx; rw [List.mem_replicate] at hx; rw [hx.2]; rfl
  have hl := msgOf_length k c
  have ht : told2 (msgOf k c) = ((19 + c.length : Nat) : Int) := by
    unfold told2 msgOf mark16
    rw [List.drop_left' (by simp), List.take_append_of_le_length (by rw [be_length]; omega), List.take_of_length_le (by rw [be_length]; omega), num_be]
    have e : (256 : Nat) ^ 2 = 65536 := by decide
    rw [e, Nat.mod_eq_of_lt (by omega)]
  have hg : ((msgOf k c).getD 18 0).toNat = k := by
    have e : msgOf k c = (mark16 ++ be 2 (19 + c.length)) ++ (UInt8.ofNat (k / 256 ^ 0 % 256) :: ([] ++ c)) := by
      unfold msgOf; rw [List.append_assoc]; rfl
    rw [e, List.getD_eq_getElem?_getD, List.getElem?_append_right (by simp [mark16, be_length])]
    simp [mark16, be_length, UInt8.toNat_ofNat']
    omega
  obtain ⟨h1, h2, h3⟩ := fr_whole (msgOf k c) hm (by omega) (by rw [ht]; omega) (by rw [ht]; omega)
  refine ⟨h3, by rw [h1, ht], by rw [h2, hg]⟩

theorem msg_content (c : List UInt8) (k : Nat) : (txt (msgOf k c)).extract 19 (txt (msgOf k c)).size = txt c := by
  rw [txt_extract, txt_len, msgOf_length]
  congr 1
  have e : msgOf k c = (mark16 ++ (be 2 (19 + c.length) ++ be 1 k)) ++ c := by unfold msgOf; simp only [List.append_assoc]
  rw [e, List.drop_left' (by simp [mark16, be_length]), List.take_of_length_le (by omega)]

/-! prefixes. -/

theorem pfx_rdN (p : Nat × Nat) (r : List UInt8) (h : p.2 < 256) : rdN (txt (pfxBytes p ++ r)) = p.2 := by
  unfold rdN at8 pfxBytes
  rw [txt_data]
  simp [UInt8.toNat_ofNat']
  omega

theorem pfx_body (p : Nat × Nat) (r : List UInt8) : (pfxBytes p ++ r).drop 1 = (be 4 p.1).take (many p.2) ++ r := rfl

theorem pfx_rdNum (p : Nat × Nat) (r : List UInt8) (h : p.2 ≤ 32) (ha : p.1 ≤ 4294967295) : rdNum (txt (pfxBytes p ++ r)) = p.1 / 256 ^ (4 - many p.2) := by
  have hm := many_le p.2 h
  have hc := rdNum_cast (txt (pfxBytes p ++ r))
  rw [pfx_rdN p r (by omega), txt_extract, txt_data, pfx_body p r] at hc
  rw [List.take_append_of_le_length (by rw [List.length_take, be_length]; omega), List.take_of_length_le (by rw [List.length_take, be_length]; omega), num_be_take 4 _ _ hm] at hc
  have e : (256 : Nat) ^ 4 = 4294967296 := by decide
  rw [e, Nat.mod_eq_of_lt (by omega)] at hc
  omega

theorem pfx_bad (p : Nat × Nat) (r : List UInt8) (h : p.2 ≤ 32) : ¬ rdBad (txt (pfxBytes p ++ r)) := by
  unfold rdBad
  rw [pfx_rdN p r (by omega), txt_len, List.length_append, pfxBytes_length p h]
  omega

theorem pfx_tail (p : Nat × Nat) (r : List UInt8) (h : p.2 ≤ 32) : rdTail (txt (pfxBytes p ++ r)) = txt r := by
  unfold rdTail
  rw [pfx_rdN p r (by omega), txt_extract, txt_len, List.length_append, pfxBytes_length p h]
  congr 1
  rw [List.drop_left' (pfxBytes_length p h), List.take_of_length_le (by omega)]

theorem gap_nat (n : Nat) (h : n ≤ 32) : gap (n : Int) = ((2 ^ (32 - n) : Nat) : Int) := by
  unfold gap
  have e : (32 - (n : Int)).toNat = 32 - n := by omega
  rw [e]; push_cast; rfl

theorem many_gap (n : Nat) (h : n ≤ 32) : ∃ j, 2 ^ (32 - n) = 256 ^ (4 - many n) * 2 ^ j := by
  refine ⟨(32 - n) - 8 * (4 - many n), ?_⟩
  have e : (256 : Nat) ^ (4 - many n) = 2 ^ (8 * (4 - many n)) := by rw [Nat.pow_mul]
  rw [e, ← Nat.pow_add]
  congr 1
  unfold many
  omega

theorem pfx_head (p : Nat × Nat) (r : List UInt8) (hp : pfxOk p.1 p.2 = true) : rdHead (txt (pfxBytes p ++ r)) = ((p.1 : Int), (p.2 : Int)) := by
  obtain ⟨a, n⟩ := p
  have hb := pfxOk_bounds _ _ hp
  simp only at hb hp ⊢
  have hn : n ≤ 32 := by omega
  have ha : a ≤ 4294967295 := by omega
  have hg : (a : Int) % gap n = 0 := (of_decide_eq_true hp).2.2.2.2
  unfold rdHead rdA
  rw [pfx_rdN (a, n) r (by simp only; omega), pfx_rdNum (a, n) r hn ha]
  simp only
  obtain ⟨j, hj⟩ := many_gap n hn
  rw [gap_nat n hn] at hg ⊢
  have hdv : 2 ^ (32 - n) ∣ a := by
    have : (((a % 2 ^ (32 - n) : Nat)) : Int) = 0 := by push_cast at hg ⊢; exact hg
    exact Nat.dvd_of_mod_eq_zero (Int.ofNat.inj this)
  have hd2 : 256 ^ (4 - many n) ∣ a := Nat.dvd_trans ⟨2 ^ j, hj⟩ hdv
  rw [Nat.div_mul_cancel hd2, hg]
  simp

theorem rdAll_wire (l : List (Nat × Nat)) (h : ∀ p ∈ l, pfxOk p.1 p.2 = true) : rdAll (txt (pfWire l)) = some (pfInts l) := by
  induction l with
  | nil => exact rdAll_end _ (by rw [txt_len]; rfl)
  | cons p l ih =>
    have hp := h p List.mem_cons_self
    have hb := pfxOk_bounds _ _ hp
    have hn : p.2 ≤ 32 := by omega
    have e : pfWire (p :: l) = pfxBytes p ++ pfWire l := by simp [pfWire]
    rw [e, rdAll_step _ (by rw [txt_len, List.length_append, pfxBytes_length p hn]; omega) (pfx_bad p _ hn), pfx_tail p _ hn, pfx_head p _ hp, ih fun q hq => h q (List.mem_cons_of_mem _ hq)]
    rfl

/-! attributes. -/

theorem lt_two {n : Nat} (h : n < 65536) : n < 256 ^ 2 := by
  have e : (256 : Nat) ^ 2 = 65536 := by decide
  omega


theorem at8_app0 (a : UInt8) (r : List UInt8) : at8 (a :: r) 0 = a.toNat := rfl

theorem ofNat_lt (n : Nat) (h : n < 256) : (UInt8.ofNat (n / 256 ^ 0 % 256)).toNat = n := by
  rw [UInt8.toNat_ofNat']; simp; omega

theorem at_cons (f k z : Nat) (v : ByteArray) (r : List UInt8) : atBytes f k z v ++ r = UInt8.ofNat (f / 256 ^ 0 % 256) :: UInt8.ofNat (k / 256 ^ 0 % 256) :: (be z v.size ++ (v.data.toList ++ r)) := by
  unfold atBytes
  simp only [List.append_assoc]
  rfl

theorem at_flags (f k z : Nat) (v : ByteArray) (r : List UInt8) (hf : f < 256) : at8 (txt (atBytes f k z v ++ r)).data.toList 0 = f := by
  rw [txt_data, at_cons, at8_app0, ofNat_lt f hf]

theorem at_kind (f k z : Nat) (v : ByteArray) (r : List UInt8) (hk : k < 256) : at8 (txt (atBytes f k z v ++ r)).data.toList 1 = k := by
  rw [txt_data, at_cons]
  show (UInt8.ofNat (k / 256 ^ 0 % 256)).toNat = k
  exact ofNat_lt k hk

theorem at_len (f k z : Nat) (v : ByteArray) (r : List UInt8) (hv : v.size < 256 ^ z) : lenZ z (txt (atBytes f k z v ++ r)) = v.size := by
  have hc := lenZ_cast z (txt (atBytes f k z v ++ r))
  generalize lenZ z (txt (atBytes f k z v ++ r)) = y at *
  rw [txt_extract, txt_data, at_cons] at hc
  have e : ∀ (a b : UInt8) (l : List UInt8), (a :: b :: l).drop 2 = l := fun _ _ _ => rfl
  rw [e, show 2 + z - 2 = z from by omega, List.take_append_of_le_length (by rw [be_length]; omega), List.take_of_length_le (by rw [be_length]; omega), num_be, Nat.mod_eq_of_lt hv] at hc
  exact Int.ofNat.inj hc

theorem at_head (f k z : Nat) (v : ByteArray) (r : List UInt8) (hf : f < 256) (hk : k < 256) (hv : v.size < 256 ^ z) : wholeZ z (txt (atBytes f k z v ++ r)) = true ∧ headZ z (txt (atBytes f k z v ++ r)) = ⟨f, k, v⟩ ∧ restZ z (txt (atBytes f k z v ++ r)) = txt r := by
  have hl := at_len f k z v r hv
  refine ⟨?_, ?_, ?_⟩
  · unfold wholeZ
    rw [hl, txt_len, List.length_append, atBytes_length, decide_eq_true_iff]
    omega
  · unfold headZ
    rw [hl, at_flags f k z v r hf, at_kind f k z v r hk, txt_extract]
    congr 1
    symm
    apply txt_ext
    have e : atBytes f k z v ++ r = (be 1 f ++ (be 1 k ++ be z v.size)) ++ (v.data.toList ++ r) := by unfold atBytes; simp only [List.append_assoc]
    rw [e, List.drop_left' (by simp [be_length]; omega), List.take_append_of_le_length (by rw [len_data]; omega), List.take_of_length_le (by rw [len_data]; omega)]
  · unfold restZ
    rw [hl, txt_extract, txt_len, List.length_append, atBytes_length]
    congr 1
    rw [List.drop_left' (by rw [atBytes_length]), List.take_of_length_le (by omega)]

/-- an attribute's bytes in an update. -/
theorem ak_head (f k z : Nat) (v : ByteArray) (r : List UInt8) (hf : f < 256) (hz : z = if f / 16 % 2 = 1 then 2 else 1) (hk : k < 256) (hv : v.size < 256 ^ z) : akW (txt (atBytes f k z v ++ r)) = true ∧ akH (txt (atBytes f k z v ++ r)) = ⟨f, k, v⟩ ∧ akR (txt (atBytes f k z v ++ r)) = txt r := by
  have e : zOf (txt (atBytes f k z v ++ r)) = z := by unfold zOf; rw [at_flags f k z v r hf, hz]
  unfold akW akH akR
  rw [e]
  exact at_head f k z v r hf hk hv

/-- what an attribute of a canonical text does in an update. -/
theorem did_canon (f k : Nat) (v : ByteArray) (h : atOk f k v = true) : didOf f k v = .keep f ∧ didOf (f + 16) k v = .keep f := by
  have hf := atOk_flags f k v h
  unfold atOk at h
  unfold didOf
  cases hk : knownB k with
  | true =>
    rw [if_pos hk, Bool.and_eq_true] at h
    have h1 := of_decide_eq_true h.1
    have e1 : ((f / 64 * 64 : Nat) : Int) = flagsI k := by rcases flagsI_known k hk with e | e | e <;> rw [e] at h1 ⊢ <;> omega
    have e2 : (((f + 16) / 64 * 64 : Nat) : Int) = flagsI k := by rcases flagsI_known k hk with e | e | e <;> rw [e] at h1 ⊢ <;> omega
    have e3 : (flagsI k).toNat = f := by omega
    rw [if_pos rfl, if_pos rfl, if_pos ⟨e1, h.2⟩, if_pos ⟨e2, h.2⟩, e3]
    exact ⟨rfl, rfl⟩
  | false =>
    rw [if_neg (by simp [hk])] at h
    have h1 := of_decide_eq_true h
    rcases h1 with h1 | h1
    · have : f = 192 := by omega
      subst this; exact ⟨rfl, rfl⟩
    · have : f = 224 := by omega
      subst this; exact ⟨rfl, rfl⟩

/-- an attribute's bytes at the beginning of what is read. -/
theorem akAll_one (f k z : Nat) (v : ByteArray) (r : List UInt8) (sn : Nat → Bool) (l : List At) (sp : Bool) (hf : f < 256) (hz : z = if f / 16 % 2 = 1 then 2 else 1) (hk : k < 256) (hv : v.size < 256 ^ z) (hs : sn k = false) :
    akAll (txt (atBytes f k z v ++ r)) sn l sp = match didOf f k v with
      | .keep g => akAll (txt r) (met sn k) (l ++ [⟨g, k, v⟩]) sp
      | .pass => akAll (txt r) (met sn k) l sp
      | .spoil => akAll (txt r) (met sn k) l true
      | .ends => none := by
  obtain ⟨h1, h2, h3⟩ := ak_head f k z v r hf hz hk hv
  have h0 : ¬ (txt (atBytes f k z v ++ r)).size = 0 := by rw [txt_len, List.length_append, atBytes_length]; omega
  have hk2 : (akH (txt (atBytes f k z v ++ r))).kind = k := by rw [h2]
  cases hd : didOf f k v with
  | keep g => rw [akAll_keep h0 h1 (by rw [hk2]; exact hs) g (by rw [h2]; exact hd), h2, h3]
  | pass => rw [akAll_pass h0 h1 (by rw [hk2]; exact hs) (by rw [h2]; exact hd), h2, h3]
  | spoil => rw [akAll_spoil h0 h1 (by rw [hk2]; exact hs) (by rw [h2]; exact hd), h2, h3]
  | ends => rw [akAll_ends h0 h1 (by rw [hk2]; exact hs) (by rw [h2]; exact hd)]

/-- a list of attributes of a canonical text. -/
def CanList (l : List At) : Prop := (∀ a ∈ l, atOk a.flags a.kind a.val = true ∧ a.kind < 256 ∧ a.val.size < 65536) ∧ l.Pairwise fun a b => a.kind < b.kind

theorem CanList.tail {a : At} {l : List At} (h : CanList (a :: l)) : CanList l := ⟨fun b hb => h.1 b (List.mem_cons_of_mem _ hb), (List.pairwise_cons.1 h.2).2⟩

theorem akAll_wire (l : List At) (r : List UInt8) : ∀ (sn : Nat → Bool) (x : List At) (sp : Bool), CanList l → (∀ a ∈ l, sn a.kind = false) → ∃ sn', akAll (txt (l.flatMap atWire ++ r)) sn x sp = akAll (txt r) sn' (x ++ l) sp ∧ ∀ k, (∀ a ∈ l, a.kind < k) → sn' k = sn k := by
  induction l with
  | nil => intro sn x sp _ _; exact ⟨sn, by simp, fun _ _ => rfl⟩
  | cons a l ih =>
    intro sn x sp hc hs
    obtain ⟨ho, hk, hv⟩ := hc.1 a List.mem_cons_self
    have hf := atOk_flags _ _ _ ho
    have hd := did_canon _ _ _ ho
    have hlt := (List.pairwise_cons.1 hc.2).1
    obtain ⟨sn', h1, h2⟩ := ih (met sn a.kind) (x ++ [a]) sp hc.tail (fun b hb => by
      rw [met_other _ _ _ (by have := hlt b hb; omega)]; exact hs b (List.mem_cons_of_mem _ hb))
    refine ⟨sn', ?_, ?_⟩
    · have e : (a :: l).flatMap atWire ++ r = atWire a ++ (l.flatMap atWire ++ r) := by simp
      rw [e]
      by_cases hz : a.val.size ≤ 255
      · rw [show atWire a = atBytes a.flags a.kind 1 a.val from if_pos hz, akAll_one _ _ 1 _ _ _ _ _ (by omega) (by rw [if_neg (by omega)]) hk (by omega) (hs a List.mem_cons_self), hd.1]
        simp only
        rw [show (⟨a.flags, a.kind, a.val⟩ : At) = a from rfl, h1, List.append_assoc]
        rfl
      · rw [show atWire a = atBytes (a.flags + 16) a.kind 2 a.val from if_neg hz, akAll_one _ _ 2 _ _ _ _ _ (by omega) (by rw [if_pos (by omega)]) hk (lt_two hv) (hs a List.mem_cons_self), hd.2]
        simp only
        rw [show (⟨a.flags, a.kind, a.val⟩ : At) = a from rfl, h1, List.append_assoc]
        rfl
    · intro k hk2
      rw [h2 k fun b hb => hk2 b (List.mem_cons_of_mem _ hb)]
      exact met_other _ _ _ (by have := hk2 a List.mem_cons_self; omega)

theorem akOf_wire (l : List At) (h : CanList l) : akOf (txt (l.flatMap atWire)) = some (l, false) := by
  obtain ⟨sn', h1, _⟩ := akAll_wire l [] (fun _ => false) [] false h (fun _ _ => rfl)
  unfold akOf
  rw [List.append_nil] at h1
  rw [h1, akAll_end (by rw [txt_len]; rfl)]
  rfl

/-! canonical texts. -/

/-- an attribute in a canonical text, its value's length in two bytes. -/
def atTwo (a : At) : List UInt8 := atBytes a.flags a.kind 2 a.val

theorem canR_text (l : List At) : ∀ (last : Int), CanList l → (∀ a ∈ l, last < (a.kind : Int)) → canR (txt (l.flatMap atTwo)) last = some l := by
  induction l with
  | nil => intro last _ _; exact canR_nil _ _ (by rw [txt_len]; rfl)
  | cons a l ih =>
    intro last hc hl
    obtain ⟨ho, hk, hv⟩ := hc.1 a List.mem_cons_self
    have hf := atOk_flags _ _ _ ho
    have e : (a :: l).flatMap atTwo = atBytes a.flags a.kind 2 a.val ++ l.flatMap atTwo := by simp [atTwo]
    obtain ⟨h1, h2, h3⟩ := at_head a.flags a.kind 2 a.val (l.flatMap atTwo) (by omega) hk (lt_two hv)
    have h2' : headC (txt (atBytes a.flags a.kind 2 a.val ++ l.flatMap atTwo)) = a := h2
    have h3' : restC (txt (atBytes a.flags a.kind 2 a.val ++ l.flatMap atTwo)) = txt (l.flatMap atTwo) := h3
    have hcan : canOk (txt (atBytes a.flags a.kind 2 a.val ++ l.flatMap atTwo)) last = true := by
      unfold canOk
      rw [h1, h2', ho, Bool.and_eq_true, Bool.and_eq_true]
      exact ⟨⟨rfl, decide_eq_true (hl a List.mem_cons_self)⟩, rfl⟩
    rw [e, canR_step _ _ hcan, h2', h3', ih _ hc.tail fun b hb => by have := (List.pairwise_cons.1 hc.2).1 b hb; omega]
    rfl

theorem can_text (l : List At) (h : CanList l) (hn : needN l = 3) : canB (txt (l.flatMap atTwo)) = true ∧ canL (txt (l.flatMap atTwo)) = l ∧ annA (txt (l.flatMap atTwo)) = l.flatMap atWire := by
  have hr := canR_text l (-1) h (fun a _ => by omega)
  refine ⟨by rw [canB_some hr, hn]; rfl, canL_some hr, ?_⟩
  unfold annA; rw [canL_some hr]

end Go.Proofs.Ytjjakgmjoplhoaa
/-
  routelogkeep's attributes, walked: right ones out of a raw number.
-/
namespace Go.Proofs.Ytjjakgmjoplhoaa
open Go.RowKit
open Rl

abbrev CallsStr (n : Nat) (args : Array Value) (T : ByteArray) : Prop := ∀ w, Calls Try.prog n args w fun e w' => e = .returned (.string T) ∧ Below w.heap.size w w'
abbrev CallsInt (n : Nat) (args : Array Value) (x : Int) : Prop := ∀ w, Calls Try.prog n args w fun e w' => e = .returned (.int .i64 x) ∧ w' = w

theorem ka_ne {z : Int} (h : (z == 0) = false) : ¬ z = 0 := fun e => by rw [e] at h; simp at h

set_option maxRecDepth 20000 in
set_option maxHeartbeats 8000000 in
theorem keepAttrs_raw (v : Int) (c : Bool) (x3 x5 x7 x11 x2 x13 x17 z3 z7 z11 z13 q1 q2 q3 q4 q8 f k F K m : Int) (T1 T2 T3 T4 T8 TX P A1 A2 A3 A4 A8 AX R0 R1 R2 R3 : ByteArray) (w : World)
    (e3 : wrap64 (v.tdiv 3) = x3) (e5 : wrap64 (v.tdiv 5) = x5) (e7 : wrap64 (v.tdiv 7) = x7) (e11 : wrap64 (v.tdiv 11) = x11) (e2 : wrap64 (v.tdiv 2) = x2) (e13 : wrap64 (v.tdiv 13) = x13) (e17 : wrap64 (v.tdiv 17) = x17)
    (p1 : CallsInt 23 #[.int .i64 v, .int .i64 3] q1) (b1 : CallsStr 26 #[.int .i64 q1, .int .i64 1] T1) (a1 : CallsStr 24 #[.int .i64 64, .int .i64 1, .string T1, .bool c] A1)
    (p3 : CallsInt 23 #[.int .i64 x3, .int .i64 3] z3) (p2 : CallsInt 23 #[.int .i64 x3, .int .i64 1000] q2) (b2 : CallsStr 26 #[.int .i64 q2, .int .i64 4] T2) (hP : Hid (P = if 0 < z3 then (⟨#[2, 1]⟩ : ByteArray) ++ T2 else ⟨#[]⟩)) (a2 : CallsStr 24 #[.int .i64 64, .int .i64 2, .string P, .bool c] A2)
    (p5 : CallsInt 23 #[.int .i64 x5, .int .i64 100000] q3) (b3 : CallsStr 26 #[.int .i64 q3, .int .i64 4] T3) (a3 : CallsStr 24 #[.int .i64 64, .int .i64 3, .string T3, .bool c] A3)
    (p7 : CallsInt 23 #[.int .i64 x7, .int .i64 3] z7) (p4 : CallsInt 23 #[.int .i64 v, .int .i64 70000] q4) (b4 : CallsStr 26 #[.int .i64 q4, .int .i64 4] T4) (a4 : CallsStr 24 #[.int .i64 128, .int .i64 4, .string T4, .bool c] A4)
    (p11 : CallsInt 23 #[.int .i64 x11, .int .i64 3] z11) (p8 : CallsInt 23 #[.int .i64 x2, .int .i64 70000] q8) (b8 : CallsStr 26 #[.int .i64 q8, .int .i64 4] T8) (a8 : CallsStr 24 #[.int .i64 192, .int .i64 8, .string (T8 ++ ⟨#[0, 1, 0, 2]⟩), .bool c] A8)
    (p13 : CallsInt 23 #[.int .i64 x13, .int .i64 3] z13) (pf : CallsInt 23 #[.int .i64 v, .int .i64 2] f) (pk : CallsInt 23 #[.int .i64 x17, .int .i64 200] k) (pm : CallsInt 23 #[.int .i64 v, .int .i64 5] m) (bx : CallsStr 26 #[.int .i64 v, .int .i64 m] TX) (w1 : wrap64 (32 * f) = 32 * f) (w2 : wrap64 (192 + 32 * f) = F) (w3 : wrap64 (9 + k) = K) (ax : CallsStr 24 #[.int .i64 F, .int .i64 K, .string TX, .bool c] AX)
    (h0 : Hid (R0 = A1 ++ A2 ++ A3)) (h1 : Hid (R1 = if z7 = 0 then R0 ++ A4 else R0)) (h2 : Hid (R2 = if z11 = 0 then R1 ++ A8 else R1)) (h3 : Hid (R3 = if z13 = 0 then R2 ++ AX else R2))
    (s2 : T2.size ≤ 8) (s8 : T8.size ≤ 8) (s1 : A1.size ≤ 30) (s3 : A2.size ≤ 30) (s4 : A3.size ≤ 30) (s5 : A4.size ≤ 30) (s6 : A8.size ≤ 30) (s7 : AX.size ≤ 30) (r0 : R0.size ≤ 100) (r1 : R1.size ≤ 200) (r2 : R2.size ≤ 300) :
    Calls Try.prog 19 #[.int .i64 v, .bool c] w fun e w' => e = .returned (.string R3) ∧ Below w.heap.size w w' := by
  have B := Below.refl w.heap.size w
  go_enter Try.func19, Try.ntmps19
  go_upto_if 15 with (first
    | (go_at_call_of 23 x3; refine (p3 _).mono ?_; rintro e w' ⟨rfl, hw⟩; rw [hw]; clear hw w')
    | (go_at_call_of 23 v; refine (p1 _).mono ?_; rintro e w' ⟨rfl, hw⟩; rw [hw]; clear hw w')
    | (go_at_call 26; refine (b1 _).mono ?_; rintro e w' ⟨rfl, hb⟩; replace B := below_held B hb; clear hb)
    | (go_at_call 24; refine (a1 _).mono ?_; rintro e w' ⟨rfl, hb⟩; replace B := below_held B hb; clear hb))
  go_cut [5, 6] (fun s5 s6 wx => s5 = .string A1 ∧ s6 = .string P ∧ Below w.heap.size w wx)
  case first =>
    go_wp2_with (first
      | (go_at_call 23; refine (p2 _).mono ?_; rintro e w' ⟨rfl, hw⟩; rw [hw]; clear hw w')
      | (go_at_call 26; refine (b2 _).mono ?_; rintro e w' ⟨rfl, hb⟩; replace B := below_held B hb; clear hb))
    · go_meet
      case rel => exact ⟨rfl, by rw [hP.out, if_pos (by omega)], B⟩
    · go_meet
      case rel => exact ⟨rfl, by rw [hP.out, if_neg (by omega)], B⟩
  case rest =>
    clear B
    obtain ⟨rfl, rfl, B⟩ := hcut
    go_upto_if 36 with (first
      | (go_at_call_of 23 x5; refine (p5 _).mono ?_; rintro e w' ⟨rfl, hw⟩; rw [hw]; clear hw w')
      | (go_at_call_of 23 x7; refine (p7 _).mono ?_; rintro e w' ⟨rfl, hw⟩; rw [hw]; clear hw w')
      | (go_at_call 26; refine (b3 _).mono ?_; rintro e w' ⟨rfl, hb⟩; replace B := below_held B hb; clear hb)
      | (go_at_call_of 24 P; refine (a2 _).mono ?_; rintro e w' ⟨rfl, hb⟩; replace B := below_held B hb; clear hb)
      | (go_at_call_of 24 T3; refine (a3 _).mono ?_; rintro e w' ⟨rfl, hb⟩; replace B := below_held B hb; clear hb))
    go_cut [5] (fun s5 wx => s5 = .string R1 ∧ Below w.heap.size w wx)
    case first =>
      rw [← h0.out]
      go_wp2_with (first
        | (go_at_call 23; refine (p4 _).mono ?_; rintro e w' ⟨rfl, hw⟩; rw [hw]; clear hw w')
        | (go_at_call 26; refine (b4 _).mono ?_; rintro e w' ⟨rfl, hb⟩; replace B := below_held B hb; clear hb)
        | (go_at_call 24; refine (a4 _).mono ?_; rintro e w' ⟨rfl, hb⟩; replace B := below_held B hb; clear hb))
      · go_meet
        case rel => exact ⟨by rw [h1.out, if_pos (eq_of_beq ‹(z7 == 0) = true›)], B⟩
      · go_meet
        case rel => exact ⟨by rw [h1.out, if_neg (ka_ne (by assumption))], B⟩
    case rest =>
      clear B
      obtain ⟨rfl, B⟩ := hcut
      go_upto_if 47 with (first
        | (go_at_call_of 23 x11; refine (p11 _).mono ?_; rintro e w' ⟨rfl, hw⟩; rw [hw]; clear hw w'))
      go_cut [5] (fun s5 wx => s5 = .string R2 ∧ Below w.heap.size w wx)
      case first =>
        go_wp2_with (first
          | (go_at_call 23; refine (p8 _).mono ?_; rintro e w' ⟨rfl, hw⟩; rw [hw]; clear hw w')
          | (go_at_call 26; refine (b8 _).mono ?_; rintro e w' ⟨rfl, hb⟩; replace B := below_held B hb; clear hb)
          | (go_at_call 24; refine (a8 _).mono ?_; rintro e w' ⟨rfl, hb⟩; replace B := below_held B hb; clear hb))
        · go_meet
          case rel => exact ⟨by rw [h2.out, if_pos (eq_of_beq ‹(z11 == 0) = true›)], B⟩
        · go_meet
          case rel => exact ⟨by rw [h2.out, if_neg (ka_ne (by assumption))], B⟩
      case rest =>
        clear B
        obtain ⟨rfl, B⟩ := hcut
        go_upto_if 60 with (first
          | (go_at_call_of 23 x13; refine (p13 _).mono ?_; rintro e w' ⟨rfl, hw⟩; rw [hw]; clear hw w'))
        go_cut [5] (fun s5 wx => s5 = .string R3 ∧ Below w.heap.size w wx)
        case first =>
          go_wp2_with (first
            | (go_at_call_of 23 x17; refine (pk _).mono ?_; rintro e w' ⟨rfl, hw⟩; rw [hw]; clear hw w')
            | (go_at_call_of 23 (2 : Int); refine (pf _).mono ?_; rintro e w' ⟨rfl, hw⟩; rw [hw]; clear hw w')
            | (go_at_call_of 23 (5 : Int); refine (pm _).mono ?_; rintro e w' ⟨rfl, hw⟩; rw [hw]; clear hw w')
            | (go_at_call 26; refine (bx _).mono ?_; rintro e w' ⟨rfl, hb⟩; replace B := below_held B hb; clear hb)
            | (go_at_call 24; refine (ax _).mono ?_; rintro e w' ⟨rfl, hb⟩; replace B := below_held B hb; clear hb))
          · go_meet
            case rel => exact ⟨by rw [h3.out, if_pos (eq_of_beq ‹(z13 == 0) = true›)], B⟩
          · go_meet
            case rel => exact ⟨by rw [h3.out, if_neg (ka_ne (by assumption))], B⟩
        case rest =>
          clear B
          obtain ⟨rfl, B⟩ := hcut
          go_wp2
          go_ret
          exact ⟨rfl, B⟩

/-- the values, and the last one's flags and type. -/
def k1 (v : Int) : ByteArray := txt (be 1 (pickI v 3).toNat)
def k2 (v : Int) : ByteArray := if 0 < pickI (v.tdiv 3) 3 then (⟨#[2, 1]⟩ : ByteArray) ++ txt (be 4 (pickI (v.tdiv 3) 1000).toNat) else ⟨#[]⟩
def k3 (v : Int) : ByteArray := txt (be 4 (pickI (v.tdiv 5) 100000).toNat)
def k4 (v : Int) : ByteArray := txt (be 4 (pickI v 70000).toNat)
def k8 (v : Int) : ByteArray := txt (be 4 (pickI (v.tdiv 2) 70000).toNat) ++ ⟨#[0, 1, 0, 2]⟩
def kx (v : Int) : ByteArray := txt (tailI (pickI v 5).toNat v)
def kF (v : Int) : Nat := 192 + 32 * (pickI v 2).toNat
def kK (v : Int) : Nat := 9 + (pickI (v.tdiv 17) 200).toNat

/-- the attributes. -/
def kaL (v : Int) : List At :=
  [⟨64, 1, k1 v⟩, ⟨64, 2, k2 v⟩, ⟨64, 3, k3 v⟩] ++ (if pickI (v.tdiv 7) 3 = 0 then [⟨128, 4, k4 v⟩] else []) ++ (if pickI (v.tdiv 11) 3 = 0 then [⟨192, 8, k8 v⟩] else []) ++ (if pickI (v.tdiv 13) 3 = 0 then [⟨kF v, kK v, kx v⟩] else [])

/-- one, and all of them, in bytes. -/
def kaB (c : Bool) (a : At) : List UInt8 := atBytes a.flags a.kind (if c = true then 2 else 1) a.val
def kaW (c : Bool) (l : List At) : List UInt8 := l.flatMap (kaB c)

theorem kaW_app (c : Bool) (l m : List At) : kaW c (l ++ m) = kaW c l ++ kaW c m := by simp [kaW]
theorem kaW_one (c : Bool) (a : At) : kaW c [a] = kaB c a := by simp [kaW]
theorem txt_app (a b : List UInt8) : txt a ++ txt b = txt (a ++ b) := by
  apply bytes_ext; rw [append_data, txt_data, txt_data, txt_data]

theorem k1_size (v : Int) : (k1 v).size = 1 := by unfold k1; rw [txt_len, be_length]
theorem k2_size (v : Int) : (k2 v).size ≤ 6 := by
  unfold k2; split
  · rw [ByteArray.size_append, txt_len, be_length]; decide
  · decide
theorem k3_size (v : Int) : (k3 v).size = 4 := by unfold k3; rw [txt_len, be_length]
theorem k4_size (v : Int) : (k4 v).size = 4 := by unfold k4; rw [txt_len, be_length]
theorem k8_size (v : Int) : (k8 v).size = 8 := by unfold k8; rw [ByteArray.size_append, txt_len, be_length]; rfl
theorem kx_size (v : Int) : (kx v).size ≤ 4 := by
  have := pickI_bounds v 5 (by omega)
  unfold kx; rw [txt_len, tailI_length]; omega

theorem kaB_len (c : Bool) (a : At) : (txt (kaB c a)).size ≤ 4 + a.val.size := by
  unfold kaB; rw [txt_len, atBytes_length]; split <;> omega

theorem keepAttributes_any (v : Int) (c : Bool) (w : World) (hv : inI64 v) :
    Calls Try.prog 19 #[.int .i64 v, .bool c] w fun e w' => e = .returned (.string (txt (kaW c (kaL v)))) ∧ Below w.heap.size w w' := by
  have nat : ∀ x n : Int, 0 < n → ((pickI x n).toNat : Int) = pickI x n := fun x n h => Int.toNat_of_nonneg (pickI_bounds x n h).1
  have pb := fun x n h => pickI_bounds x n h
  have d := fun k (h : (1 : Int) < k) => tdiv_in v k hv h
  have y1 := k1_size v
  have y2 := k2_size v
  have y3 := k3_size v
  have y4 := k4_size v
  have y8 := k8_size v
  have yx := kx_size v
  have b2 := pb v 2 (by omega)
  have b5 := pb v 5 (by omega)
  have bk := pb (v.tdiv 17) 200 (by omega)
  have hF : ((kF v : Nat) : Int) = 192 + 32 * pickI v 2 := by unfold kF; rw [← nat v 2 (by omega)]; omega
  have hK : ((kK v : Nat) : Int) = 9 + pickI (v.tdiv 17) 200 := by unfold kK; rw [← nat _ 200 (by omega)]; omega
  have hbytes : ∀ (x n : Int) (m : Nat), 0 < n → n ≤ 1000000000000 → m ≤ 8 → CallsStr 26 #[.int .i64 (pickI x n), .int .i64 m] (txt (be m (pickI x n).toNat)) := by
    intro x n m h h2 hm w
    have h3 := pb x n h
    rw [← nat x n h]
    exact keepBytes_any _ m w (by omega) hm
  have hat : ∀ (a : At), a.flags < 256 → a.kind < 256 → a.val.size ≤ 200 → CallsStr 24 #[.int .i64 a.flags, .int .i64 a.kind, .string a.val, .bool c] (txt (kaB c a)) := by
    intro a h1 h2 h3 w
    exact keepAttribute_any a.flags a.kind a.val c w h1 h2 h3
  have hpick : ∀ (x n : Int), inI64 x → 0 < n ∧ n ≤ 1000000000000 → CallsInt 23 #[.int .i64 x, .int .i64 n] (pickI x n) := fun x n h1 h2 w => pick_any x n w h1 h2
  have l1 := kaB_len c ⟨64, 1, k1 v⟩
  have l2 := kaB_len c ⟨64, 2, k2 v⟩
  have l3 := kaB_len c ⟨64, 3, k3 v⟩
  have l4 := kaB_len c ⟨128, 4, k4 v⟩
  have l8 := kaB_len c ⟨192, 8, k8 v⟩
  have lx := kaB_len c ⟨kF v, kK v, kx v⟩
  simp only at l1 l2 l3 l4 l8 lx
  have hb4 : CallsStr 26 #[.int .i64 v, .int .i64 (pickI v 5)] (kx v) := by
    intro w
    rw [← nat v 5 (by omega)]
    exact keepRaw_any v _ w hv (by omega)
  have r0 : txt (kaB c ⟨64, 1, k1 v⟩) ++ txt (kaB c ⟨64, 2, k2 v⟩) ++ txt (kaB c ⟨64, 3, k3 v⟩) = txt (kaW c [⟨64, 1, k1 v⟩, ⟨64, 2, k2 v⟩, ⟨64, 3, k3 v⟩]) := by
    rw [txt_app, txt_app]; simp [kaW]
  have step : ∀ (l m : List At) (p : Prop) [Decidable p] (a : At), txt (kaW c (l ++ if p then [a] else [])) = if p then txt (kaW c l) ++ txt (kaB c a) else txt (kaW c l) := by
    intro l m p _ a
    by_cases h : p
    · rw [if_pos h, if_pos h, kaW_app, kaW_one, txt_app]
    · rw [if_neg h, if_neg h, List.append_nil]
  have sz : ∀ (l m : List At) (p : Prop) [Decidable p] (a : At) (n : Nat), (txt (kaW c l)).size ≤ n → (txt (kaW c (l ++ if p then [a] else []))).size ≤ n + (4 + a.val.size) := by
    intro l m p _ a n h
    rw [step l m p a]
    have := kaB_len c a
    split
    · rw [ByteArray.size_append]; omega
    · omega
  have z0 : (txt (kaW c [⟨64, 1, k1 v⟩, ⟨64, 2, k2 v⟩, ⟨64, 3, k3 v⟩])).size ≤ 30 := by
    rw [← r0, ByteArray.size_append, ByteArray.size_append]; omega
  have z1 := sz _ [] (pickI (v.tdiv 7) 3 = 0) ⟨128, 4, k4 v⟩ _ z0
  have z2 := sz _ [] (pickI (v.tdiv 11) 3 = 0) ⟨192, 8, k8 v⟩ _ z1
  simp only at z1 z2
  unfold kaL
  refine keepAttrs_raw v c (v.tdiv 3) (v.tdiv 5) (v.tdiv 7) (v.tdiv 11) (v.tdiv 2) (v.tdiv 13) (v.tdiv 17) (pickI (v.tdiv 3) 3) (pickI (v.tdiv 7) 3) (pickI (v.tdiv 11) 3) (pickI (v.tdiv 13) 3) (pickI v 3) (pickI (v.tdiv 3) 1000) (pickI (v.tdiv 5) 100000) (pickI v 70000) (pickI (v.tdiv 2) 70000) (pickI v 2) (pickI (v.tdiv 17) 200) (kF v) (kK v) (pickI v 5)
    (k1 v) (txt (be 4 (pickI (v.tdiv 3) 1000).toNat)) (k3 v) (k4 v) (txt (be 4 (pickI (v.tdiv 2) 70000).toNat)) (kx v) (k2 v) (txt (kaB c ⟨64, 1, k1 v⟩)) (txt (kaB c ⟨64, 2, k2 v⟩)) (txt (kaB c ⟨64, 3, k3 v⟩)) (txt (kaB c ⟨128, 4, k4 v⟩)) (txt (kaB c ⟨192, 8, k8 v⟩)) (txt (kaB c ⟨kF v, kK v, kx v⟩)) _ _ _ _ w
    (d 3 (by omega)).2 (d 5 (by omega)).2 (d 7 (by omega)).2 (d 11 (by omega)).2 (d 2 (by omega)).2 (d 13 (by omega)).2 (d 17 (by omega)).2
    (hpick v 3 hv (by omega)) (hbytes v 3 1 (by omega) (by omega) (by omega)) (hat ⟨64, 1, k1 v⟩ (by simp) (by simp) (by simp only; omega))
    (hpick _ 3 (d 3 (by omega)).1 (by omega)) (hpick _ 1000 (d 3 (by omega)).1 (by omega)) (hbytes _ 1000 4 (by omega) (by omega) (by omega)) rfl (hat ⟨64, 2, k2 v⟩ (by simp) (by simp) (by simp only; omega))
    (hpick _ 100000 (d 5 (by omega)).1 (by omega)) (hbytes _ 100000 4 (by omega) (by omega) (by omega)) (hat ⟨64, 3, k3 v⟩ (by simp) (by simp) (by simp only; omega))
    (hpick _ 3 (d 7 (by omega)).1 (by omega)) (hpick v 70000 hv (by omega)) (hbytes _ 70000 4 (by omega) (by omega) (by omega)) (hat ⟨128, 4, k4 v⟩ (by simp) (by simp) (by simp only; omega))
    (hpick _ 3 (d 11 (by omega)).1 (by omega)) (hpick _ 70000 (d 2 (by omega)).1 (by omega)) (hbytes _ 70000 4 (by omega) (by omega) (by omega)) (hat ⟨192, 8, k8 v⟩ (by simp) (by simp) (by simp only; omega))
    (hpick _ 3 (d 13 (by omega)).1 (by omega)) (hpick v 2 hv (by omega)) (hpick _ 200 (d 17 (by omega)).1 (by omega)) (hpick v 5 hv (by omega)) hb4 (wrap64_in' _ (by omega) (by omega)) (by rw [hF]; exact wrap64_in' _ (by omega) (by omega)) (by rw [hK]; exact wrap64_in' _ (by omega) (by omega)) (hat ⟨kF v, kK v, kx v⟩ (by simp only; omega) (by simp only; omega) (by simp only; omega))
    r0.symm (step _ [] _ _) (step _ [] _ _) (step _ [] _ _) (by rw [txt_len, be_length]; omega) (by rw [txt_len, be_length]; omega) (by omega) (by omega) (by omega) (by omega) (by omega) (by omega) (by omega) (by omega) (by omega)

end Go.Proofs.Ytjjakgmjoplhoaa
