/-
  The books of lists that came out: are all still as they were?
-/
import Derived.Test.YthcnkbeognkjgaaGreatDoorGmTexts
import Derived.Test.YthcnkbeognkjgaaGreatDoorT2
import Derived.Deep.CutBlock
import Derived.Deep.DeepCutAuto
import Derived.Deep.RegionLaw
import Derived.Deep.RegionHeldLaw
import Derived.Test.YthcnkbeognkjgaaGreatDoorRows
import Derived.ProofKit
import Derived.OpenShut
import Derived.ChangeOld
import Derived.Deep.Slices
import Derived.ChangeSame
import Derived.JoinedCond
import Derived.ClaimOpenTies
import Derived.Leaving
import Derived.SevenTiedAt
namespace Go.Proofs.YthcnkbeognkjgaaGreatDoor
open Go.RowKit
open Rl

theorem keep2 {wc wx w3 : World} {p q : Addr} {u v : Value} (hp : p.block < wc.heap.size) (hq : q.block < wc.heap.size) (h : wx.cell? p = some u ∧ wx.cell? q = some v ∧ Below wc.heap.size wc wx) (hb : Below wx.heap.size wx w3) :
    w3.cell? p = some u ∧ w3.cell? q = some v ∧ Below wc.heap.size wc w3 := by
  obtain ⟨h1, h2, h3⟩ := h
  exact ⟨(hb.cell (p := p) (Nat.lt_of_lt_of_le hp h3.size)).trans h1, (hb.cell (p := q) (Nat.lt_of_lt_of_le hq h3.size)).trans h2, later_below h3 hb h3.size⟩

set_option maxRecDepth 20000 in
set_option maxHeartbeats 1000000 in
theorem still_any (w : World) (ow : Nat → Nat) (G s : Nat) (cs : Nat → Value) (h : Books w ow G cs s) (hs : s ≤ 2097151) :
    Calls Tryz.prog 9 #[.pointer (some ⟨G, 1, none⟩)] w fun e w' => e = .returned (.bool true) ∧ Below w.heap.size w w' := by
  obtain ⟨n, came, ts, K, hB, hK, hW, hn, hc, hts, hKl⟩ := h.ex
  obtain ⟨n4, n5, n8, n9, n10, n11, n14, n15⟩ := hB.nils
  have hG := hB.blk.lt
  have hcl := fun j hj => hB.blk.cells j hj
  have c3 := hcl 3 (by omega); rw [hB.c3] at c3
  have c4 := hcl 4 (by omega); rw [n4] at c4
  have c5 := hcl 5 (by omega); rw [n5] at c5
  have c8 := hcl 8 (by omega); rw [n8] at c8
  have c9 := hcl 9 (by omega); rw [n9] at c9
  obtain ⟨ka, kc, ek⟩ := slice_owned hK.row
  obtain ⟨va, vc, ev⟩ := slice_owned hW.row
  have c6 := hcl 6 (by omega); rw [ek] at c6 hK
  have c7 := hcl 7 (by omega); rw [ev] at c7 hW
  have HC := hide hcl
  have HS1 := hide (fun wx (hb : Below w.heap.size w wx) => sameT_any _ _ K wx (by omega) ((rowAt_of_owns hK.row).later hb) ((rowAt_of_owns hW.row).later hb))
  have HB := hide hB
  clear h hB hK hW hcl n4 n5 n8 n9 n10 n11 n14 n15
  go_enter Tryz.func9, Tryz.ntmps9
  go_wp2_with fail
  go_region_held (fun w' => w'.cell? ⟨G, 4, none⟩ = some (.slice none 0 0) ∧ w'.cell? ⟨G, 5, none⟩ = some (.slice none 0 0) ∧ Below w.heap.size w w') (first | assumption | (exact ⟨c4, c5, (Below.refl _ _).drew⟩) | (exact keep2 hG hG (by assumption) (by assumption))) (first | (go_at_call 15; refine (sameE_nil _).mono ?_; rintro e w1 ⟨rfl, hbw1⟩))
  rename_i hHeldw1
  have Bw1 := hHeldw1.2.2
  clear hHeldw1 hbw1
  replace c3 := (Bw1.cell (p := ⟨G, 3, none⟩) hG).trans c3
  replace c6 := (Bw1.cell (p := ⟨G, 6, none⟩) hG).trans c6
  replace c7 := (Bw1.cell (p := ⟨G, 7, none⟩) hG).trans c7
  replace c8 := (Bw1.cell (p := ⟨G, 8, none⟩) hG).trans c8
  replace c9 := (Bw1.cell (p := ⟨G, 9, none⟩) hG).trans c9
  replace hG : G < w1.heap.size := Nat.lt_of_lt_of_le hG Bw1.size
  go_wp2_with fail
  go_region_held (fun w' => w'.cell? ⟨G, 6, none⟩ = some (.slice ka K.length kc) ∧ w'.cell? ⟨G, 7, none⟩ = some (.slice va K.length vc) ∧ Below w1.heap.size w1 w') (first | assumption | (exact ⟨c6, c7, (Below.refl _ _).drew⟩) | (exact keep2 hG hG (by assumption) (by assumption))) (first | (go_at_call 19; refine (HS1.out _ (by first | exact (Bw1.drew) | exact later_below Bw1 (by assumption : _ ∧ _ ∧ Below _ _ _).2.2 Bw1.size)).mono ?_; rintro e w2 ⟨rfl, hbw2⟩))
  rename_i hHeldw2
  have Bw2 := hHeldw2.2.2
  clear hHeldw2 hbw2
  replace c3 := (Bw2.cell (p := ⟨G, 3, none⟩) hG).trans c3
  replace c8 := (Bw2.cell (p := ⟨G, 8, none⟩) hG).trans c8
  replace c9 := (Bw2.cell (p := ⟨G, 9, none⟩) hG).trans c9
  replace hG : G < w2.heap.size := Nat.lt_of_lt_of_le hG Bw2.size
  go_wp2_with fail
  go_region_held (fun w' => w'.cell? ⟨G, 8, none⟩ = some (.slice none 0 0) ∧ w'.cell? ⟨G, 9, none⟩ = some (.slice none 0 0) ∧ Below w2.heap.size w2 w') (first | assumption | (exact ⟨c8, c9, (Below.refl _ _).drew⟩) | (exact keep2 hG hG (by assumption) (by assumption))) (first | (go_at_call 25; refine (sameS_nil _).mono ?_; rintro e w3 ⟨rfl, hbw3⟩))
  rename_i hHeldw3
  have Bw3 := hHeldw3.2.2
  clear hHeldw3 hbw3
  replace c3 := (Bw3.cell (p := ⟨G, 3, none⟩) hG).trans c3
  replace hG : G < w3.heap.size := Nat.lt_of_lt_of_le hG Bw3.size
  have B := later_below (later_below Bw1 Bw2 Bw1.size) Bw3 (later_below Bw1 Bw2 Bw1.size).size
  clear Bw1 Bw2 Bw3 HS1 c3 ek ev
  have HBB := hide B
  obtain ⟨n4, n5, n8, n9, n10, n11, n14, n15⟩ := HB.out.nils
  have hGw := HB.out.blk.lt
  have c3 := (B.cell (p := ⟨G, 3, none⟩) hGw).trans (HC.out 3 (by omega)); rw [HB.out.c3] at c3
  have c10 := (B.cell (p := ⟨G, 10, none⟩) hGw).trans (HC.out 10 (by omega)); rw [n10] at c10
  obtain ⟨ta, tc, et⟩ := slice_owned HB.out.trow.row
  obtain ⟨na, nc, en⟩ := slice_owned HB.out.nrow.row
  have htl : (ts.map Prod.snd).length = ts.length := List.length_map ..
  have hnl : (ts.map fun x => (x.1 : Int)).length = ts.length := List.length_map ..
  have hts : ts.length ≤ 16777216 := by omega
  have c12 := HC.out 12 (by omega); rw [et] at c12
  have c13 := HC.out 13 (by omega); rw [en] at c13
  have c14 := HC.out 14 (by omega); rw [n14] at c14
  have trow := HB.out.trow.row; rw [et] at trow
  have nrow := HB.out.nrow.row; rw [en] at nrow
  have HTR := hide trow
  have HNR := hide nrow
  have HFU := hide HB.out.full
  have HC12 := hide c12
  have HC13 := hide c13
  have HC14 := hide c14
  have HGW := hide hGw
  have c12' := (B.cell (p := ⟨G, 12, none⟩) hGw).trans c12
  clear n4 n5 n8 n9 n10 n11 n14 n15 et en htl hnl trow nrow c12 c13 c14 HC HB B hGw hc hn hKl
  go_wp2_with fail
  refine wp_loop_rounds 1 ?_
  rw [rounds_succ]
  go_wp2_with fail
  clear c10 c3 c12'
  go_loopw [8] (fun i wr => ∃ k : Nat, k ≤ ts.length ∧ i = .int .i64 k ∧ Below w.heap.size w wr) (fun i _ => ts.length - (intOf i).toNat)
  case atStart => exact ⟨0, Nat.zero_le _, rfl, HBB.out⟩
  case round =>
    obtain ⟨k, hk, rfl, hb⟩ := hrel
    have c12 := (hb.cell (p := ⟨G, 12, none⟩) HGW.out).trans HC12.out
    have c13 := (hb.cell (p := ⟨G, 13, none⟩) HGW.out).trans HC13.out
    by_cases hlt : k < ts.length
    · rcases HTR.out.2 with ⟨e, _⟩ | ⟨tg, _, _, e, _⟩
      · injection e with _ e; omega
      · cases e
        rcases HNR.out.2 with ⟨e, _⟩ | ⟨ng, _, _, e, _⟩
        · injection e with _ e; omega
        · cases e
          have tcell := HTR.out.cellAt k (by omega)
          rw [List.getElem?_map, List.getElem?_eq_getElem hlt] at tcell
          have ncell := HNR.out.cellAt k (by omega)
          unfold ints at ncell
          rw [List.getElem?_map, List.getElem?_map, List.getElem?_eq_getElem hlt] at ncell
          have htg := (HTR.out.lt tg rfl).2
          have hng := (HNR.out.lt ng rfl).2
          obtain ⟨ua, um, uc, eu, hum, hfull⟩ := HFU.out _ (List.getElem_mem hlt)
          have tc2 : w.cell? ⟨tg, k, none⟩ = some (.slice ua um uc) := by rw [tcell, Option.map_some, eu]
          have nc2 : w.cell? ⟨ng, k, none⟩ = some (.int .i64 (ts[k].1 : Int)) := by rw [ncell]; rfl
          have q0 := (hb.cell (p := ⟨tg, k, none⟩) htg).trans tc2
          have q1 := (hb.cell (p := ⟨ng, k, none⟩) hng).trans nc2
          have hx : (k : Int) < (ts.length : Int) := by omega
          have hk0 : (0 : Int) ≤ (k : Int) := by omega
          have HM := hide (fun wx => mark_any ts[k].1 wx)
          have HFL := hide hfull
          have HT2 := hide tc2
          clear tcell ncell eu hfull tc2 nc2
          generalize markS ts[k].1 = sm at *
          generalize ts[k].1 = mk at *
          go_wp2_with (go_at_call 26; refine (HM.out _).mono ?_; rintro e w6 ⟨rfl, hb6⟩; have B6 := later_below hb hb6 hb.size)
          clear c12 c13 q0 q1
          go_loopw [10] (fun i wq => ∃ j : Nat, j ≤ um ∧ i = .int .i64 j ∧ Below w.heap.size w wq) (fun i _ => um - (intOf i).toNat)
          case atStart => exact ⟨0, Nat.zero_le _, rfl, B6⟩
          case round =>
            obtain ⟨j, hj, rfl, hbq⟩ := hrel
            have c12 := (hbq.cell (p := ⟨G, 12, none⟩) HGW.out).trans HC12.out
            have q0 := (hbq.cell (p := ⟨tg, k, none⟩) htg).trans HT2.out
            by_cases hjl : j < um
            · rcases HFL.out with h0 | ⟨g, rfl, hg, _, hcg⟩
              · omega
              · have q3 := (hbq.cell (p := ⟨g, j, none⟩) hg).trans (hcg j hjl)
                have hxj : (j : Int) < (um : Int) := by omega
                have hj0 : (0 : Int) ≤ (j : Int) := by omega
                clear hcg
                go_wp2_with fail
                exact ⟨⟨j + 1, by omega, by go_num, hbq⟩, by simp [intOf]; omega⟩
            · have hxj : ¬ (j : Int) < (um : Int) := by omega
              go_wp2_with fail
              exact ⟨⟨k + 1, by omega, by go_num, hbq⟩, by simp [intOf]; omega⟩
    · have hx : ¬ (k : Int) < (ts.length : Int) := by omega
      have c14 := (hb.cell (p := ⟨G, 14, none⟩) HGW.out).trans HC14.out
      go_wp2_with fail
      refine wp_loop_rounds 1 ?_
      rw [rounds_succ]
      go_wp2_with fail
      go_ret
      exact ⟨rfl, hb⟩

end Go.Proofs.YthcnkbeognkjgaaGreatDoor
/-
  A step of a world, whatever it is: true; the game goes on.
-/
namespace Go.Proofs.YthcnkbeognkjgaaGreatDoor
open Go.RowKit
namespace Rl

/-- a step, and where its list lies. -/
structure OpM where
  kind : Int
  W : Int
  A : Int
  C : Int
  S : ByteArray
  T : ByteArray
  la : Option Addr
  lc : Nat
  keep : List Int

/-- a step whose numbers are in their bounds, its list among what came in. -/
structure OkOp (w : World) (ow : Nat → Nat) (o : OpM) : Prop where
  s : o.S.size ≤ 2097152
  t : o.T.size ≤ 2097152
  a0 : -9223372036854775808 ≤ o.A
  a1 : o.A ≤ 9223372036854775807
  w0 : -9223372036854775808 ≤ o.W
  w1 : o.W ≤ 9223372036854775807
  row : RowAt w (.slice o.la o.keep.length o.lc) o.keep.length 1 (ints o.keep)
  len : o.keep.length ≤ 4194304
  code : o.keep.length ≠ 0 → ∀ k, (Value.slice o.la o.keep.length o.lc).ownBlock = some k → k < w.heap.size ∧ ow k = 11

theorem OkOp.frame {T : Nat → Prop} {w w' : World} {ow ow' : Nat → Nat} {o : OpM} (h : OkOp w ow o) (hf : Fr T w ow w' ow') (hT : ¬ T 11) : OkOp w' ow' o :=
  ⟨h.s, h.t, h.a0, h.a1, h.w0, h.w1, rowAt_fr0 h.row hf (fun hz k hk => by rw [(h.code hz k hk).2]; exact hT), h.len, fun hz k hk => by
    obtain ⟨h1, h2⟩ := h.code hz k hk
    exact ⟨Nat.lt_of_lt_of_le h1 hf.size, hf.ow h1 h2 hT⟩⟩

def OpM.val (o : OpM) : Value := opV o.kind o.W o.A o.C o.S o.T o.la o.keep.length o.lc

/-- what a step may turn: the books, and the world that it is played in. -/
def StepT (i : Nat) : Nat → Prop := fun c => c = 1 ∨ c = 4 ∨ c = 5 ∨ c = 6 ∨ c = 7 ∨ c = 8 ∨ c = 9 ∨ c = 10 ∨ c = 20 + 3 * i ∨ c = 21 + 3 * i ∨ c = 22 + 3 * i

/-- what is so behind a step of the world i. -/
def StepEnd (w : World) (ow : Nat → Nat) (i B G a b s : Nat) (cs : Nat → Value) (xv dv : Value) (o : OpM) : World → Prop := fun w' =>
  ∃ ow' om' cs' s', WorldC w' ow' i B xv dv om' ∧ FineO om' (a + 1) (b + o.T.size) ∧ Books w' ow' G cs' s' ∧ s' ≤ s + 1 ∧ cs' 0 = cs 0 ∧ Fr (StepT i) w ow w' ow'

theorem step_writes {w w' : World} {ow : Nat → Nat} {i B G a b s : Nat} {cs : Nat → Value} {xv dv : Value} {om' : Option DiskM} {o : OpM} (hB : Books w ow G cs s) (hf : FineO om' (a + 1) (b + o.T.size))
    (h : ∃ ow', WorldC w' ow' i B xv dv om' ∧ Fr (fun c => c = 20 + 3 * i ∨ c = 21 + 3 * i ∨ c = 22 + 3 * i) w ow w' ow') : StepEnd w ow i B G a b s cs xv dv o w' := by
  obtain ⟨ow', h1, h2⟩ := h
  exact ⟨ow', om', cs, s, h1, hf, hB.frame h2 (by intro c hc hx; omega), by omega, rfl, h2.mono (fun c hc => by unfold StepT; omega)⟩

theorem step_still {w w' : World} {ow : Nat → Nat} {i B G a b s : Nat} {cs : Nat → Value} {xv dv : Value} {om : Option DiskM} {o : OpM} (h : WorldC w ow i B xv dv om) (hB : Books w ow G cs s) (hf : FineO om a b) (hb : Below w.heap.size w w') : StepEnd w ow i B G a b s cs xv dv o w' := by
  have f := Fr.ofBelow ow hb (fun _ => False) 0
  exact ⟨_, om, cs, s, h.frame f (fun x => x) (fun x => x) (fun x => x), hf.mono (by omega) (by omega), hB.frame f (fun _ _ x => x), by omega, rfl, f.mono (fun _ x => x.elim)⟩

end Rl
open Rl

theorem does_any (w : World) (ow : Nat → Nat) (i B G a b s : Nat) (cs : Nat → Value) (xv dv : Value) (om : Option DiskM) (o : OpM) (h : WorldC w ow i B xv dv om) (hf : FineO om a b) (hB : Books w ow G cs s) (ho : OkOp w ow o) (ha : a ≤ 4194304) (hb : b ≤ 4194304) (hs : s ≤ 2097151) (hk : o.kind ≤ 11 ∨ 23 ≤ o.kind) :
    Calls Tryz.prog 7 #[.pointer (some ⟨G, 0, none⟩), .pointer (some ⟨B, 0, none⟩), o.val] w fun e w' => ∃ r, e = .returned (.tuple #[.bool true, .int .i64 r]) ∧ StepEnd w ow i B G a b s cs xv dv o w' := by
  obtain ⟨k, W, A, C, S, T, la, lc, keep⟩ := o
  obtain ⟨hS, hT, hA0, hA1, hW0, hW1, hrow, hlen, hcode⟩ := ho
  simp only at hk hS hT hA0 hA1 hW0 hW1 hrow hlen hcode
  unfold OpM.val
  simp only
  have hT4 : T.size ≤ 4194304 := by omega
  by_cases h12 : k ≤ 2 ∨ 25 ≤ k
  · exact (doesElse w ow i B G xv dv om k W A C S T la keep.length lc h h12).mono (fun e w' ⟨he, hb⟩ => ⟨0, he, step_still h hB hf hb⟩)
  · by_cases h3 : k = 3
    · subst h3
      obtain ⟨om', E, hbo, hf'⟩ := bothAppend (i := i) (xv := xv) (dv := dv) hf ha hb S T hS hT4
      exact (doesWrites w ow i B G xv dv om om' 3 W A C S T la keep.length lc h (by omega) (fun w1 ow1 h1 _ => writesAppend w1 ow1 i B xv dv om om' E W A C S T la keep.length lc h1 hbo)).mono (fun e w' ⟨he, hr⟩ => ⟨1, he, step_writes hB hf' hr⟩)
    by_cases h4 : k = 4
    · subst h4
      obtain ⟨om', E, hbo, hf'⟩ := bothSync (i := i) (xv := xv) (dv := dv) hf ha hb S hS
      exact (doesWrites w ow i B G xv dv om om' 4 W A C S T la keep.length lc h (by omega) (fun w1 ow1 h1 _ => writesSync w1 ow1 i B xv dv om om' E W A C S T la keep.length lc h1 hbo)).mono (fun e w' ⟨he, hr⟩ => ⟨1, he, step_writes hB (hf'.mono (Nat.le_refl _) (by simp only; omega)) hr⟩)
    by_cases h5 : k = 5
    · subst h5
      obtain ⟨om', E, hbo, hf'⟩ := bothRename (i := i) (xv := xv) (dv := dv) hf ha hb S T hS hT
      exact (doesWrites w ow i B G xv dv om om' 5 W A C S T la keep.length lc h (by omega) (fun w1 ow1 h1 _ => writesRename w1 ow1 i B xv dv om om' E W A C S T la keep.length lc h1 hbo)).mono (fun e w' ⟨he, hr⟩ => ⟨1, he, step_writes hB (hf'.mono (Nat.le_refl _) (by simp only; omega)) hr⟩)
    by_cases h6 : k = 6
    · subst h6
      obtain ⟨om', E, hbo, hf'⟩ := bothDelete (i := i) (xv := xv) (dv := dv) hf ha hb S hS
      exact (doesWrites w ow i B G xv dv om om' 6 W A C S T la keep.length lc h (by omega) (fun w1 ow1 h1 _ => writesDelete w1 ow1 i B xv dv om om' E W A C S T la keep.length lc h1 hbo)).mono (fun e w' ⟨he, hr⟩ => ⟨1, he, step_writes hB (hf'.mono (Nat.le_refl _) (by simp only; omega)) hr⟩)
    by_cases h7 : k = 7
    · subst h7
      obtain ⟨om', E, hbo, hf'⟩ := bothTruncate (i := i) (xv := xv) (dv := dv) hf ha hb S hS A
      exact (doesWrites w ow i B G xv dv om om' 7 W A C S T la keep.length lc h (by omega) (fun w1 ow1 h1 _ => writesTruncate w1 ow1 i B xv dv om om' E W A C S T la keep.length lc h1 hbo)).mono (fun e w' ⟨he, hr⟩ => ⟨1, he, step_writes hB (hf'.mono (Nat.le_refl _) (by simp only; omega)) hr⟩)
    by_cases h8 : k = 8
    · subst h8
      obtain ⟨om', E, hbo, hf'⟩ := bothCrash (i := i) (xv := xv) (dv := dv) hf ha hb keep hlen
      refine (doesWrites w ow i B G xv dv om om' 8 W A C S T la keep.length lc h (by omega) (fun w1 ow1 h1 hf1 => writesCrash w1 ow1 i B xv dv om om' E W A C S T la lc keep h1 (rowAt_fr0 hrow hf1 (fun hz k hk => by rw [(hcode hz k hk).2]; omega)) hlen (fun hz k hk => ?_) hbo)).mono (fun e w' ⟨he, hr⟩ => ⟨1, he, step_writes hB (hf'.mono (Nat.le_refl _) (by simp only; omega)) hr⟩)
      obtain ⟨c1, c2⟩ := hcode hz k hk
      exact ⟨Nat.lt_of_lt_of_le c1 hf1.size, hf1.ow c1 c2 (by omega)⟩
    by_cases h24 : k = 24
    · subst h24
      obtain ⟨om', E, hbo, hf'⟩ := bothBreak (i := i) (xv := xv) (dv := dv) hf ha hb A hA1
      exact (doesBreak w ow i B G xv dv om om' W A C S T la keep.length lc h (fun w1 ow1 h1 _ => writesBreak w1 ow1 i B xv dv om om' E W A C S T la keep.length lc h1 hbo)).mono (fun e w' ⟨he, hr⟩ => ⟨1, he, step_writes hB (hf'.mono (Nat.le_refl _) (by simp only; omega)) hr⟩)
    by_cases h23 : k = 23
    · subst h23
      refine (doesNobody w ow i B G xv dv om W A C S T la keep.length lc h).mono (fun e w' ⟨he, ow', hw', hfr⟩ => ⟨0, he, ow', om, cs, s, hw', hf.mono (by omega) (by omega), hB.frame hfr (by intro c hc hx; omega), by omega, rfl, hfr.mono (fun c hc => by unfold StepT; omega)⟩)
    have h911 : 9 ≤ k ∧ k ≤ 11 := by omega
    refine (doesLooks w ow i B G xv dv om k W A C S T la keep.length lc (StepEnd w ow i B G a b s cs xv dv ⟨k, W, A, C, S, T, la, lc, keep⟩) h h911 (fun w1 f1 h1 => ?_)).mono (fun e w' ⟨he, hr⟩ => ⟨1, he, hr⟩)
    have hB1 := hB.frame f1 (fun _ _ x => x)
    have still : ∀ w', Below w1.heap.size w1 w' → StepEnd w ow i B G a b s cs xv dv ⟨k, W, A, C, S, T, la, lc, keep⟩ w' := fun w' hb' => by
      obtain ⟨ow', om', cs', s', q1, q2, q3, q4, q5, q6⟩ := step_still (o := ⟨k, W, A, C, S, T, la, lc, keep⟩) h1 hB1 hf hb'
      exact ⟨ow', om', cs', s', q1, q2, q3, q4, q5, (f1.mono (fun _ x => x.elim)).trans q6 (fun _ x => x)⟩
    by_cases h9 : k = 9
    · subst h9
      exact (looksRead w1 _ i B G a b xv dv om W A C S T la keep.length lc h1 hf ha hS).mono (fun e w' ⟨he, hb'⟩ => ⟨he, still w' hb'⟩)
    by_cases h10 : k = 10
    · subst h10
      refine (looksList w1 _ i B G a b xv dv om W A C S T la keep.length lc h1 hf ha s cs hB1 hs).mono (fun e w' ⟨he, ow', cs', hB', hcs, hfr⟩ => ⟨he, ow', om, cs', s + 1, h1.frame hfr (by omega) (by omega) (by omega), hf.mono (by omega) (by omega), hB', by omega, hcs, (f1.mono (fun _ x => x.elim)).trans (hfr.mono (fun c hc => by unfold StepT; omega)) (fun _ x => x)⟩)
    have h11 : k = 11 := by omega
    subst h11
    exact (looksUsed w1 _ i B G a b xv dv om W A C S T la keep.length lc h1 hf ha hb).mono (fun e w' ⟨he, hb'⟩ => ⟨he, still w' hb'⟩)

end Go.Proofs.YthcnkbeognkjgaaGreatDoor
/-
  The script is played.
-/
namespace Go.Proofs.YthcnkbeognkjgaaGreatDoor
open Go.RowKit
namespace Rl

def OpM.cells (o : OpM) : List Value := [.int .i64 o.kind, .int .i64 o.W, .int .i64 o.A, .int .i64 o.C, .string o.S, .string o.T, .slice o.la o.keep.length o.lc]

def opCells (l : List OpM) : List Value := l.flatMap OpM.cells

theorem opCells_length (l : List OpM) : (opCells l).length = l.length * 7 := by
  induction l with
  | nil => rfl
  | cons f r ih => simp [opCells, List.flatMap_cons, OpM.cells] at ih ⊢; omega

theorem opCells_get : ∀ (l : List OpM) (j : Nat) (h : j < l.length), (opCells l)[j * 7]? = some (.int .i64 l[j].kind) ∧ (opCells l)[j * 7 + 1]? = some (.int .i64 l[j].W) ∧ (opCells l)[j * 7 + 2]? = some (.int .i64 l[j].A) ∧ (opCells l)[j * 7 + 3]? = some (.int .i64 l[j].C) ∧ (opCells l)[j * 7 + 4]? = some (.string l[j].S) ∧ (opCells l)[j * 7 + 5]? = some (.string l[j].T) ∧ (opCells l)[j * 7 + 6]? = some (.slice l[j].la l[j].keep.length l[j].lc) := by
  intro l
  induction l with
  | nil => intro j h; simp at h
  | cons f r ih =>
    intro j h
    have e : opCells (f :: r) = .int .i64 f.kind :: .int .i64 f.W :: .int .i64 f.A :: .int .i64 f.C :: .string f.S :: .string f.T :: .slice f.la f.keep.length f.lc :: opCells r := rfl
    cases j with
    | zero => rw [e]; exact ⟨rfl, rfl, rfl, rfl, rfl, rfl, rfl⟩
    | succ j =>
      have hj : j < r.length := by simpa using h
      obtain ⟨h0, h1, h2, h3, h4, h5, h6⟩ := ih j hj
      rw [e]
      refine ⟨?_, ?_, ?_, ?_, ?_, ?_, ?_⟩
      · rw [show (j + 1) * 7 = j * 7 + 1 + 1 + 1 + 1 + 1 + 1 + 1 by omega]; simpa using h0
      · rw [show (j + 1) * 7 + 1 = (j * 7 + 1) + 1 + 1 + 1 + 1 + 1 + 1 + 1 by omega]; simpa using h1
      · rw [show (j + 1) * 7 + 2 = (j * 7 + 2) + 1 + 1 + 1 + 1 + 1 + 1 + 1 by omega]; simpa using h2
      · rw [show (j + 1) * 7 + 3 = (j * 7 + 3) + 1 + 1 + 1 + 1 + 1 + 1 + 1 by omega]; simpa using h3
      · rw [show (j + 1) * 7 + 4 = (j * 7 + 4) + 1 + 1 + 1 + 1 + 1 + 1 + 1 by omega]; simpa using h4
      · rw [show (j + 1) * 7 + 5 = (j * 7 + 5) + 1 + 1 + 1 + 1 + 1 + 1 + 1 by omega]; simpa using h5
      · rw [show (j + 1) * 7 + 6 = (j * 7 + 6) + 1 + 1 + 1 + 1 + 1 + 1 + 1 by omega]; simpa using h6

/-- the bytes that the first steps may add. -/
def tSum : List OpM → Nat
  | [] => 0
  | o :: r => o.T.size + tSum r

theorem tSum_app (l m : List OpM) : tSum (l ++ m) = tSum l + tSum m := by
  induction l with
  | nil => simp [tSum]
  | cons f r ih => simp [tSum, ih]; omega

theorem tSum_take (l : List OpM) (k : Nat) (h : k < l.length) : tSum (l.take (k + 1)) = tSum (l.take k) + l[k].T.size := by
  rw [List.take_succ_eq_append_getElem h, tSum_app]; simp [tSum]

theorem tSum_le (l : List OpM) (k : Nat) : tSum (l.take k) ≤ tSum l := by
  have h : tSum l = tSum (l.take k) + tSum (l.drop k) := by rw [← tSum_app, List.take_append_drop]
  omega

/-- a world of the list of worlds: its block, its disks. -/
structure WldM where
  B : Nat
  xv : Value
  dv : Value
  om : Option DiskM

def wldPtr (x : WldM) : Value := .pointer (some ⟨x.B, 0, none⟩)

/-- THE GAME. -/
structure GameI (w : World) (ow : Nat → Nat) (G s a b : Nat) (cs : Nat → Value) (ws : List WldM) : Prop where
  books : Books w ow G cs s
  row : RowC w ow 44 1 (cs 0) ws.length (ws.map wldPtr) 2
  each : ∀ i (h : i < ws.length), WorldC w ow i ws[i].B ws[i].xv ws[i].dv ws[i].om ∧ FineO ws[i].om a b

theorem GameI.frame {T : Nat → Prop} {w w' : World} {ow ow' : Nat → Nat} {G s a b : Nat} {cs : Nat → Value} {ws : List WldM} (h : GameI w ow G s a b cs ws) (hf : Fr T w ow w' ow') (hT : ∀ c, T c → c = 0) : GameI w' ow' G s a b cs ws :=
  ⟨h.books.frame hf (fun c hc hx => by have := hT c hx; omega), h.row.frame hf (fun hx => by have := hT _ hx; omega), fun i hi => ⟨(h.each i hi).1.frame hf (fun hx => by have := hT _ hx; omega) (fun hx => by have := hT _ hx; omega) (fun hx => by have := hT _ hx; omega), (h.each i hi).2⟩⟩

theorem GameI.mono {w : World} {ow : Nat → Nat} {G s a b a' b' : Nat} {cs : Nat → Value} {ws : List WldM} (h : GameI w ow G s a b cs ws) (ha : a ≤ a') (hb : b ≤ b') : GameI w ow G s a' b' cs ws :=
  ⟨h.books, h.row, fun i hi => ⟨(h.each i hi).1, (h.each i hi).2.mono ha hb⟩⟩

/-- a step of the world i has been played. -/
theorem GameI.step {w w' : World} {ow : Nat → Nat} {G s a b i : Nat} {cs : Nat → Value} {ws : List WldM} {o : OpM} (h : GameI w ow G s a b cs ws) (hi : i < ws.length) (he : StepEnd w ow i ws[i].B G a b s cs ws[i].xv ws[i].dv o w') :
    ∃ ow' s' cs' ws', GameI w' ow' G s' (a + 1) (b + o.T.size) cs' ws' ∧ ws'.length = ws.length ∧ s' ≤ s + 1 ∧ Fr (StepT i) w ow w' ow' := by
  obtain ⟨ow', om', cs', s', hw, hfo, hB, hs, hc0, hf⟩ := he
  have hT : ∀ j, j ≠ i → ¬ StepT i (20 + 3 * j) ∧ ¬ StepT i (21 + 3 * j) ∧ ¬ StepT i (22 + 3 * j) := fun j hj => by unfold StepT; omega
  refine ⟨ow', s', cs', ws.set i { ws[i] with om := om' }, ⟨hB, ?_, fun j hj => ?_⟩, by simp, hs, hf⟩
  · rw [hc0, List.length_set]
    have e : (ws.set i { ws[i] with om := om' }).map wldPtr = ws.map wldPtr := by
      apply List.ext_getElem (by simp)
      intro j h1 h2
      simp only [List.getElem_map, List.getElem_set]
      split
      · rename_i e; subst e; rfl
      · rfl
    rw [e]
    exact h.row.frame hf (by unfold StepT; omega)
  · rw [List.length_set] at hj
    simp only [List.getElem_set]
    split
    · rename_i e
      subst e
      exact ⟨hw, hfo⟩
    · rename_i e
      obtain ⟨t0, t1, t2⟩ := hT j (fun x => e x.symm)
      exact ⟨(h.each j hj).1.frame hf t0 t1 t2, (h.each j hj).2.mono (by omega) (by omega)⟩

/-- the game's cells at the start. -/
def cs0 : Nat → Value := fun j => if j = 1 ∨ j = 2 then .int .i64 0 else if j = 3 then .bool false else .slice none 0 0

theorem game_start (w : World) (ow : Nat → Nat) (T : TypeId) :
    GameI (w.alloc (.cells #[.slice none 0 0, .int .i64 0, .int .i64 0, .bool false, .slice none 0 0, .slice none 0 0, .slice none 0 0, .slice none 0 0, .slice none 0 0, .slice none 0 0, .slice none 0 0, .slice none 0 0, .slice none 0 0, .slice none 0 0, .slice none 0 0, .slice none 0 0] T)) (ext w ow 1) w.heap.size 0 0 0 cs0 [] := by
  have blk : GBlk (w.alloc (.cells #[.slice none 0 0, .int .i64 0, .int .i64 0, .bool false, .slice none 0 0, .slice none 0 0, .slice none 0 0, .slice none 0 0, .slice none 0 0, .slice none 0 0, .slice none 0 0, .slice none 0 0, .slice none 0 0, .slice none 0 0, .slice none 0 0, .slice none 0 0] T)) (ext w ow 1) w.heap.size cs0 := by
    refine ⟨by unfold ext; rw [if_neg (by omega)], by simp, fun j hj => ?_, fun j hj => ?_⟩
    · match j, hj with
      | 0, _ => simp [cs0]
      | 1, _ => simp [cs0]
      | 2, _ => simp [cs0]
      | 3, _ => simp [cs0]
      | 4, _ => simp [cs0]
      | 5, _ => simp [cs0]
      | 6, _ => simp [cs0]
      | 7, _ => simp [cs0]
      | 8, _ => simp [cs0]
      | 9, _ => simp [cs0]
      | 10, _ => simp [cs0]
      | 11, _ => simp [cs0]
      | 12, _ => simp [cs0]
      | 13, _ => simp [cs0]
      | 14, _ => simp [cs0]
      | 15, _ => simp [cs0]
      | n + 16, h => exact absurd h (by omega)
    · simp
  refine ⟨⟨0, 0, [], [], ⟨blk, rfl, rfl, rfl, ⟨rfl, rfl, rfl, rfl, rfl, rfl, rfl, rfl⟩, RowC.nil _ _ _ _ _, RowC.nil _ _ _ _ _, fun x hx => by cases hx⟩, RowC.nil _ _ _ _ _, RowC.nil _ _ _ _ _, by omega, by omega, by simp, by simp⟩, RowC.nil _ _ _ _ _, fun i hi => by simp at hi⟩

theorem fr_below {w w' : World} {ow ow' : Nat → Nat} (h : Fr (fun c => c ≠ 11) w ow w' ow') (hall : ∀ k, k < w.heap.size → ow k = 11) : Below w.heap.size w w' :=
  ⟨h.os, h.tape, h.output, h.size, fun k hk => (h.keep k hk (fun x => x (hall k hk))).2⟩

theorem OkOp.drew {w : World} {ow : Nat → Nat} {o : OpM} (h : OkOp w ow o) : OkOp w.drew ow o := h.frame (T := fun _ => False) ⟨rfl, rfl, rfl, Nat.le_refl _, fun _ _ _ => ⟨rfl, rfl⟩⟩ (fun x => x)

theorem GameI.drew {w : World} {ow : Nat → Nat} {G s a b : Nat} {cs : Nat → Value} {ws : List WldM} (h : GameI w ow G s a b cs ws) : GameI w.drew ow G s a b cs ws := h.frame (T := fun _ => False) ⟨rfl, rfl, rfl, Nat.le_refl _, fun _ _ _ => ⟨rfl, rfl⟩⟩ (fun _ x => x.elim)

theorem row_cell {w : World} {ag ac : Nat} {ws : List WldM} {e : TypeId} (h : w.ownsRow 0 e 1 (.slice (some ⟨ag, 0, none⟩) ws.length ac) ws.length (ws.map wldPtr)) {j : Nat} (hj : j < ws.length) : w.cell? ⟨ag, j, none⟩ = some (.pointer (some ⟨ws[j].B, 0, none⟩)) := by
  rw [h.cellAt j (by omega), List.getElem?_map, List.getElem?_eq_getElem hj]
  rfl

theorem does_val {w : World} {G B : Nat} {o : OpM} {Q : Ending → World → Prop} (h : Calls Tryz.prog 7 #[.pointer (some ⟨G, 0, none⟩), .pointer (some ⟨B, 0, none⟩), o.val] w Q) :
    Calls Tryz.prog 7 #[.pointer (some ⟨G, 0, none⟩), .pointer (some ⟨B, 0, none⟩), .agg #[.int .i64 o.kind, .int .i64 o.W, .int .i64 o.A, .int .i64 o.C, .string o.S, .string o.T, .slice o.la o.keep.length o.lc]] w Q := h

/-- what the step's statement reads is still so behind the step. -/
theorem hold17 {w w2 : World} {ow : Nat → Nat} {i B G a b s n ag ac : Nat} {cs : Nat → Value} {xv dv : Value} {o : OpM} {ws : List WldM} (he : StepEnd w ow i B G a b s cs xv dv o w2) (hb : Bx7 w n (.int .i64 o.kind) (.int .i64 o.W) (.int .i64 o.A) (.int .i64 o.C) (.string o.S) (.string o.T) (.slice o.la o.keep.length o.lc)) (hn : ow n = 0)
    (ha : cs 0 = .slice (some ⟨ag, 0, none⟩) ws.length ac) (hagl : ag < w.heap.size) (hag : ow ag = 2)
    (hS : w.cell? ⟨G, 0, none⟩ = some (.slice (some ⟨ag, 0, none⟩) ws.length ac) ∧ w.cell? ⟨n, 0, none⟩ = some (.int .i64 o.kind) ∧ w.cell? ⟨n, 1, none⟩ = some (.int .i64 o.W) ∧ w.cell? ⟨n, 2, none⟩ = some (.int .i64 o.A) ∧ w.cell? ⟨n, 3, none⟩ = some (.int .i64 o.C) ∧ w.cell? ⟨n, 4, none⟩ = some (.string o.S) ∧ w.cell? ⟨n, 5, none⟩ = some (.string o.T) ∧ w.cell? ⟨n, 6, none⟩ = some (.slice o.la o.keep.length o.lc) ∧ (∀ j (hj : j < ws.length), w.cell? ⟨ag, j, none⟩ = some (.pointer (some ⟨ws[j].B, 0, none⟩)))) :
    w2.cell? ⟨G, 0, none⟩ = some (.slice (some ⟨ag, 0, none⟩) ws.length ac) ∧ w2.cell? ⟨n, 0, none⟩ = some (.int .i64 o.kind) ∧ w2.cell? ⟨n, 1, none⟩ = some (.int .i64 o.W) ∧ w2.cell? ⟨n, 2, none⟩ = some (.int .i64 o.A) ∧ w2.cell? ⟨n, 3, none⟩ = some (.int .i64 o.C) ∧ w2.cell? ⟨n, 4, none⟩ = some (.string o.S) ∧ w2.cell? ⟨n, 5, none⟩ = some (.string o.T) ∧ w2.cell? ⟨n, 6, none⟩ = some (.slice o.la o.keep.length o.lc) ∧ (∀ j (hj : j < ws.length), w2.cell? ⟨ag, j, none⟩ = some (.pointer (some ⟨ws[j].B, 0, none⟩))) := by
  obtain ⟨ow', om', cs', s', hw, hfo, hB, hs, hc0, hf⟩ := he
  obtain ⟨_, _, _, _, hbk, _⟩ := hB.ex
  have hb2 := hb.frame hf hn (by unfold StepT; omega)
  refine ⟨?_, hb2.c0, hb2.c1, hb2.c2, hb2.c3, hb2.c4, hb2.c5, hb2.c6, fun j hj => (hf.cell (p := ⟨ag, j, none⟩) hagl hag (by unfold StepT; omega)).trans (hS.2.2.2.2.2.2.2.2 j hj)⟩
  rw [← ha, ← hc0]
  exact hbk.blk.cells 0 (by omega)

theorem Books.put0 {w : World} {ow : Nat → Nat} {G s : Nat} {cs : Nat → Value} (h : Books w ow G cs s) (v : Value) : Books (w.setCell ⟨G, 0, none⟩ v) ow G (upd cs 0 v) s ∧ Fr (fun c => c = 1) w ow (w.setCell ⟨G, 0, none⟩ v) ow := by
  obtain ⟨n, came, ts, K, h1, h2, h3, h4⟩ := h.ex
  obtain ⟨h5, f⟩ := h1.put (j := 0) v (by omega)
  refine ⟨⟨n, came, ts, K, h5, ?_, ?_, h4⟩, f⟩
  · rw [upd_other _ _ (by omega)]; exact h2.frame f (by omega)
  · rw [upd_other _ _ (by omega)]; exact h3.frame f (by omega)

/-- a world's block, made. -/
theorem GameI.world {w : World} {ow : Nat → Nat} {G s a b : Nat} {cs : Nat → Value} {ws : List WldM} (h : GameI w ow G s a b cs ws) {xv dv : Value} {om : Option DiskM} (hd : Disks2 w ow ws.length xv dv om) (T : TypeId) :
    GameI (w.alloc (.cells #[xv, dv, .pointer none, .pointer none, .bool false] T)) (ext w ow (20 + 3 * ws.length)) G s a b cs ws ∧ WorldC (w.alloc (.cells #[xv, dv, .pointer none, .pointer none, .bool false] T)) (ext w ow (20 + 3 * ws.length)) ws.length w.heap.size xv dv om ∧
      Fr (fun _ => False) w ow (w.alloc (.cells #[xv, dv, .pointer none, .pointer none, .bool false] T)) (ext w ow (20 + 3 * ws.length)) := by
  have f := Fr.ofBelow ow ((Below.refl w.heap.size w).alloc (Nat.le_refl _) (.cells #[xv, dv, .pointer none, .pointer none, .bool false] T)) (fun _ => False) (20 + 3 * ws.length)
  refine ⟨h.frame f (fun _ x => x.elim), ⟨by unfold ext; rw [if_neg (by omega)], by simp, by simp, by simp, by simp, by simp, ⟨false, by simp⟩, fun j hj => by simp, hd.frame f (fun x => x) (fun x => x)⟩, f⟩

/-- a world more in the list of worlds. -/
theorem GameI.append {w wa w5 : World} {ow : Nat → Nat} {G s a b B : Nat} {cs : Nat → Value} {ws : List WldM} {xv dv v5 : Value} {om : Option DiskM} (h : GameI w ow G s a b cs ws) (hw : WorldC w ow ws.length B xv dv om) (hf : FineO om a b) (hb : Below w.heap.size w wa)
    (h5 : w5.ownsRow 0 44 1 v5 (ws.length + 1) (ws.map wldPtr ++ [.pointer (some ⟨B, 0, none⟩)])) (hg : wa.grownBy w5 (cs 0).ownBlock) (hp : Laid wa w5 (cs 0) v5) :
    ∃ ow5, GBlk w5 ow5 G cs ∧ GameI (w5.setCell ⟨G, 0, none⟩ v5) ow5 G s a b (upd cs 0 v5) (ws ++ [⟨B, xv, dv, om⟩]) ∧ Fr (fun c => c = 1 ∨ c = 2) w ow (w5.setCell ⟨G, 0, none⟩ v5) ow5 := by
  obtain ⟨ow5, r5, f5⟩ := grow_row h.row hb h5 hg (placed_of_laid hp)
  have hB5 := h.books.frame f5 (by intro c hc hx; omega)
  obtain ⟨hB6, f6⟩ := hB5.put0 v5
  have g5 : GBlk w5 ow5 G cs := by obtain ⟨_, _, _, _, h1, _⟩ := hB5.ex; exact h1.blk
  have f56 := (f5.mono (fun c (x : c = 2) => (Or.inr x : c = 1 ∨ c = 2))).trans (f6.mono (fun c (x : c = 1) => (Or.inl x : c = 1 ∨ c = 2))) (fun _ x => x)
  refine ⟨ow5, g5, ⟨hB6, ?_, fun i hi => ?_⟩, f56⟩
  · rw [upd_same, List.length_append, List.map_append]
    exact r5.frame f6 (by omega)
  · rw [List.length_append, List.length_singleton] at hi
    by_cases hlt : i < ws.length
    · rw [List.getElem_append_left hlt]
      exact ⟨(h.each i hlt).1.frame f56 (by omega) (by omega) (by omega), (h.each i hlt).2⟩
    · have e : i = ws.length := by omega
      subst e
      rw [List.getElem_append_right (Nat.le_refl _)]
      simp only [Nat.sub_self, List.getElem_singleton]
      exact ⟨hw.frame f56 (by omega) (by omega) (by omega), hf⟩

/-- two new disks, of the same room. -/
theorem disks_new {w w1 w2 : World} {ow : Nat → Nat} {i q p : Nat} {m : DiskM} {fv : Value} (h1 : PDisk w1 (fun k => w.heap.size ≤ k ∧ k < w1.heap.size) q m) (b1 : Below w.heap.size w w1) (h2 : RDisk w2 (fun k => w1.heap.size ≤ k ∧ k < w2.heap.size) p fv m) (b2 : Below w1.heap.size w1 w2) :
    ∃ ow2, Disks2 w2 ow2 i (.pointer (some ⟨q, 0, none⟩)) (.pointer (some ⟨p, 0, none⟩)) (some m) ∧ Fr (fun _ => False) w ow w2 ow2 := by
  have f1 := Fr.ofBelow ow b1 (fun _ => False) (21 + 3 * i)
  have f2 := Fr.ofBelow (ext w ow (21 + 3 * i)) b2 (fun _ => False) (22 + 3 * i)
  have p1 : PDisk w1 (Own w1 (ext w ow (21 + 3 * i)) (21 + 3 * i)) q m := h1.mono (fun k hk => ⟨hk.2, by unfold ext; rw [if_neg (by omega)]⟩) (fun _ hk => hk.1)
  refine ⟨_, ⟨q, p, fv, rfl, rfl, p1.frame f2 (fun x => x), h2.mono (fun k hk => ⟨hk.2, by unfold ext; rw [if_neg (by omega)]⟩) (fun _ hk => hk.1)⟩, f1.trans f2 (fun _ x => x)⟩

end Rl
open Rl

theorem ptr_one (p : Option Addr) : ∀ u ∈ [Value.pointer p], u.oneCell' = true := by
  intro u hu; simp at hu; rcases hu with rfl; rfl

theorem info_wld : (Tryz.prog.info? 44).map (fun i => (i.zero, i.size, i.bytes)) = some (some (.pointer none), 1, 8) := by kernel_rfl

set_option maxRecDepth 20000 in
set_option maxHeartbeats 1000000 in
theorem holds_any (w : World) (ow : Nat → Nat) (sa : Option Addr) (sc : Nat) (ops : List OpM) (hr : RowAt w (.slice sa ops.length sc) ops.length 7 (opCells ops)) (hrc : ops.length ≠ 0 → ∀ k, (Value.slice sa ops.length sc).ownBlock = some k → k < w.heap.size ∧ ow k = 11)
    (hall : ∀ k, k < w.heap.size → ow k = 11) (hok : ∀ o ∈ ops, OkOp w ow o) (hn : ops.length ≤ 1048576) (ht : tSum ops ≤ 1048576) :
    Calls Tryz.prog 4 #[.slice sa ops.length sc, .int .i64 1, .int .i64 11] w fun e w' => e = .returned (.bool true) ∧ Below w.heap.size w w' := by
  have HR := hide hr
  have HRC := hide hrc
  have HALL := hide hall
  have HOK := hide hok
  clear hr hrc hall hok
  go_enter Tryz.func4, Tryz.ntmps4
  go_wp2_with fail
  have HG0 := hide (game_start w ow 37)
  have HF0 := hide (Fr.ofBelow ow ((Below.refl w.heap.size w).alloc (Nat.le_refl _) (.cells #[.slice none 0 0, .int .i64 0, .int .i64 0, .bool false, .slice none 0 0, .slice none 0 0, .slice none 0 0, .slice none 0 0, .slice none 0 0, .slice none 0 0, .slice none 0 0, .slice none 0 0, .slice none 0 0, .slice none 0 0, .slice none 0 0, .slice none 0 0] 37)) (fun c => c ≠ 11) 1)
  go_loopw [8] (fun j wr => ∃ (k s : Nat) (ow' : Nat → Nat) (cs : Nat → Value) (ws : List WldM), k ≤ ops.length ∧ j = .int .i64 k ∧ GameI wr ow' w.heap.size s k (tSum (ops.take k)) cs ws ∧ ws.length ≤ k ∧ s ≤ k ∧ Fr (fun c => c ≠ 11) w ow wr ow') (fun j _ => ops.length - (intOf j).toNat)
  case atStart => exact ⟨0, 0, _, cs0, [], Nat.zero_le _, rfl, HG0.out, Nat.zero_le _, Nat.zero_le _, HF0.out⟩
  case round =>
    obtain ⟨k, s, ow', cs, ws, hk, rfl, hG, hwl, hs, hF⟩ := hrel
    have HG := hide hG
    have HF := hide hF
    have htl := tSum_le ops k
    clear hG hF HG0 HF0
    by_cases hlt : k < ops.length
    · have ho := (HOK.out _ (List.getElem_mem hlt)).frame HF.out (fun x => x rfl)
      have htk := tSum_take ops k hlt
      have htl1 := tSum_le ops (k + 1)
      rcases HR.out.2 with ⟨a', c', e, e0⟩ | ⟨sb, so, scap, e, _, hsb, hsc⟩
      · omega
      · cases e
        obtain ⟨hsl, hs11⟩ := HRC.out (by omega) sb rfl
        obtain ⟨q0, q1, q2, q3, q4, q5, q6⟩ := opCells_get ops k hlt
        have r0 := (HF.out.cell (p := ⟨sb, so + k * 7, none⟩) hsl hs11 (fun x => x rfl)).trans (hsc _ _ q0)
        have r1 := (HF.out.cell (p := ⟨sb, so + (k * 7 + 1), none⟩) hsl hs11 (fun x => x rfl)).trans (hsc _ _ q1)
        have r2 := (HF.out.cell (p := ⟨sb, so + (k * 7 + 2), none⟩) hsl hs11 (fun x => x rfl)).trans (hsc _ _ q2)
        have r3 := (HF.out.cell (p := ⟨sb, so + (k * 7 + 3), none⟩) hsl hs11 (fun x => x rfl)).trans (hsc _ _ q3)
        have r4 := (HF.out.cell (p := ⟨sb, so + (k * 7 + 4), none⟩) hsl hs11 (fun x => x rfl)).trans (hsc _ _ q4)
        have r5 := (HF.out.cell (p := ⟨sb, so + (k * 7 + 5), none⟩) hsl hs11 (fun x => x rfl)).trans (hsc _ _ q5)
        have r6 := (HF.out.cell (p := ⟨sb, so + (k * 7 + 6), none⟩) hsl hs11 (fun x => x rfl)).trans (hsc _ _ q6)
        rw [← Nat.add_assoc] at r1 r2 r3 r4 r5 r6
        have HO := hide ho
        have HTK := hide htk
        clear q0 q1 q2 q3 q4 q5 q6 hsc ho htk
        generalize ops[k] = o at *
        have hx : (k : Int) < (ops.length : Int) := by omega
        have hk0 : (0 : Int) ≤ (k : Int) := by omega
        go_upto_block 2 with fail
        have fb := Fr.ofBelow ow' ((Below.refl _ wr).alloc (Nat.le_refl _) (.cells #[.int .i64 o.kind, .int .i64 o.W, .int .i64 o.A, .int .i64 o.C, .string o.S, .string o.T, .slice o.la o.keep.length o.lc] 39)) (fun _ => False) 0
        have hnb : ext wr ow' 0 wr.heap.size = 0 := by unfold ext; rw [if_neg (by omega)]
        have bx := bx7_new wr (.int .i64 o.kind) (.int .i64 o.W) (.int .i64 o.A) (.int .i64 o.C) (.string o.S) (.string o.T) (.slice o.la o.keep.length o.lc) 39
        have HGB := hide (HG.out.frame fb (fun _ x => x.elim))
        have HFB := hide (HF.out.trans (fb.mono (fun _ x => x.elim)) (fun _ x => x))
        have HOB := hide (HO.out.frame fb (fun x => x))
        have HBX := hide bx
        have HNB := hide hnb
        clear r0 r1 r2 r3 r4 r5 r6 fb hnb bx HG HF HO hsb
        generalize wr.alloc (.cells #[.int .i64 o.kind, .int .i64 o.W, .int .i64 o.A, .int .i64 o.C, .string o.S, .string o.T, .slice o.la o.keep.length o.lc] 39) = wb at *
        generalize ext wr ow' 0 = owb at *
        generalize wr.heap.size = N at *
        go_cut [10, 11] (fun okv whv wx => okv = .bool true ∧ (∃ r, whv = .int .i64 r) ∧ ∃ ow2 s2 cs2 ws2, GameI wx ow2 w.heap.size s2 (k + 1) (tSum (ops.take (k + 1))) cs2 ws2 ∧ ws2.length ≤ k + 1 ∧ s2 ≤ k + 1 ∧ Fr (fun c => c ≠ 11) w ow wx ow2)
        case first =>
          obtain ⟨b0, b1, b2, b3, b4, b5, b6, bl⟩ := HBX.out
          by_cases hskip : 11 < o.kind ∧ o.kind < 23
          · have d1 : decide (11 < o.kind) = true := decide_eq_true hskip.1
            have d2 : decide (o.kind < 23) = true := decide_eq_true hskip.2
            go_wp2_with fail
            go_meet
            case rel => exact ⟨rfl, ⟨_, rfl⟩, owb, s, cs, ws, HGB.out.mono (by omega) (by rw [HTK.out]; omega), by omega, by omega, HFB.out⟩
          · have hd12 : decide (11 < o.kind) = false ∨ (decide (11 < o.kind) = true ∧ decide (o.kind < 23) = false) := by
              by_cases h1 : 11 < o.kind
              · exact .inr ⟨decide_eq_true h1, decide_eq_false (by omega)⟩
              · exact .inl (decide_eq_false h1)
            have hrow := HGB.out.row
            have hG16 : GBlk wb owb w.heap.size cs := by obtain ⟨_, _, _, _, h1, _⟩ := HGB.out.books.ex; exact h1.blk
            have g0 := hG16.cells 0 (by omega)
            have gz := hG16.fz 0 (by omega)
            have gl := hG16.lt
            obtain ⟨aa, ac, ea⟩ := slice_owned hrow.row
            rw [ea] at g0
            by_cases hk1 : o.kind = 1
            · have e1 : (o.kind == 1) = true := by rw [beq_iff_eq]; exact hk1
              have d1 : decide (11 < o.kind) = false := decide_eq_false (by omega)
              have hwl' : ws.length ≤ 1048576 := by omega
              have HEA := hide ea
              clear hrow hG16 ea gz
              go_upto_region 12 with (first
                | (go_at_call 5; refine (newDisk_any o.A wb).mono ?_; rintro e w1 ⟨q, rfl, hp1, hb1⟩; have x2 := (hb1.cell (p := ⟨N, 2, none⟩) bl).trans b2)
                | (go_at_call 6; refine (refNew_any o.A w1).mono ?_; rintro e w2 ⟨pp, rfl, hr2, hb2⟩))
              obtain ⟨ow2, hd2, f2⟩ := disks_new (ow := owb) (i := ws.length) hp1 hb1 hr2 hb2
              have hG2 := HGB.out.frame f2 (fun _ x => x.elim)
              obtain ⟨hG1, hW1, hF1⟩ := hG2.world hd2 48
              obtain ⟨j0, hj, hj0, hj1, hj2⟩ := info_parts info_wld
              have row1 := hG1.row.row
              have hG16 : GBlk w2 ow2 w.heap.size cs := by obtain ⟨_, _, _, _, h1, _⟩ := hG2.books.ex; exact h1.blk
              have g0 := hG16.cells 0 (by omega)
              have gz := hG16.fz 0 (by omega)
              have gl := hG16.lt
              rw [HEA.out] at g0 row1
              have hfine : FineO (some (⟨max o.A 0, [], -1⟩ : DiskM)) k (tSum (ops.take k)) := fun m hm => by
                cases hm
                have := HOB.out.a1
                exact ⟨Nat.zero_le _, Nat.zero_le _, by simp only; omega, by simp only; omega, by simp only; omega, by simp only; omega⟩
              have HFI := hide hfine
              have HG1 := hide hG1
              have HW1 := hide hW1
              have HF1 := hide (f2.trans hF1 (fun _ x => x))
              clear hG1 hW1 hF1 hG16 hG2 hd2 f2 hp1 hb1 hr2 hb2 x2 b0 b1 b2 b3 b4 b5 b6 bl hfine
              go_wp2_with (at_builtin; refine wpList_append_laid _ rfl _ _ 26 rfl 0 44 j0 (.pointer none) 1 8 Tryz.underlying26 hj hj0 hj1 hj2 rfl (by decide) _ _ _ rfl (row1.alloc _) _ 1 1 [.pointer (some ⟨w2.heap.size, 0, none⟩)] rfl rfl (cells_new2' _ _ _ _) (ptr_one _) (by unfold maxLen; omega) (by omega) (Nat.zero_le _) ?_; intro v5 w5 hown5 hgrow5 hlaid5; obtain ⟨a5, c5, rfl⟩ := slice_owned hown5; obtain ⟨ow5, g5, G5, F5⟩ := HG1.out.append HW1.out HFI.out ((Below.refl _ _).alloc (Nat.le_refl _) (.cells #[.pointer (some ⟨w2.heap.size, 0, none⟩)] 44)) hown5 (by rw [HEA.out]; exact hgrow5) (by rw [HEA.out]; exact hlaid5); have y0 := g5.cells 0 (by omega); have z0 := g5.fz 0 (by omega))
              go_meet
              case rel => exact ⟨rfl, ⟨_, rfl⟩, ow5, s, _, _, G5.mono (by omega) (by rw [HTK.out]; omega), by rw [List.length_append, List.length_singleton]; omega, by omega, (HFB.out.trans (HF1.out.mono (fun _ x => x.elim)) (fun _ x => x)).trans (F5.mono (fun c hc => by omega)) (fun _ x => x)⟩
            · by_cases hk2 : o.kind = 2
              · have e1 : (o.kind == 1) = false := by rw [beq_eq_false_iff_ne]; exact hk1
                have e2 : (o.kind == 2) = true := by rw [beq_iff_eq]; exact hk2
                have d1 : decide (11 < o.kind) = false := decide_eq_false (by omega)
                obtain ⟨hG1, hW1, hF1⟩ := HGB.out.world (xv := .pointer none) (dv := .pointer none) (om := none) ⟨rfl, rfl⟩ 48
                obtain ⟨j0, hj, hj0, hj1, hj2⟩ := info_parts info_wld
                have row1 := hG1.row.row
                rw [ea] at row1
                have HG1 := hide hG1
                have HW1 := hide hW1
                have HF1 := hide hF1
                have HEA := hide ea
                have hwl' : ws.length ≤ 1048576 := by omega
                clear hG1 hW1 hF1 hrow hG16 ea gl
                go_wp2_with (at_builtin; refine wpList_append_laid _ rfl _ _ 26 rfl 0 44 j0 (.pointer none) 1 8 Tryz.underlying26 hj hj0 hj1 hj2 rfl (by decide) _ _ _ rfl (row1.alloc _) _ 1 1 [.pointer (some ⟨wb.heap.size, 0, none⟩)] rfl rfl (cells_new2' _ _ _ _) (ptr_one _) (by unfold maxLen; omega) (by omega) (Nat.zero_le _) ?_; intro v5 w5 hown5 hgrow5 hlaid5; obtain ⟨a5, c5, rfl⟩ := slice_owned hown5; obtain ⟨ow5, g5, G5, F5⟩ := HG1.out.append HW1.out (fun m hm => by cases hm) ((Below.refl _ _).alloc (Nat.le_refl _) (.cells #[.pointer (some ⟨wb.heap.size, 0, none⟩)] 44)) hown5 (by rw [HEA.out]; exact hgrow5) (by rw [HEA.out]; exact hlaid5); have y0 := g5.cells 0 (by omega); have z0 := g5.fz 0 (by omega))
                go_meet
                case rel => exact ⟨rfl, ⟨_, rfl⟩, ow5, s, _, _, G5.mono (by omega) (by rw [HTK.out]; omega), by rw [List.length_append, List.length_singleton]; omega, by omega, (HFB.out.trans (HF1.out.mono (fun _ x => x.elim)) (fun _ x => x)).trans (F5.mono (fun c hc => by omega)) (fun _ x => x)⟩
              · have e1 : (o.kind == 1) = false := by rw [beq_eq_false_iff_ne]; exact hk1
                have e2 : (o.kind == 2) = false := by rw [beq_eq_false_iff_ne]; exact hk2
                by_cases hw0 : 0 < ws.length
                · have d0 : decide ((0 : Int) < (ws.length : Int)) = true := decide_eq_true (by omega)
                  have d0' : (0 : Int) < (ws.length : Int) := by omega
                  obtain ⟨ag, rfl⟩ : ∃ ag, aa = some ⟨ag, 0, none⟩ := by
                    have hr := hrow.row.2
                    rw [ea] at hr
                    rcases hr with ⟨e, _⟩ | ⟨g, cap, cur, e, _⟩
                    · injection e with _ e _; omega
                    · injection e with e1 _ _; exact ⟨g, e1⟩
                  have hcode : owb ag = 2 := hrow.code ag (by rw [ea]; rfl)
                  have hcl := fun j (hj : j < ws.length) => row_cell (by have := hrow.row; rw [ea] at this; exact this) hj
                  have hagl := (hrow.row.lt ag (by rw [ea]; rfl)).2
                  have HCL := hide (fun j (hj : j < ws.length) => (show wb.drew.cell? ⟨ag, j, none⟩ = some (.pointer (some ⟨ws[j].B, 0, none⟩)) from hcl j hj))
                  have HDO := hide (fun ki (hki : ki < ws.length) => does_val (does_any wb.drew owb ki ws[ki].B w.heap.size k (tSum (ops.take k)) s cs ws[ki].xv ws[ki].dv ws[ki].om o ((HGB.out.drew).each ki hki).1 ((HGB.out.drew).each ki hki).2 (HGB.out.drew).books HOB.out.drew (by omega) (by omega) (by omega) (by omega)))
                  have HRO := hide (hrow.row)
                  have HBD := hide (HBX.out.drew)
                  have hw4 : ws.length ≤ 4194304 := by omega
                  have HW0 := hide HOB.out.w0
                  have HW1 := hide HOB.out.w1
                  have hS1 : wb.drew.cell? ⟨w.heap.size, 0, none⟩ = some (.slice (some ⟨ag, 0, none⟩) ws.length ac) ∧ wb.drew.cell? ⟨N, 0, none⟩ = some (.int .i64 o.kind) ∧ wb.drew.cell? ⟨N, 1, none⟩ = some (.int .i64 o.W) ∧ wb.drew.cell? ⟨N, 2, none⟩ = some (.int .i64 o.A) ∧ wb.drew.cell? ⟨N, 3, none⟩ = some (.int .i64 o.C) ∧ wb.drew.cell? ⟨N, 4, none⟩ = some (.string o.S) ∧ wb.drew.cell? ⟨N, 5, none⟩ = some (.string o.T) ∧ wb.drew.cell? ⟨N, 6, none⟩ = some (.slice o.la o.keep.length o.lc) ∧ (∀ j (hj : j < ws.length), wb.drew.cell? ⟨ag, j, none⟩ = some (.pointer (some ⟨ws[j].B, 0, none⟩))) := ⟨g0, b0, b1, b2, b3, b4, b5, b6, fun j hj => hcl j hj⟩
                  have HKE := hide (fun w2 ki (hki : ki < ws.length) (he : StepEnd wb.drew owb ki ws[ki].B w.heap.size k (tSum (ops.take k)) s cs ws[ki].xv ws[ki].dv o w2) => hold17 he HBX.out.drew HNB.out ea (show ag < wb.drew.heap.size from hagl) hcode hS1)
                  clear hcl hagl hcode hrow hG16 gz gl ea
                  rcases hd12 with d1 | ⟨d1, d2⟩
                  all_goals
                    go_upto_region 17 with fail
                    go_region_held (fun w' => w'.cell? ⟨w.heap.size, 0, none⟩ = some (.slice (some ⟨ag, 0, none⟩) ws.length ac) ∧ w'.cell? ⟨N, 0, none⟩ = some (.int .i64 o.kind) ∧ w'.cell? ⟨N, 1, none⟩ = some (.int .i64 o.W) ∧ w'.cell? ⟨N, 2, none⟩ = some (.int .i64 o.A) ∧ w'.cell? ⟨N, 3, none⟩ = some (.int .i64 o.C) ∧ w'.cell? ⟨N, 4, none⟩ = some (.string o.S) ∧ w'.cell? ⟨N, 5, none⟩ = some (.string o.T) ∧ w'.cell? ⟨N, 6, none⟩ = some (.slice o.la o.keep.length o.lc) ∧ (∀ j (hj : j < ws.length), w'.cell? ⟨ag, j, none⟩ = some (.pointer (some ⟨ws[j].B, 0, none⟩)))) (first | assumption | (exact hS1) | (exact HKE.out _ _ hki hstep)) (first
                      | (go_at_call 8; refine (pick_any o.W ws.length hw0 hw4 HW0.out HW1.out _).mono ?_; rintro e w1 ⟨ki, hki, rfl, rfl⟩; have rk := HCL.out ki hki; have hki1 : (ki : Int) < (ws.length : Int) := Int.ofNat_lt.2 hki; have hki0 : (0 : Int) ≤ (ki : Int) := Int.natCast_nonneg ki)
                      | (go_at_call 7; refine (HDO.out ki hki).mono ?_; rintro e w2 ⟨r, rfl, hstep⟩))
                    obtain ⟨ow2, s2, cs2, ws2, hG2, hl2, hs2, hF2⟩ := (HGB.out.drew).step hki hstep
                    go_wp2_with fail
                    go_meet
                    case rel => exact ⟨rfl, ⟨_, rfl⟩, ow2, s2, cs2, ws2, by rw [HTK.out]; exact hG2, by omega, by omega, (HFB.out.drew').trans (hF2.mono (fun c hc => by unfold StepT at hc; omega)) (fun _ x => x)⟩
                · have d0 : decide ((0 : Int) < (ws.length : Int)) = false := decide_eq_false (by omega)
                  have hw00 : ws.length = 0 := by omega
                  rcases hd12 with d1 | ⟨d1, d2⟩
                  · go_wp2_with fail
                    go_meet
                    case rel => exact ⟨rfl, ⟨_, rfl⟩, owb, s, cs, ws, HGB.out.mono (by omega) (by rw [HTK.out]; omega), by omega, by omega, HFB.out⟩
                  · go_wp2_with fail
                    go_meet
                    case rel => exact ⟨rfl, ⟨_, rfl⟩, owb, s, cs, ws, HGB.out.mono (by omega) (by rw [HTK.out]; omega), by omega, by omega, HFB.out⟩
        case rest =>
          obtain ⟨rfl, ⟨r, rfl⟩, ow2, s2, cs2, ws2, hG2, hwl2, hs2, hF2⟩ := hcut
          clear HGB HFB HOB HBX HNB
          go_wp2_with (go_at_call 9; refine (still_any wc ow2 w.heap.size s2 cs2 hG2.books (by omega)).mono ?_; rintro e w9 ⟨rfl, hb9⟩; have f9 := Fr.ofBelow ow2 hb9 (fun _ => False) 0)
          exact ⟨⟨k + 1, s2, _, cs2, ws2, by omega, by go_num, hG2.frame f9 (fun _ x => x.elim), hwl2, hs2, hF2.trans (f9.mono (fun _ x => x.elim)) (fun _ x => x)⟩, by simp [intOf]; omega⟩
    · have hx : ¬ (k : Int) < (ops.length : Int) := by omega
      go_wp2_with fail
      go_ret
      exact ⟨rfl, fr_below HF.out HALL.out⟩

end Go.Proofs.YthcnkbeognkjgaaGreatDoor
/-
  What the bound of the second form gives: of a text and a slice that are handed over together.
-/
namespace Go.Proofs.YthcnkbeognkjgaaGreatDoor
namespace Rl

theorem bulk_pos {H : Type} (d : DataW H) : 1 ≤ Rows.uptoBulk d := by
  cases d with
  | lit l => cases l <;> simp [Rows.uptoBulk]
  | nil => simp [Rows.uptoBulk]
  | ptr d => simp [Rows.uptoBulk]
  | slice elems spare => simp [Rows.uptoBulk]
  | agg parts => simp [Rows.uptoBulk]
  | iface t d => simp [Rows.uptoBulk]
  | map entries => simp [Rows.uptoBulk]
  | held h => simp [Rows.uptoBulk]

theorem bulk_len {H : Type} (l : List (DataW H)) : l.length ≤ Rows.uptoBulkAll l := by
  induction l with
  | nil => simp [Rows.uptoBulkAll]
  | cons x r ih => have := bulk_pos x; simp only [Rows.uptoBulkAll, List.length_cons]; omega

theorem bulk_bound {H : Type} {l : List (DataW H)} (hk : Rows.uptoSmall H l = true) : Rows.uptoBulkAll l ≤ 1048576 := of_decide_eq_true hk

theorem bulk_string {H : Type} (b : List UInt8) (r : List (DataW H)) (h : Rows.uptoBulkAll (DataW.lit (.string b) :: r) ≤ 1048576) : b.length ≤ 1048576 ∧ Rows.uptoBulkAll r ≤ 1048576 := by
  simp only [Rows.uptoBulkAll, Rows.uptoBulk] at h; omega

theorem bulk_slice {H : Type} (es sp : List (DataW H)) (r : List (DataW H)) (h : Rows.uptoBulkAll (DataW.slice es sp :: r) ≤ 1048576) : es.length ≤ 1048576 := by
  simp only [Rows.uptoBulkAll, Rows.uptoBulk] at h
  have := bulk_len es
  omega

end Rl
end Go.Proofs.YthcnkbeognkjgaaGreatDoor
/-
  A script that came in: a row of steps, each with a list of its own; what the bound of the second form gives of it.
-/
namespace Go.Proofs.YthcnkbeognkjgaaGreatDoor
open Go.ChangeShapes Go.WideShapes Go.ChangeAt Go.RowKit
namespace Rl

theorem i64_bounds {n : Int} (h : (Lit.int .i64 n).wf = true) : -9223372036854775808 ≤ n ∧ n ≤ 9223372036854775807 := by
  have e1 : IntKind.i64.min = -9223372036854775808 := by decide
  have e2 : IntKind.i64.max = 9223372036854775807 := by decide
  simp [Lit.wf] at h
  omega

theorem cells_int : Tryz.prog.cellsOf 3 = 1 := by kernel_rfl
theorem cells_str : Tryz.prog.cellsOf 9 = 1 := by kernel_rfl
theorem cells_row : Tryz.prog.cellsOf 31 = 1 := by kernel_rfl
theorem cells_op : Tryz.prog.cellsOf 39 = 7 := by kernel_rfl

theorem bulk_ge {H : Type} (l : List (DataW H)) : l.length ≤ Rows.uptoBulkAll l := bulk_len l

/-- a list of numbers that came in, and its bulk. -/
theorem opened_list {H : Type} {enc : TypeId × Value → H} {W : World} {v : Value} {fuel : Nat} {x : DataW H × List MemPlace} (h : DataW.trod enc Tryz.prog W 0 (fun _ => true) true fuel 31 [v] = some x) :
    ∃ (a : Option Addr) (c : Nat) (l : List Int), v = .slice a l.length c ∧ RowAt W (.slice a l.length c) l.length 1 (ints l) ∧ l.length + 1 ≤ Rows.uptoBulk x.1 := by
  rcases ChangeShapes.open_ints Tryz.underlying31 Tryz.underlying3 cells_int h with ⟨hcs, rfl⟩ | ⟨a', len', cap', zs, hcs, _, hl, hm, hz, rfl, hx, hwf⟩
  · simp only [List.cons.injEq, and_true] at hcs
    subst hcs
    exact ⟨none, 0, [], rfl, RowAt.nil _ _ _ _, by simp [Rows.uptoBulk]⟩
  · simp only [List.cons.injEq, and_true] at hcs
    subst hcs
    simp only [if_true] at hz
    have hlen : (zs.take len').length = len' := by simp; omega
    refine ⟨some a', cap', zs.take len', by rw [hlen], ?_, ?_⟩
    · rw [hlen]
      refine ⟨by simp [ints]; omega, ?_⟩
      by_cases h0 : len' = 0
      · subst h0; exact .inl ⟨_, _, rfl, rfl⟩
      · have hc0 := hx 0 (by omega)
        have hsp := World.cell?_spot hc0
        obtain ⟨b, o, spot⟩ := a'
        have hspot : spot = none := by simpa [Addr.add] using hsp
        subst hspot
        have hadd : ∀ j, (⟨b, o, none⟩ : Addr).add j = ⟨b, o + j, none⟩ := by intro j; unfold Addr.add; split <;> simp_all
        refine .inr ⟨b, o, cap', rfl, by omega, ?_, ?_⟩
        · have := World.block_lt_of_cell? _ _ hc0
          rw [hadd] at this
          exact this
        · intro j u hu
          unfold ints at hu
          rw [List.getElem?_map] at hu
          obtain ⟨z, hz1, rfl⟩ := Option.map_eq_some_iff.1 hu
          have hj : j < len' := by
            have := (List.getElem?_eq_some_iff.1 hz1).1
            omega
          have hc := hx j (by omega)
          rw [hadd] at hc
          rw [List.getElem?_take_of_lt hj] at hz1
          rw [hc, List.getD_eq_getElem?_getD, hz1]
          rfl
    · have hb := bulk_ge (H := H) (lits .i64 (zs.take len'))
      have hll : (lits (H := H) .i64 (zs.take len')).length = len' := by simp [lits]; omega
      simp only [Rows.uptoBulk]
      omega

/-- what a step holds. -/
def gSize (o : OpM) : Nat := o.S.size + o.T.size + o.keep.length + 1

/-- a step that came in. -/
structure GoodOp (W : World) (o : OpM) : Prop where
  a0 : -9223372036854775808 ≤ o.A
  a1 : o.A ≤ 9223372036854775807
  w0 : -9223372036854775808 ≤ o.W
  w1 : o.W ≤ 9223372036854775807
  row : RowAt W (.slice o.la o.keep.length o.lc) o.keep.length 1 (ints o.keep)

theorem data_len (s : ByteArray) : s.data.toList.length = s.size := by rw [Array.length_toList]; rfl

theorem bulk_op {H : Type} (k0 k1 k2 k3 : Int) (S T : ByteArray) (d : DataW H) (n : Nat) (h : n + 1 ≤ Rows.uptoBulk d) : S.size + T.size + n + 1 ≤ Rows.uptoBulk (.agg [.lit (.int .i64 k0), .lit (.int .i64 k1), .lit (.int .i64 k2), .lit (.int .i64 k3), .lit (.string S.data.toList), .lit (.string T.data.toList), d]) := by
  have e1 := data_len S
  have e2 := data_len T
  simp only [Rows.uptoBulk, Rows.uptoBulkAll]
  omega

set_option maxRecDepth 20000 in
theorem opened_op {H : Type} {enc : TypeId × Value → H} {W : World} {cs : List Value} {fuel : Nat} {x : DataW H × List MemPlace} (h : DataW.trod enc Tryz.prog W 0 (fun _ => true) true fuel 39 cs = some x) :
    ∃ o : OpM, cs = o.cells ∧ GoodOp W o ∧ gSize o ≤ Rows.uptoBulk x.1 := by
  obtain ⟨xs, n, _, rfl, hcl, hxl, hf⟩ := DataW.trod_struct Tryz.underlying39 h
  rw [cells_op] at hcl
  match xs, hxl, cs, hcl with
  | [y0, y1, y2, y3, y4, y5, y6], _, [v0, v1, v2, v3, v4, v5, v6], _ =>
    have g0 := hf 0 { name := "Kind", type := 3, offset := 0, embedded := false, tag := "", pkgPath := "", byteOffset := 0 } rfl
    have g1 := hf 1 { name := "W", type := 3, offset := 1, embedded := false, tag := "", pkgPath := "", byteOffset := 8 } rfl
    have g2 := hf 2 { name := "A", type := 3, offset := 2, embedded := false, tag := "", pkgPath := "", byteOffset := 16 } rfl
    have g3 := hf 3 { name := "B", type := 3, offset := 3, embedded := false, tag := "", pkgPath := "", byteOffset := 24 } rfl
    have g4 := hf 4 { name := "S", type := 9, offset := 4, embedded := false, tag := "", pkgPath := "", byteOffset := 32 } rfl
    have g5 := hf 5 { name := "T", type := 9, offset := 5, embedded := false, tag := "", pkgPath := "", byteOffset := 48 } rfl
    have g6 := hf 6 { name := "L", type := 31, offset := 6, embedded := false, tag := "", pkgPath := "", byteOffset := 64 } rfl
    simp only [cells_int, cells_str, cells_row, List.drop_zero, List.drop_succ_cons, List.take_succ_cons, List.take_zero, List.getElem?_cons_zero, List.getElem?_cons_succ] at g0 g1 g2 g3 g4 g5 g6
    obtain ⟨k0, e0, r0, q0⟩ := DataW.trod_int Tryz.underlying3 g0
    obtain ⟨k1, e1, r1, q1⟩ := DataW.trod_int Tryz.underlying3 g1
    obtain ⟨k2, e2, r2, q2⟩ := DataW.trod_int Tryz.underlying3 g2
    obtain ⟨k3, e3, r3, q3⟩ := DataW.trod_int Tryz.underlying3 g3
    obtain ⟨s4, e4, r4, q4⟩ := DataW.trod_string Tryz.underlying9 g4
    obtain ⟨s5, e5, r5, q5⟩ := DataW.trod_string Tryz.underlying9 g5
    obtain ⟨la, lc, l, e6, r6, q6⟩ := opened_list g6
    simp only [List.cons.injEq, and_true] at e0 e1 e2 e3 e4 e5
    subst e0 e1 e2 e3 e4 e5 e6 r0 r1 r2 r3 r4 r5
    obtain ⟨a0, a1⟩ := i64_bounds q2
    obtain ⟨b0, b1⟩ := i64_bounds q1
    refine ⟨⟨k0, k1, k2, k3, s4, s5, la, lc, l⟩, rfl, ⟨a0, a1, b0, b1, r6⟩, ?_⟩
    have hb := bulk_op (H := H) k0 k1 k2 k3 s4 s5 _ _ q6
    exact hb

def gSum : List OpM → Nat
  | [] => 0
  | o :: r => gSize o + gSum r

theorem gSum_all {H : Type} (f : Nat → OpM) (D : Nat → DataW H) : ∀ l : List Nat, (∀ i ∈ l, gSize (f i) ≤ Rows.uptoBulk (D i)) → gSum (l.map f) ≤ Rows.uptoBulkAll (l.map D) := by
  intro l
  induction l with
  | nil => intro _; simp [gSum]
  | cons a r ih =>
    intro h
    have h1 := h a (by simp)
    have h2 := ih (fun i hi => h i (by simp [hi]))
    simp only [List.map_cons, gSum, Rows.uptoBulkAll]
    omega

theorem gSum_len (l : List OpM) : l.length ≤ gSum l := by
  induction l with
  | nil => simp [gSum]
  | cons a r ih => simp only [gSum, List.length_cons, gSize]; omega

theorem gSum_t (l : List OpM) : tSum l ≤ gSum l := by
  induction l with
  | nil => simp [gSum, tSum]
  | cons a r ih => simp only [gSum, tSum, gSize]; omega

theorem gSum_mem {l : List OpM} {o : OpM} (h : o ∈ l) : gSize o ≤ gSum l := by
  induction l with
  | nil => cases h
  | cons a r ih =>
    simp only [gSum]
    rcases List.mem_cons.1 h with rfl | h
    · omega
    · have := ih h; omega

set_option maxRecDepth 20000 in
theorem opened_ops {H : Type} {enc : TypeId × Value → H} {W : World} {a : Option Addr} {len cap fuel : Nat} {x : DataW H × List MemPlace} (h : DataW.trod enc Tryz.prog W 0 (fun _ => true) true fuel 22 [.slice a len cap] = some x) :
    ∃ ops : List OpM, ops.length = len ∧ RowAt W (.slice a ops.length cap) ops.length 7 (opCells ops) ∧ (∀ o ∈ ops, GoodOp W o) ∧ gSum ops ≤ Rows.uptoBulk x.1 := by
  rcases Deep.open_slice Tryz.underlying22 h with ⟨hcs, rfl⟩ | ⟨a', len', cap', m, n, D, Pl, hcs, _, hl, hm, hmm, rfl, hx⟩
  · simp only [List.cons.injEq, Value.slice.injEq, and_true] at hcs
    obtain ⟨rfl, rfl, rfl⟩ := hcs
    exact ⟨[], rfl, RowAt.nil _ _ _ _, by simp, by simp [gSum]⟩
  · simp only [List.cons.injEq, Value.slice.injEq, and_true] at hcs
    obtain ⟨rfl, rfl, rfl⟩ := hcs
    simp only [if_true] at hmm
    haveI : Inhabited OpM := ⟨⟨0, 0, 0, 0, ⟨#[]⟩, ⟨#[]⟩, none, 0, []⟩⟩
    have each : ∀ i, i < len → ∃ o : OpM, W.cells? 0 (a'.add (i * 7)) 7 = some o.cells ∧ GoodOp W o ∧ gSize o ≤ Rows.uptoBulk (D i) := by
      intro i hi
      obtain ⟨cs', h1, h2⟩ := hx i (by omega)
      rw [cells_op] at h1
      obtain ⟨o, rfl, ho, hb⟩ := opened_op h2
      exact ⟨o, h1, ho, hb⟩
    obtain ⟨f, hf⟩ := Deep.choose_lt each
    have hlen : ((List.range len).map f).length = len := by simp
    have hget : ∀ j (hj : j < ((List.range len).map f).length), ((List.range len).map f)[j] = f j := by intro j hj; simp
    refine ⟨(List.range len).map f, hlen, ?_, ?_, ?_⟩
    · rw [hlen]
      refine ⟨by rw [opCells_length, hlen], ?_⟩
      by_cases h0 : len = 0
      · subst h0; exact .inl ⟨_, _, rfl, rfl⟩
      · obtain ⟨_, _, hc0⟩ := World.cells?_some (hf 0 (by omega)).1
        have hcc : W.cell? ((a'.add (0 * 7)).add 0) = some (.int .i64 (f 0).kind) := hc0 0 (by omega)
        have hsp := World.cell?_spot hcc
        obtain ⟨b, o, spot⟩ := a'
        have hspot : spot = none := by simpa [Addr.add] using hsp
        subst hspot
        have hadd : ∀ j, (⟨b, o, none⟩ : Addr).add j = ⟨b, o + j, none⟩ := by intro j; unfold Addr.add; split <;> simp_all
        have hadd2 : ∀ i j, ((⟨b, o, none⟩ : Addr).add i).add j = ⟨b, o + i + j, none⟩ := by intro i j; rw [hadd]; unfold Addr.add; split <;> simp_all
        refine .inr ⟨b, o, cap, rfl, by omega, ?_, ?_⟩
        · have := World.block_lt_of_cell? _ _ hcc
          rw [hadd2] at this
          exact this
        · intro j u hu
          have hj : j < len * 7 := by
            have := (List.getElem?_eq_some_iff.1 hu).1
            rwa [opCells_length, hlen] at this
          have hk : j / 7 < ((List.range len).map f).length := by rw [hlen]; omega
          obtain ⟨g0, g1, g2, g3, g4, g5, g6⟩ := opCells_get ((List.range len).map f) (j / 7) hk
          rw [hget] at g0 g1 g2 g3 g4 g5 g6
          obtain ⟨_, hcl, hcell⟩ := World.cells?_some (hf (j / 7) (by omega)).1
          have hd : j = j / 7 * 7 + j % 7 := by omega
          have hr : j % 7 < 7 := Nat.mod_lt _ (by omega)
          have hce := hcell (j % 7) hr
          rw [hadd2, Nat.add_assoc, ← hd] at hce
          rw [hce]
          rw [← hu]
          have gg : ∀ r, r < 7 → (opCells ((List.range len).map f))[j / 7 * 7 + r]? = (f (j / 7)).cells[r]? := by
            intro r hr
            match r, hr with
            | 0, _ => exact g0
            | 1, _ => exact g1
            | 2, _ => exact g2
            | 3, _ => exact g3
            | 4, _ => exact g4
            | 5, _ => exact g5
            | 6, _ => exact g6
            | n + 7, h => exact absurd h (by omega)
          have := gg (j % 7) hr
          rw [← hd] at this
          exact this.symm
    · intro o ho
      obtain ⟨i, hi, rfl⟩ := List.mem_map.1 ho
      exact (hf i (List.mem_range.1 hi)).2.1
    · have hs := gSum_all f D (List.range len) (fun i hi => (hf i (List.mem_range.1 hi)).2.2)
      simp only [Rows.uptoBulk]
      omega

end Rl
end Go.Proofs.YthcnkbeognkjgaaGreatDoor
/-
  A call that stands alone at its return only leaves: from a row that says nothing of leaving to the one that does. Nothing of the program is named here.
-/
namespace Go.Proofs.YthcnkbeognkjgaaGreatDoor

theorem quiet_leaves {P : Program} {m : Machine} (h : m.quiet) : m.OnlyLeaving P :=
  ⟨fun g hg => Leave.done P g (by have := List.all_eq_true.1 h.1 g hg; simpa using this), h.2⟩

theorem alone_leaves {P : Program} {m : Machine} {w : World} {t : Trace} (h : aloneAtReturn P m w t) : leavingAtReturn P m w t := ⟨h.2.1, quiet_leaves h.1, h.2.2⟩

theorem leaving_of_lone {p : Pinned} {s : OpenSpec} {c : OpenClaim} (hl : c.leaving = true) (hst : c.start = .entering) (hstops : c.stops = []) (hwf : c.wf s = true) (h : ({ c with leaving := false } : OpenClaim).holds p s) : c.holds p s := by
  unfold OpenClaim.holds at h ⊢
  refine ⟨hwf, ?_⟩
  replace h := h.2
  repeat (obtain ⟨a, h⟩ := h; refine ⟨a, ?_⟩)
  intro os w q H enc inj
  have h' := h os w q H enc inj
  unfold OpenClaim.form at h' ⊢
  simp only [hst, hstops] at h' ⊢
  intro F
  refine ReturnsInOpen.mono (fun m u t x => ?_) (fun _ x => x) (h' F)
  unfold OpenClaim.atReturn at x ⊢
  rw [hl]
  exact alone_leaves x

/-- a tied card of a call that can start goroutines: no alternatives, no companion. -/
theorem tied_goes (Lk : Looks) {p : Pinned} {s : OpenSpec} {c : OpenClaim} (kinds : List LaidKind) (tests : Bool) (har : Bool × String) (lk : Bool)
    (hc : c.holds p s) (hw : c.wfByText s = true) (htie : c.laidByTextAt Lk p kinds tests)
    (hst : c.start = .entering) (hnb : c.noBlocks = false ∧ c.again = false) (hm : p.checked.prog.mainIs = some (har.1, har.2.toList)) (hn : (!har.1 && har.2.isEmpty && !lk) = false)
    (hl : ∀ f fn, p.checked.prog.funcNamed c.func = some f → p.checked.prog.funcs[f]? = some fn → lk = p.checked.prog.looks [] ∧ ∀ (j : Nat) t, fn.params[j]? = some t → p.checked.prog.wantsStandIn t = false)
    (hg : true = c.goesBy p.checked.prog) :
    Claim7.holds p (.plain s) { stood := { row := c, standIns := [], harness := har, looks := lk }, kinds := [], alts := [], laidByText := true, laidKinds := kinds, laidTests := tests, laidLooks := Lk, goes := true } := by
  have h6 : Claim7.isSixth { stood := { row := c, standIns := [], harness := har, looks := lk }, kinds := [] } = false := by simpa [Claim7.isSixth] using hn
  exact ⟨Claim7.tied_new_at Lk kinds tests (Claim7.new_of_sixth hc har lk hst hnb hm h6 hl) hw, fun D hD => (by cases hD), htie, (fun h => by cases h), hg⟩

end Go.Proofs.YthcnkbeognkjgaaGreatDoor
