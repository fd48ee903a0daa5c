/-
  Contracts of the document's own answers for graphs: Reach and Free.
-/
import Derived.Test.YtakoceablbgchaaDoorMatRef2
import Derived.Deep.LoopGhost
namespace Go.Proofs.YtakoceablbgchaaDoor
open Go.RowKit
namespace Mm
/-- all that came in, and all whose edges were looked at. -/
structure InvR (nx : Nat → Nat) (x R X H : Nat) : Prop where
  xlt : X < 4294967296
  sub : ∀ j, H.testBit j = true → X.testBit j = true
  start : ∀ j, x.testBit j = true → X.testBit j = true
  sound : ∀ j, X.testBit j = true → R.testBit j = true
  step : ∀ i j, H.testBit i = true → (nx i).testBit j = true → X.testBit j = true
theorem InvR.hlt {nx : Nat → Nat} {x R X H : Nat} (h : InvR nx x R X H) : H < 4294967296 := lt32 fun j hj => test32 h.xlt (h.sub j hj)
theorem invR_first {nx : Nat → Nat} {x R : Nat} (h : Least nx x R) (hx : x < 4294967296) : InvR nx x R x 0 :=
  ⟨hx, fun j hj => by simp at hj, fun j hj => hj, h.start, fun i j hi => by simp at hi⟩
theorem invR_last {nx : Nat → Nat} {x R X : Nat} (h : Least nx x R) (hi : InvR nx x R X X) : X = R := by
  apply Sm.ext; intro j
  rw [Bool.eq_iff_iff]
  exact ⟨hi.sound j, h.least X hi.start hi.step j⟩
theorem invR_next {nx : Nat → Nat} {x R X H b : Nat} (h : Least nx x R) (hn : ∀ i, nx i < 4294967296) (hi : InvR nx x R X H) (hb : X.testBit b = true) (hh : H.testBit b = false) :
    InvR nx x R (X ||| nx b) (Sm.add H (b : Int)) ∧ H < Sm.add H (b : Int) := by
  have hb32 := test32 hi.xlt hb
  refine ⟨⟨or_lt32 hi.xlt (hn b), fun j hj => ?_, fun j hj => ?_, fun j hj => ?_, fun i j h1 h2 => ?_⟩, ?_⟩
  · rw [add_same hb32] at hj
    rw [Nat.testBit_or]
    simp only [Bool.or_eq_true, decide_eq_true_eq] at hj ⊢
    rcases hj with hj | rfl
    · exact .inl (hi.sub j hj)
    · exact .inl hb
  · rw [Nat.testBit_or, hi.start j hj]; rfl
  · rw [Nat.testBit_or, Bool.or_eq_true] at hj
    rcases hj with hj | hj
    · exact hi.sound j hj
    · exact h.step b j (hi.sound b hb) hj
  · rw [add_same hb32] at h1
    rw [Nat.testBit_or, Bool.or_eq_true]
    simp only [Bool.or_eq_true, decide_eq_true_eq] at h1
    rcases h1 with h1 | rfl
    · exact .inl (hi.step i j h1 h2)
    · exact .inr h2
  · apply Nat.lt_of_le_of_ne (show H ≤ H ||| Sm.bit (b : Int) from Nat.left_le_or)
    intro he
    have h4 : H.testBit b = (Sm.add H (b : Int)).testBit b := congrArg (fun n => n.testBit b) he
    rw [add_same hb32, hh] at h4
    simp at h4
end Mm
/-- x, and of y what is below k. -/
def orTo (x y k : Nat) : Nat := x ||| (y % pw k)
theorem orTo_zero (x y : Nat) : orTo x y 0 = x := by
  unfold orTo pw
  have : y % 2 ^ 0 = 0 := by rw [Nat.pow_zero, Nat.mod_one]
  rw [this, Nat.or_zero]
theorem orTo_all {x y : Nat} (h : y < 4294967296) : orTo x y 32 = x ||| y := by
  unfold orTo pw
  rw [Nat.mod_eq_of_lt (by simpa using h)]
theorem orTo_test (x y k j : Nat) : (orTo x y k).testBit j = (x.testBit j || (decide (j < k) && y.testBit j)) := by
  unfold orTo pw
  rw [Nat.testBit_or, Nat.testBit_mod_two_pow]
theorem orTo_at (x y k : Nat) : (orTo x y k).testBit k = x.testBit k := by rw [orTo_test]; simp
theorem orTo_step (x y k j : Nat) : (orTo x y (k + 1)).testBit j = if j = k then (x.testBit k || y.testBit k) else (orTo x y k).testBit j := by
  rw [orTo_test, orTo_test]
  by_cases h : j = k
  · subst h; simp
  · rw [if_neg h]
    congr 2
    rw [decide_eq_decide]; omega
theorem bitArr_none : bitArr 0 64 = Array.replicate 64 (Value.bool false) := by
  apply Array.ext_getElem?
  intro i
  by_cases h : i < 64
  · rw [bitArr_get 0 64 i h]; simp [h]
  · rw [Array.getElem?_eq_none (by rw [bitArr_size]; omega), Array.getElem?_eq_none (by simp; omega)]
theorem bitsAt_none (w : World) : BitsAt (w.alloc (.cells (Array.replicate 64 (Value.bool false)) 99)) w.heap.size 0 := by
  unfold BitsAt; rw [bitArr_none]; exact heap_alloc_new _ _
structure RSt (m : Mm.Gr) (w : World) (g X H : Nat) (wr : World) : Prop where
  inn : MatAt wr w.heap.size m 35
  has : BitsAt wr g X
  had : BitsAt wr (g + 1) H
  bel : Below w.heap.size w wr
theorem RSt.below {m : Mm.Gr} {w W W' : World} {g X H : Nat} (h : RSt m w g X H W) (hb : Below W.heap.size W W') : RSt m w g X H W' :=
  ⟨h.inn.below hb, h.has.below hb, h.had.below hb, h.bel.trans (hb.mono h.bel.size)⟩
theorem RSt.alloc {m : Mm.Gr} {w W : World} {g X H : Nat} (h : RSt m w g X H W) (o : Obj) : RSt m w g X H (W.alloc o) := h.below ((Below.refl _ _).alloc (Nat.le_refl _) _)
theorem RSt.setHad {m : Mm.Gr} {w W : World} {g X H K k : Nat} {b : Bool} (h : RSt m w g X H W) (hg : w.heap.size < g) (hy : ∀ j, j < 64 → K.testBit j = if j = k then b else H.testBit j) : RSt m w g X K (W.setCell ⟨g + 1, k, none⟩ (.bool b)) :=
  ⟨h.inn.setCell _ _ (by simp; omega), h.has.setCell _ _ (by simp), bitsAt_cell h.had hy, h.bel.setCell (by simp; omega) _⟩
theorem RSt.setHas {m : Mm.Gr} {w W : World} {g X H K k : Nat} {b : Bool} (h : RSt m w g X H W) (hg : w.heap.size < g) (hy : ∀ j, j < 64 → K.testBit j = if j = k then b else X.testBit j) : RSt m w g K H (W.setCell ⟨g, k, none⟩ (.bool b)) :=
  ⟨h.inn.setCell _ _ (by simp; omega), bitsAt_cell h.has hy, h.had.setCell _ _ (by simp), h.bel.setCell (by simp; omega) _⟩
def RRel (m : Mm.Gr) (x R g : Nat) (w : World) (n : Nat) (more : Value) (wr : World) : Prop :=
  ∃ X H b, more = .bool b ∧ Mm.InvR (Mm.outs m) x R X H ∧ RSt m w g X H wr ∧ (b = false → X = H) ∧ 2 * (4294967296 - H) + (if b then 1 else 0) ≤ n
def MRel (m : Mm.Gr) (x R g H0 : Nat) (w : World) (more i : Value) (wr : World) : Prop :=
  ∃ X H b k, more = .bool b ∧ i = .int .i64 (k : Nat) ∧ k ≤ 32 ∧ Mm.InvR (Mm.outs m) x R X H ∧ RSt m w g X H wr ∧ H0 ≤ H ∧ (b = true → H0 < H) ∧ (b = false → ∀ j, j < k → X.testBit j = true → H.testBit j = true)
def CRel (m : Mm.Gr) (g gO X Y H : Nat) (w : World) (i : Value) (wr : World) : Prop :=
  ∃ k, i = .int .i64 (k : Nat) ∧ k ≤ 32 ∧ RSt m w g (orTo X Y k) H wr ∧ BitsAt wr gO Y
theorem add_bits {H b : Nat} (hb : b < 32) (j : Nat) (_ : j < 64) : (Sm.add H (b : Int)).testBit j = if j = b then true else H.testBit j := by
  rw [Mm.add_same hb]
  by_cases h : j = b
  · simp [h]
  · simp [h]
theorem mid_end {X H : Nat} (hX : X < 4294967296) (h1 : ∀ j, H.testBit j = true → X.testBit j = true) (h2 : ∀ j, j < 32 → X.testBit j = true → H.testBit j = true) : X = H := by
  apply Sm.ext; intro j
  rw [Bool.eq_iff_iff]
  exact ⟨fun h => h2 j (Mm.test32 hX h) h, h1 j⟩
set_option maxHeartbeats 4000000 in
set_option maxRecDepth 100000 in
theorem rreach_core (m : Mm.Gr) (a : Int) (x R : Nat) (w : World) (hm : Mm.Ok m) (hx : x < 4294967296) (hR : Mm.Least (Mm.outs m) x R)
    (hO : ∀ W, Calls Tryd.prog 60 #[.agg (matA m), .int .i64 a] W fun e W' => e = .returned (.int .u64 (x : Nat)) ∧ Below W.heap.size W W') :
    Calls Tryd.prog 73 #[.agg (matA m), .int .i64 a] w fun e w' => e = .returned (.int .u64 (R : Nat)) ∧ Below w.heap.size w w' := by
  have HR := Lib.hid hR
  have HOut := Lib.hid hO
  have hx64 : x < 18446744073709551616 := by omega
  clear hR hO
  go_enter Tryd.func73, Tryd.ntmps73
  go_wp2_with (refine wpList_load_row rfl 35 (.tmp 2) rfl w.heap.size rfl 35 (matA m) (0, 0) _ (matAt_new _ _ _) Tryd.underlying35 rfl (rmatInfo m) ?_)
  refine (HOut.out _).mono ?_
  rintro e w1 ⟨rfl, hb1⟩
  go_wp2_with fail
  refine (bits_any _ _ hx64).mono ?_
  rintro e w2 ⟨rfl, hb2⟩
  have hs1 := hb1.size
  have hs2 := hb2.size
  have hg : w.heap.size < w2.heap.size := by simp at hs1; omega
  have HS := Lib.hid (show RSt m w w2.heap.size x 0 ((w2.alloc (.cells (bitArr x 64) 99)).alloc (.cells (Array.replicate 64 (Value.bool false)) 99)) from by
    have h0 : Below w.heap.size w (w.alloc (.cells (matA m) 35)) := (Below.refl _ _).alloc (Nat.le_refl _) _
    have h1 := h0.trans (hb1.mono h0.size)
    have h2 := h1.trans (hb2.mono h1.size)
    refine ⟨((((matAt_new w m 35).below hb1).below hb2).alloc _).alloc _, (bitsAt_new _ _).alloc _, ?_, (h2.alloc h2.size _).alloc (by have := h2.size; simp; omega) _⟩
    have := bitsAt_none (w2.alloc (.cells (bitArr x 64) 99))
    simpa using this)
  clear hb1 hb2 hs1 hs2
  go_wp2_with (refine wpList_store_row rfl 99 (.tmp 5) (.tmp 14) rfl w2.heap.size (bitArr x 64) rfl rfl 99 _ (heap_alloc_new _ _) (boolInfo _) (by rw [bitArr_size]; rfl) (bitArr_one _ _) ?_; rw [World.setRow_alloc_new])
  generalize hG : w2.heap.size = g at *
  have HG := Lib.hid hG
  clear hG
  go_loopg [7] 8589934593 (RRel m x R g w)
  case atStart => exact ⟨x, 0, true, rfl, Mm.invR_first HR.out hx, HS.out, (fun h => by cases h), by decide⟩
  case round =>
    obtain ⟨X, H, b, rfl, hi, hS, hbH, hn⟩ := hrel
    have HI := Lib.hid hi
    have HSr := Lib.hid hS
    have HBH := Lib.hid hbH
    have HN := Lib.hid hn
    have hX := hi.xlt
    have hH := hi.hlt
    have hX64 : X < 18446744073709551616 := by omega
    clear hi hS hbH hn HS
    cases b
    · have HE := Lib.hid (show X = R from by
        have e := HBH.out rfl
        exact Mm.invR_last HR.out (by have h := HI.out; rw [← e] at h; exact h))
      go_wp2_with (first
        | (refine wpList_load_row rfl 99 (.tmp 5) rfl g rfl 99 (bitArr X 64) (0, 0) _ HSr.out.has Tryd.underlying99 rfl (boolInfo _) ?_)
        | (go_at_call 80; refine (sum_any X _ hX64).mono ?_; rintro e w3 ⟨rfl, hb3⟩))
      go_ret
      rw [HE.out]
      exact ⟨rfl, (HSr.out.below hb3).bel⟩
    · go_wp2
      go_loopw [7, 8] (MRel m x R g H w) (fun _ i _ => 32 - (intOf i).toNat)
      case atStart => exact ⟨X, H, false, 0, rfl, rfl, by omega, HI.out, HSr.out, Nat.le_refl _, (fun h => by cases h), fun _ j hj => absurd hj (by omega)⟩
      case round =>
        obtain ⟨X', H', b', k, rfl, rfl, hk, hi, hS, hle, hb1, hb2⟩ := hrel
        have HI' := Lib.hid hi
        have HS' := Lib.hid hS
        have HLE := Lib.hid hle
        have HB1 := Lib.hid hb1
        have HB2 := Lib.hid hb2
        have hX' := hi.xlt
        clear hi hle hb1 hb2
        by_cases hlt : k < 32
        · have hc1 := hS.has.cell k (by omega)
          have hc2 := hS.had.cell k (by omega)
          have hf2 := hS.had.frozen k
          clear hS
          cases ht : X'.testBit k
          · rw [ht] at hc1
            have HT := Lib.hid ht
            clear ht
            go_wp2
            refine ⟨⟨X', H', b', k + 1, rfl, by go_num, by omega, HI'.out, HS'.out, HLE.out, HB1.out, fun hb j hj hx => ?_⟩, by simp [intOf]; omega⟩
            by_cases hjk : j = k
            · subst hjk; rw [HT.out] at hx; cases hx
            · exact HB2.out hb j (by omega) hx
          · rw [ht] at hc1
            have HT := Lib.hid ht
            clear ht
            cases hh : H'.testBit k
            · rw [hh] at hc2
              have HH := Lib.hid hh
              clear hh
              obtain ⟨hin, hgt⟩ := Mm.invR_next HR.out (Mm.outs_lt m) HI'.out HT.out HH.out
              have HIN := Lib.hid hin
              have HGT := Lib.hid hgt
              have HSa := Lib.hid (HS'.out.setHad (k := k) (b := true) hg (add_bits hlt))
              clear hin hgt
              have ho32 := Mm.outs_lt m k
              have ho64 : Mm.outs m k < 18446744073709551616 := by omega
              go_wp2_with (refine wpList_load_row rfl 35 (.tmp 2) rfl w.heap.size rfl 35 (matA m) (0, 0) _ HSa.out.inn Tryd.underlying35 rfl (rmatInfo m) ?_)
              refine (routs_in m k _ hm hlt).mono ?_
              rintro e w3 ⟨rfl, hb3⟩
              go_wp2_with fail
              refine (bits_any _ _ ho64).mono ?_
              rintro e w4 ⟨rfl, hb4⟩
              have hS4 := (HSa.out.below hb3).below hb4
              have hgO : w4.heap.size ≠ g := by have := hS4.has.lt; omega
              have HS4 := Lib.hid (hS4.alloc (.cells (bitArr (Mm.outs m k) 64) 99))
              have HBO := Lib.hid (bitsAt_new w4 (Mm.outs m k))
              clear hS4 hb3 hb4 hc1 hc2 hf2 HSa HS'
              go_wp2_with (refine wpList_store_row rfl 99 (.tmp 9) (.tmp 34) rfl w4.heap.size (bitArr (Mm.outs m k) 64) rfl rfl 99 _ (heap_alloc_new _ _) (boolInfo _) (by rw [bitArr_size]; rfl) (bitArr_one _ _) ?_; rw [World.setRow_alloc_new])
              go_loopw [10] (CRel m g w4.heap.size X' (Mm.outs m k) (Sm.add H' (k : Int)) w) (fun i _ => 32 - (intOf i).toNat)
              case atStart => exact ⟨0, rfl, by omega, by rw [orTo_zero]; exact HS4.out, HBO.out⟩
              case round =>
                obtain ⟨c, rfl, hc, hS, hO⟩ := hrel
                have HSc := Lib.hid hS
                have HOc := Lib.hid hO
                by_cases hcl : c < 32
                · have d1 := hS.has.cell c (by omega)
                  have d2 := hS.has.frozen c
                  have d3 := hO.cell c (by omega)
                  rw [orTo_at] at d1
                  clear hS hO
                  cases hx1 : X'.testBit c
                  · rw [hx1] at d1
                    cases hy1 : (Mm.outs m k).testBit c
                    · rw [hy1] at d3
                      have HST := Lib.hid (fun j (_ : j < 64) => by have := orTo_step X' (Mm.outs m k) c j; rw [hx1, hy1] at this; exact this)
                      clear hx1 hy1
                      go_wp2
                      exact ⟨⟨c + 1, by go_num, by omega, HSc.out.setHas hg HST.out, HOc.out.setCell _ _ (by simpa using hgO)⟩, by simp [intOf]; omega⟩
                    · rw [hy1] at d3
                      have HST := Lib.hid (fun j (_ : j < 64) => by have := orTo_step X' (Mm.outs m k) c j; rw [hx1, hy1] at this; exact this)
                      clear hx1 hy1
                      go_wp2
                      exact ⟨⟨c + 1, by go_num, by omega, HSc.out.setHas hg HST.out, HOc.out.setCell _ _ (by simpa using hgO)⟩, by simp [intOf]; omega⟩
                  · rw [hx1] at d1
                    have HST := Lib.hid (fun j (_ : j < 64) => by have := orTo_step X' (Mm.outs m k) c j; rw [hx1, Bool.true_or] at this; exact this)
                    clear hx1
                    go_wp2
                    exact ⟨⟨c + 1, by go_num, by omega, HSc.out.setHas hg HST.out, HOc.out.setCell _ _ (by simpa using hgO)⟩, by simp [intOf]; omega⟩
                · obtain rfl : c = 32 := by omega
                  clear hS hO
                  have HA := Lib.hid (show RSt m w g (X' ||| Mm.outs m k) (Sm.add H' (k : Int)) wr from by have h := HSc.out; rw [orTo_all ho32] at h; exact h)
                  go_wp2
                  refine ⟨⟨X' ||| Mm.outs m k, Sm.add H' (k : Int), true, k + 1, rfl, by go_num, by omega, HIN.out, HA.out, Nat.le_trans HLE.out (Nat.le_of_lt HGT.out), fun _ => Nat.lt_of_le_of_lt HLE.out HGT.out, fun h => by cases h⟩, by simp [intOf]; omega⟩
            · rw [hh] at hc2
              have HH := Lib.hid hh
              clear hh
              go_wp2
              refine ⟨⟨X', H', b', k + 1, rfl, by go_num, by omega, HI'.out, HS'.out, HLE.out, HB1.out, fun hb j hj hx => ?_⟩, by simp [intOf]; omega⟩
              by_cases hjk : j = k
              · subst hjk; exact HH.out
              · exact HB2.out hb j (by omega) hx
        · obtain rfl : k = 32 := by omega
          clear hS
          have HM := Lib.hid (show 2 * (4294967296 - H') + (if b' then 1 else 0) < gk ∧ (b' = false → X' = H') from by
            have h1 := HN.out
            have h2 := HI'.out.hlt
            refine ⟨?_, fun hb => mid_end hX' HI'.out.sub (HB2.out hb)⟩
            simp only [if_true] at h1
            cases b'
            · have := HLE.out
              simp; omega
            · have := HB1.out rfl
              simp; omega)
          go_wp2
          go_roundg (2 * (4294967296 - H') + (if b' then 1 else 0))
          case measure => exact HM.out.1
          case rel => exact ⟨X', H', b', rfl, HI'.out, HS'.out, HM.out.2, Nat.le_refl _⟩
theorem rreach_in (m : Mm.Gr) (a : Nat) (w : World) (hm : Mm.Ok m) (ha : a < 32) :
    Calls Tryd.prog 73 #[.agg (matA m), .int .i64 (a : Nat)] w fun e w' => e = .returned (.int .u64 (Mm.ways (Mm.E m) a : Nat)) ∧ Below w.heap.size w w' :=
  rreach_core m a _ _ w hm (Mm.outs_lt m a) (Mm.least_outs m a) (fun W => routs_in m a W hm ha)
theorem rreach_far (m : Mm.Gr) (a : Int) (w : World) (hm : Mm.Ok m) (ha : Far a) :
    Calls Tryd.prog 73 #[.agg (matA m), .int .i64 a] w fun e w' => e = .returned (.int .u64 0) ∧ Below w.heap.size w w' :=
  rreach_core m a 0 0 w hm (by decide) (Mm.least_zero _) (fun W => routs_far m a W ha)
def RFreeRel (m : Mm.Gr) (w : World) (i : Value) (wr : World) : Prop :=
  ∃ k : Nat, k ≤ 32 ∧ i = .int .i64 k ∧ (∀ j, j < k → ¬ Mm.W (Mm.E m) j j) ∧ MatAt wr w.heap.size m 35 ∧ Below w.heap.size w wr
theorem rhasN_val (x k : Nat) (b : Bool) (w : World) (hx : x < 18446744073709551616) (hk : k < 64) (h : x.testBit k = b) :
    Calls Tryd.prog 39 #[.int .u64 x, .int .i64 (k : Nat)] w fun e w' => e = .returned (.bool b) ∧ w = w' :=
  rhas_val x (k : Nat) b w hx (by omega) (by omega) (by rw [Sm.has_nat k hx, h])
end Go.Proofs.YtakoceablbgchaaDoor
