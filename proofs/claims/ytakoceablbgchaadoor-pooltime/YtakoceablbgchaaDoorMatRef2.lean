/-
  Contracts of the document's own answers for graphs: Turn, and Sum of sets.
-/
import Derived.Test.YtakoceablbgchaaDoorMatRef1
namespace Go.Proofs.YtakoceablbgchaaDoor
open Go.RowKit
/-- all edges the other way. -/
def turn (m : Mm.Gr) : Mm.Gr := fun j => insTo m j 32
theorem insTo_32 {m : Mm.Gr} {j k : Nat} (hk : k ≤ 64) : insTo m j k < pw k := by
  have h : ∀ i, (insTo m j k).testBit i = true → i < k := fun i hi => by
    unfold insTo at hi
    rw [Mm.mk_test _ _ _ hk] at hi
    simp at hi
    exact hi.1
  exact Nat.lt_pow_two_of_testBit _ fun i hi => by
    cases hb : (insTo m j k).testBit i
    · rfl
    · have := h i hb; omega
theorem turn_lt (m : Mm.Gr) (j : Nat) : turn m j < 4294967296 := insTo_32 (by decide)
theorem turn_ok (m : Mm.Gr) : Mm.Ok (turn m) := fun i _ => by have := turn_lt m i; omega
theorem turn_E (m : Mm.Gr) (i j : Nat) : Mm.E (turn m) i j ↔ Mm.E m j i := by
  unfold Mm.E turn insTo
  rw [Mm.mk_test _ _ _ (by decide)]
  simp
  constructor
  · rintro ⟨h1, h2, h3⟩; exact ⟨h2, h1, h3⟩
  · rintro ⟨h1, h2, h3⟩; exact ⟨h2, h1, h3⟩
theorem turn_outs (m : Mm.Gr) (i : Nat) : Mm.outs (turn m) i = Mm.ins m i := by
  apply Sm.ext; intro j
  rw [Bool.eq_iff_iff, Mm.outs_test, Mm.ins_test, turn_E]
/-- the first k columns, and of the next one those of the first b rows. -/
def turnTo (m : Mm.Gr) (k b : Nat) : Mm.Gr := fun j => if j < b then insTo m j (k + 1) else insTo m j k
theorem turnTo_next (m : Mm.Gr) (k j : Nat) (h : j < 32) : turnTo m k 32 j = turnTo m (k + 1) 0 j := by unfold turnTo; rw [if_pos h, if_neg (by omega)]
theorem turnTo_all (m : Mm.Gr) (j : Nat) : turnTo m 32 0 j = turn m j := by unfold turnTo turn; rw [if_neg (by omega)]
theorem turnTo_zero (m : Mm.Gr) (j : Nat) : zeroM j = turnTo m 0 0 j := by unfold turnTo zeroM insTo; rw [if_neg (by omega)]; rfl
theorem turnTo_no {m : Mm.Gr} {k b : Nat} (h : (m k).testBit b = false) (j : Nat) : turnTo m k b j = turnTo m k (b + 1) j := by
  unfold turnTo
  by_cases hj : j = b
  · subst hj
    rw [if_neg (by omega), if_pos (by omega)]
    exact insTo_no h
  · by_cases h2 : j < b
    · rw [if_pos h2, if_pos (by omega)]
    · rw [if_neg h2, if_neg (by omega)]
theorem turnTo_yes {m : Mm.Gr} {k b : Nat} (hk : k < 32) (h : (m k).testBit b = true) (j : Nat) : (if j = b then insTo m b k + pw k else turnTo m k b j) = turnTo m k (b + 1) j := by
  unfold turnTo
  by_cases hj : j = b
  · subst hj
    rw [if_pos rfl, if_pos (by omega), ← insTo_yes h]
    refine (add_not (by omega) ?_).symm
    unfold insTo
    rw [Mm.mk_test _ _ _ (by omega)]
    simp
  · by_cases h2 : j < b
    · rw [if_neg hj, if_pos h2, if_pos (by omega)]
    · rw [if_neg hj, if_neg h2, if_neg (by omega)]
theorem turn_sum {m : Mm.Gr} {k b : Nat} (hk : k < 32) : insTo m b k + pw k < 18446744073709551616 := by
  have h1 := insTo_32 (m := m) (j := b) (k := k) (by omega)
  have h2 : pw k * 2 = pw (k + 1) := (Nat.pow_succ ..).symm
  have h3 : pw (k + 1) ≤ pw 32 := Nat.pow_le_pow_right (by decide) (by omega)
  have h4 : pw 32 = 4294967296 := rfl
  omega
theorem turnTo_at (m : Mm.Gr) (k b : Nat) : turnTo m k b b = insTo m b k := by unfold turnTo; rw [if_neg (by omega)]
/-- a block holds whether each number is in x. -/
def BitsAt (w : World) (g x : Nat) : Prop := w.heap[g]? = some (.cells (bitArr x 64) 99 (0, 0))
theorem BitsAt.lt {w : World} {g x : Nat} (h : BitsAt w g x) : g < w.heap.size := (Array.getElem?_eq_some_iff.1 h).1
theorem BitsAt.below {w w' : World} {g x : Nat} (h : BitsAt w g x) (hb : Below w.heap.size w w') : BitsAt w' g x := (hb.block g h.lt).trans h
theorem BitsAt.alloc {w : World} {g x : Nat} (h : BitsAt w g x) (o : Obj) : BitsAt (w.alloc o) g x := (Below.heap_alloc w o g h.lt).trans h
theorem BitsAt.setCell {w : World} {g x : Nat} (h : BitsAt w g x) (a : Addr) (v : Value) (hk : g ≠ a.block) : BitsAt (w.setCell a v) g x := (Below.heap_setCell w a v g hk).trans h
theorem BitsAt.cell {w : World} {g x : Nat} (h : BitsAt w g x) (i : Nat) (hi : i < 64) : w.cell? ⟨g, i, none⟩ = some (.bool (x.testBit i)) := by
  rw [cell_of_row _ _ _ _ _ _ h, bitArr_get x 64 i hi, decide_eq_true hi, Bool.true_and]
theorem BitsAt.frozen {w : World} {g x : Nat} (h : BitsAt w g x) (i : Nat) : w.frozen? ⟨g, i, none⟩ = false := frozen_of_row h
theorem bitsAt_new (w : World) (x : Nat) : BitsAt (w.alloc (.cells (bitArr x 64) 99)) w.heap.size x := heap_alloc_new w _
theorem bitArr_set {x y k : Nat} {b : Bool} (h : ∀ j, j < 64 → y.testBit j = if j = k then b else x.testBit j) : (bitArr x 64).setIfInBounds k (.bool b) = bitArr y 64 := by
  apply Array.ext_getElem?
  intro i
  by_cases hi : i < 64
  · rw [Array.getElem?_setIfInBounds, bitArr_get y 64 i hi, bitArr_get x 64 i hi, h i hi]
    by_cases e : k = i
    · subst e
      simp [bitArr_size, hi]
    · have : ¬ i = k := fun q => e q.symm
      simp [e, this]
  · rw [Array.getElem?_eq_none (by simp [bitArr_size]; omega), Array.getElem?_eq_none (by rw [bitArr_size]; omega)]
theorem bitsAt_cell {w : World} {g x y k : Nat} {b : Bool} (h : BitsAt w g x) (hy : ∀ j, j < 64 → y.testBit j = if j = k then b else x.testBit j) : BitsAt (w.setCell ⟨g, k, none⟩ (.bool b)) g y := by
  unfold BitsAt
  rw [heap_set h, bitArr_set hy]
theorem boolInfo (x : Nat) : (Tryd.prog.info? 99).map (·.size) = some (bitArr x 64).size := by rw [bitArr_size]; exact boolarr_info
structure TurnSt (m : Mm.Gr) (w : World) (t : Mm.Gr) (wr : World) : Prop where
  inn : MatAt wr w.heap.size m 35
  res : MatAt wr (w.heap.size + 1) zeroM 35
  out : MatAt wr (w.heap.size + 2) t 35
  bel : Below w.heap.size w wr
theorem TurnSt.below {m : Mm.Gr} {w W W' : World} {t : Mm.Gr} (h : TurnSt m w t W) (hb : Below W.heap.size W W') : TurnSt m w t W' :=
  ⟨h.inn.below hb, h.res.below hb, h.out.below hb, h.bel.trans (hb.mono h.bel.size)⟩
theorem TurnSt.alloc {m : Mm.Gr} {w W : World} {t : Mm.Gr} (h : TurnSt m w t W) (o : Obj) : TurnSt m w t (W.alloc o) := h.below ((Below.refl _ _).alloc (Nat.le_refl _) _)
theorem TurnSt.ext {m : Mm.Gr} {w W : World} {t u : Mm.Gr} (h : TurnSt m w t W) (e : ∀ i, i < 32 → t i = u i) : TurnSt m w u W := ⟨h.inn, h.res, h.out.ext e, h.bel⟩
theorem TurnSt.set {m : Mm.Gr} {w W : World} {t : Mm.Gr} (h : TurnSt m w t W) (k v : Nat) : TurnSt m w (fun i => if i = k then v else t i) (W.setCell ⟨w.heap.size + 2, k, none⟩ (.int .u64 (v : Nat))) :=
  ⟨h.inn.setCell _ _ (by simp), h.res.setCell _ _ (by simp), matAt_cell h.out, h.bel.setCell (by simp) _⟩
def TurnRel (m : Mm.Gr) (w : World) (p i : Value) (wr : World) : Prop :=
  ∃ k : Nat, k ≤ 32 ∧ i = .int .i64 k ∧ p = .int .u64 (pw k : Nat) ∧ TurnSt m w (turnTo m k 0) wr
def TurnIn (m : Mm.Gr) (w : World) (k g : Nat) (i : Value) (wr : World) : Prop :=
  ∃ b : Nat, b ≤ 32 ∧ i = .int .i64 b ∧ BitsAt wr g (m k) ∧ TurnSt m w (turnTo m k b) wr
set_option maxHeartbeats 2000000 in
set_option maxRecDepth 100000 in
theorem turn_any (m : Mm.Gr) (w : World) (hm : Mm.Ok m) :
    Calls Tryd.prog 74 #[.agg (matA m)] w fun e w' => e = .returned (.agg (matA (turn m))) ∧ Below w.heap.size w w' := by
  go_enter Tryd.func74, Tryd.ntmps74
  go_wp2
  go_loopw [4, 5] (TurnRel m w) (fun _ i _ => 32 - (intOf i).toNat)
  case atStart =>
    refine ⟨0, by omega, rfl, rfl, ?_, ?_, ?_, (((Below.refl _ _).alloc (Nat.le_refl _) _).alloc (by simp) _).alloc (by simp; omega) _⟩
    · exact ((matAt_new w m 35).alloc _).alloc _
    · refine MatAt.alloc ?_ _
      have := zero_lit (w.alloc (.cells (matA m) 35)) 35
      have h2 : MatAt ((w.alloc (.cells (matA m) 35)).alloc (.cells (Array.replicate 32 (Value.int .u64 0)) 35)) (w.heap.size + 1) zeroM 35 := by simpa using this
      exact h2
    · have := zero_lit ((w.alloc (.cells (matA m) 35)).alloc (.cells (Array.replicate 32 (Value.int .u64 0)) 35)) 35
      have h2 : MatAt (((w.alloc (.cells (matA m) 35)).alloc (.cells (Array.replicate 32 (Value.int .u64 0)) 35)).alloc (.cells (Array.replicate 32 (Value.int .u64 0)) 35)) (w.heap.size + 2) zeroM 35 := by simpa using this
      exact h2.ext fun i _ => turnTo_zero m i
  case round =>
    obtain ⟨k, hk, rfl, rfl, hS⟩ := hrel
    have HS := Lib.hid hS
    by_cases hlt : k < 32
    · have hc := hS.inn.cell k hlt
      have hmk := hm k hlt
      clear hS
      go_wp2_with fail
      refine (bits_any _ _ hmk).mono ?_
      rintro e w1 ⟨rfl, hb1⟩
      have HS1 := Lib.hid ((HS.out.below hb1).alloc (.cells (bitArr (m k) 64) 99))
      have HB1 := Lib.hid (bitsAt_new w1 (m k))
      clear hb1 hc HS
      go_wp2_with (refine wpList_store_row rfl 99 (.tmp 6) (.tmp 15) rfl w1.heap.size (bitArr (m k) 64) rfl rfl 99 _ (heap_alloc_new _ _) (boolInfo _) (by rw [bitArr_size]; rfl) (bitArr_one _ _) ?_; rw [World.setRow_alloc_new])
      go_loopw [7] (TurnIn m w k w1.heap.size) (fun i _ => 32 - (intOf i).toNat)
      case atStart => exact ⟨0, by omega, rfl, HB1.out, HS1.out⟩
      case round =>
        obtain ⟨b, hb, rfl, hB, hS⟩ := hrel
        have HSr := Lib.hid hS
        have HBr := Lib.hid hB
        by_cases hbl : b < 32
        · have hc := hB.cell b (by omega)
          have hne : w1.heap.size ≠ w.heap.size + 2 := by
            intro e
            have h1 := hB
            have h2 := hS.out
            unfold BitsAt at h1
            unfold MatAt at h2
            rw [e, h2] at h1
            simp at h1
          cases ht : (m k).testBit b
          · rw [ht] at hc
            have HN := Lib.hid (turnTo_no ht)
            clear ht hS hB hne
            go_wp2
            exact ⟨⟨b + 1, by omega, by go_num, HBr.out, HSr.out.ext fun i _ => HN.out i⟩, by simp [intOf]; omega⟩
          · rw [ht] at hc
            have hc2 := hS.out.cell b hbl
            rw [turnTo_at] at hc2
            have hf2 := hS.out.frozen b
            have hsum := turn_sum (m := m) (b := b) hlt
            have HY := Lib.hid (turnTo_yes hlt ht)
            have HW := Lib.hid (show ((insTo m b k : Nat) : Int) + ((pw k : Nat) : Int) = ((insTo m b k + pw k : Nat) : Int) by omega)
            clear ht hS hB
            go_wp2
            rw [HW.out]
            exact ⟨⟨b + 1, by omega, by go_num, HBr.out.setCell _ _ hne, (HSr.out.set b _).ext fun i _ => HY.out i⟩, by simp [intOf]; omega⟩
        · obtain rfl : b = 32 := by omega
          clear hS hB
          have hps : IntKind.u64.wrap (((pw k : Nat) : Int) * 2) = ((pw (k + 1) : Nat) : Int) := pow_step (by omega)
          go_wp2
          exact ⟨⟨k + 1, by omega, by go_num, rfl, HSr.out.ext fun i hi => turnTo_next m k i hi⟩, by simp [intOf]; omega⟩
    · obtain rfl : k = 32 := by omega
      clear hS
      have HT := Lib.hid (HS.out.ext fun i _ => turnTo_all m i)
      go_wp2_with (first
        | (refine wpList_load_row rfl 35 (.tmp 3) rfl (w.heap.size + 2) rfl 35 (matA (turn m)) (0, 0) _ HT.out.out Tryd.underlying35 rfl (rmatInfo _) ?_)
        | (refine wpList_store_row rfl 35 (.tmp 2) (.tmp 32) rfl (w.heap.size + 1) (matA (turn m)) rfl rfl 35 _ HT.out.res (rmatInfo _) (by rw [matA_size, matA_size]) (matA_one _) ?_))
      refine bodyPost_ret (results_cell_row rfl _ _ (w.heap.size + 1) 35 (matA (turn m)) (0, 0) _ rfl (setRow_heap _ _ _ _ _ _ HT.out.res) Tryd.underlying35 rfl (rmatInfo _)) rfl ⟨rfl, ?_⟩
      exact setRow_below HT.out.bel (by omega)
/- Sum -/
theorem hv_step (x k : Nat) : hv x k = 2 * hv x (k + 1) + (if x.testBit k then 1 else 0) := by
  have h1 : hv x (k + 1) = hv x k / 2 := by
    unfold hv pw
    rw [Nat.pow_succ, Nat.div_div_eq_div_mul]
  have h2 := hv_test x k
  rw [h1]
  by_cases h : x.testBit k = true
  · rw [h] at h2 ⊢
    simp at h2
    simp
    omega
  · have hf : x.testBit k = false := by simpa using h
    rw [hf] at h2 ⊢
    simp at h2
    simp
    omega
def SumRel (x : Nat) (s i : Value) : Prop := ∃ k : Nat, k ≤ 64 ∧ i = .int .i64 ((k : Int) - 1) ∧ s = .int .u64 (hv x k : Nat)
theorem hv_64 {x : Nat} (h : x < 18446744073709551616) : hv x 64 = 0 := by
  unfold hv pw
  exact Nat.div_eq_of_lt (by simpa using h)
set_option maxHeartbeats 1000000 in
set_option maxRecDepth 100000 in
theorem sum_any (x : Nat) (w : World) (hx : x < 18446744073709551616) :
    Calls Tryd.prog 80 #[.agg (bitArr x 64)] w fun e w' => e = .returned (.int .u64 (x : Nat)) ∧ Below w.heap.size w w' := by
  go_enter Tryd.func80, Tryd.ntmps80
  go_wp2
  go_loop [3, 4] (SumRel x) (fun _ i => (intOf i + 1).toNat)
  case atStart => exact ⟨64, by omega, rfl, by rw [hv_64 hx]; rfl⟩
  case round =>
    obtain ⟨k, hk, rfl, rfl⟩ := hrel
    by_cases h0 : k = 0
    · subst h0
      have HZ := Lib.hid (hv_zero x)
      go_wp2
      go_ret
      rw [HZ.out]
      exact ⟨rfl, (Below.refl _ _).alloc (Nat.le_refl _) _⟩
    · obtain ⟨j, rfl⟩ : ∃ j, k = j + 1 := ⟨k - 1, by omega⟩
      have e1 : ((j + 1 : Nat) : Int) - 1 = (j : Int) := by omega
      rw [e1]
      have hst := hv_step x j
      have hlt := hv_lt j hx
      have hg := bitArr_get x 64 j (by omega)
      rw [decide_eq_true (by omega : j < 64), Bool.true_and] at hg
      cases ht : x.testBit j
      · rw [ht] at hg hst
        have hs2 : 2 * hv x (j + 1) = hv x j := by simpa using hst.symm
        have HK := Lib.hid (show IntKind.u64.wrap (((hv x (j + 1) : Nat) : Int) * 2) = ((hv x j : Nat) : Int) by rw [IntKind.wrap_u64]; omega)
        clear ht hst hs2
        go_wp2_with (simp only [HK.out])
        go_round
        case rel => exact ⟨j, by omega, by go_num, rfl⟩
        case measure => simp [intOf]
      · rw [ht] at hg hst
        have hs2 : 2 * hv x (j + 1) + 1 = hv x j := by simpa using hst.symm
        have HK := Lib.hid (show IntKind.u64.wrap (IntKind.u64.wrap (((hv x (j + 1) : Nat) : Int) * 2) + 1) = ((hv x j : Nat) : Int) by rw [IntKind.wrap_u64, IntKind.wrap_u64]; omega)
        clear ht hst hs2
        go_wp2
        rw [HK.out]
        exact ⟨⟨j, by omega, rfl, rfl⟩, by simp [intOf]⟩
end Go.Proofs.YtakoceablbgchaaDoor
