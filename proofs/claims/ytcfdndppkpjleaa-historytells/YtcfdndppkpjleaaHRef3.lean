/-
  Contracts of the document's functions: may an event come behind others.
-/
import Derived.Test.YtcfdndppkpjleaaHRef1
namespace Go.Proofs.Ytcfdndppkpjleaa.Hi
open Go.RowKit
open Tx (i64p right)
set_option maxHeartbeats 1000000 in
theorem rr_any (k n : Int) (w : World) :
    Calls Try.prog 53 #[.agg #[.int .i64 k, .int .i64 n]] w fun e w' => e = .returned (.bool (right k n)) ∧ Below w.heap.size w w' := by
  unfold right
  by_cases h0 : k = 0
  · subst h0
    go_enter Try.func53, Try.ntmps53
    go_wp2
    go_ret
    exact ⟨rfl, Rn.below_new _ _⟩
  by_cases h1 : k = 1
  · subst h1
    go_enter Try.func53, Try.ntmps53
    go_wp2
    go_ret
    exact ⟨rfl, Rn.below_new _ _⟩
  by_cases h2 : k = 2
  · subst h2
    by_cases hn : 0 ≤ n
    · have hd : decide (0 ≤ n) = true := by simpa using hn
      go_enter Try.func53, Try.ntmps53
      go_wp2
      go_ret
      exact ⟨rfl, Rn.below_new _ _⟩
    · have hd : decide (0 ≤ n) = false := by simpa using hn
      go_enter Try.func53, Try.ntmps53
      go_wp2
      go_ret
      exact ⟨rfl, Rn.below_new _ _⟩
  · go_enter Try.func53, Try.ntmps53
    go_wp2
    go_ret
    exact ⟨rfl, Rn.below_new _ _⟩
theorem rr_val (k n : Int) (b : Bool) (w : World) (h : right k n = b) : Calls Try.prog 53 #[.agg #[.int .i64 k, .int .i64 n]] w fun e w' => e = .returned (.bool b) ∧ Below w.heap.size w w' := h ▸ rr_any k n w
theorem EB.newr (w : World) (e : Ev) : EB w e (w.alloc (.cells (evA e) 70)) := by
  have hb := heap_alloc_new w (.cells (evA e) 70)
  exact ⟨cell_of_row _ _ 0 _ _ _ hb, cell_of_row _ _ 1 _ _ _ hb, cell_of_row _ _ 2 _ _ _ hb, cell_of_row _ _ 3 _ _ _ hb, cell_of_row _ _ 4 _ _ _ hb, Rn.below_new _ _⟩
set_option maxRecDepth 100000 in
set_option maxHeartbeats 4000000 in
theorem fr_1 (A : Option Addr) (c : Nat) (L : List Ev) (e : Ev) (m : Nat) (w : World) (h : Rn.At encE w A L) (hl : L.length ≤ 2000) (hm : m ≤ 100) (k0 : e.kd = 1) :
    Calls Try.prog 31 #[.slice A L.length c, .agg (evA e), .int .i64 (m : Nat)] w fun r w' => r = .returned (.bool (fitI L e (m : Nat))) ∧ Below w.heap.size w w' := by
  have H := Lib.hid h
  have HE := Lib.hid (EB.newr w e)
  have hN : (m : Int) ≤ 100 := by omega
  clear h
  obtain ⟨kd, id, x, k, n⟩ := e
  dsimp only at k0 ⊢
  subst k0
  by_cases hx0 : x < 0
  · have hf : fitI L ⟨1, id, x, k, n⟩ (m : Nat) = false := by unfold fitI; simp [hx0]
    rw [hf]
    clear hf
    unfold evA at HE ⊢
    go_enter Try.func31, Try.ntmps31
    go_wp2
    go_ret
    exact ⟨rfl, HE.out.bel⟩
  by_cases hx1 : x ≥ 64
  · have hf : fitI L ⟨1, id, x, k, n⟩ (m : Nat) = false := by unfold fitI; simp; omega
    rw [hf]
    clear hf
    unfold evA at HE ⊢
    go_enter Try.func31, Try.ntmps31
    go_wp2
    go_ret
    exact ⟨rfl, HE.out.bel⟩
  cases hr : right k n with
  | false =>
    have HR := Lib.hid hr
    have hf : fitI L ⟨1, id, x, k, n⟩ (m : Nat) = false := by unfold fitI; simp [hr]
    rw [hf]
    clear hf hr
    unfold evA at HE ⊢
    go_enter Try.func31, Try.ntmps31
    go_wp2_with fail
    refine (rr_val k n false _ HR.out).mono ?_
    rintro r w1 ⟨rfl, hb⟩
    have HEX := Lib.hid (HE.out.below hb)
    clear hb
    have c0 := HEX.out.c0
    have c1 := HEX.out.c1
    dsimp only at c0 c1
    go_wp2
    go_ret
    exact ⟨rfl, HEX.out.bel⟩
  | true =>
    have HR := Lib.hid hr
    by_cases h1 : id ≥ 1
    · by_cases h2 : id ≤ (m : Int)
      · generalize he : enI L id = en
        have HEN := Lib.hid he
        by_cases h3 : en < 0
        · have hf : fitI L ⟨1, id, x, k, n⟩ (m : Nat) = true := by unfold fitI bare; rw [he]; simp [hr, hx0, hx1]; omega
          rw [hf]
          clear hf he
          clear hr
          unfold evA at HE ⊢
          go_enter Try.func31, Try.ntmps31
          go_wp2_with fail
          refine (rr_val k n true _ HR.out).mono ?_
          rintro r w1 ⟨rfl, hb⟩
          have HEX := Lib.hid (HE.out.below hb)
          clear hb
          have c0 := HEX.out.c0
          have c1 := HEX.out.c1
          dsimp only at c0 c1
          go_wp2_with fail
          refine (end_rv A c L id en _ (H.out.below HEX.out.bel (Nat.le_refl _)) hl HEN.out).mono ?_
          rintro r w9 ⟨rfl, rfl⟩
          go_wp2
          go_ret
          exact ⟨rfl, HEX.out.bel⟩
        · have hf : fitI L ⟨1, id, x, k, n⟩ (m : Nat) = false := by unfold fitI bare; rw [he]; simp [hr, hx0, hx1]; omega
          rw [hf]
          clear hf he
          clear hr
          unfold evA at HE ⊢
          go_enter Try.func31, Try.ntmps31
          go_wp2_with fail
          refine (rr_val k n true _ HR.out).mono ?_
          rintro r w1 ⟨rfl, hb⟩
          have HEX := Lib.hid (HE.out.below hb)
          clear hb
          have c0 := HEX.out.c0
          have c1 := HEX.out.c1
          dsimp only at c0 c1
          go_wp2_with fail
          refine (end_rv A c L id en _ (H.out.below HEX.out.bel (Nat.le_refl _)) hl HEN.out).mono ?_
          rintro r w9 ⟨rfl, rfl⟩
          go_wp2
          go_ret
          exact ⟨Cx.ret_bool (decide_eq_false (by omega)), HEX.out.bel⟩
      · have hf : fitI L ⟨1, id, x, k, n⟩ (m : Nat) = false := by unfold fitI bare; simp [hr, hx0, hx1]; omega
        rw [hf]
        clear hf
        clear hr
        unfold evA at HE ⊢
        go_enter Try.func31, Try.ntmps31
        go_wp2_with fail
        refine (rr_val k n true _ HR.out).mono ?_
        rintro r w1 ⟨rfl, hb⟩
        have HEX := Lib.hid (HE.out.below hb)
        clear hb
        have c0 := HEX.out.c0
        have c1 := HEX.out.c1
        dsimp only at c0 c1
        go_wp2
        go_ret
        exact ⟨rfl, HEX.out.bel⟩
    · have hf : fitI L ⟨1, id, x, k, n⟩ (m : Nat) = false := by unfold fitI bare; simp [hr, hx0, hx1]; omega
      rw [hf]
      clear hf
      clear hr
      unfold evA at HE ⊢
      go_enter Try.func31, Try.ntmps31
      go_wp2_with fail
      refine (rr_val k n true _ HR.out).mono ?_
      rintro r w1 ⟨rfl, hb⟩
      have HEX := Lib.hid (HE.out.below hb)
      clear hb
      have c0 := HEX.out.c0
      have c1 := HEX.out.c1
      dsimp only at c0 c1
      go_wp2
      go_ret
      exact ⟨rfl, HEX.out.bel⟩
set_option maxRecDepth 100000 in
set_option maxHeartbeats 4000000 in
theorem fr_2 (A : Option Addr) (c : Nat) (L : List Ev) (e : Ev) (m : Nat) (w : World) (h : Rn.At encE w A L) (hl : L.length ≤ 2000) (hm : m ≤ 100) (k0 : e.kd = 2) :
    Calls Try.prog 31 #[.slice A L.length c, .agg (evA e), .int .i64 (m : Nat)] w fun r w' => r = .returned (.bool (fitI L e (m : Nat))) ∧ Below w.heap.size w w' := by
  have H := Lib.hid h
  have HE := Lib.hid (EB.newr w e)
  have hN : (m : Int) ≤ 100 := by omega
  clear h
  obtain ⟨kd, id, x, k, n⟩ := e
  dsimp only at k0 ⊢
  subst k0
  by_cases hx0 : x < 0
  · have hf : fitI L ⟨2, id, x, k, n⟩ (m : Nat) = false := by unfold fitI; simp [hx0]
    rw [hf]
    clear hf
    unfold evA at HE ⊢
    go_enter Try.func31, Try.ntmps31
    go_wp2
    go_ret
    exact ⟨rfl, HE.out.bel⟩
  by_cases hx1 : x ≥ 64
  · have hf : fitI L ⟨2, id, x, k, n⟩ (m : Nat) = false := by unfold fitI; simp; omega
    rw [hf]
    clear hf
    unfold evA at HE ⊢
    go_enter Try.func31, Try.ntmps31
    go_wp2
    go_ret
    exact ⟨rfl, HE.out.bel⟩
  cases hr : right k n with
  | false =>
    have HR := Lib.hid hr
    have hf : fitI L ⟨2, id, x, k, n⟩ (m : Nat) = false := by unfold fitI; simp [hr]
    rw [hf]
    clear hf hr
    unfold evA at HE ⊢
    go_enter Try.func31, Try.ntmps31
    go_wp2_with fail
    refine (rr_val k n false _ HR.out).mono ?_
    rintro r w1 ⟨rfl, hb⟩
    have HEX := Lib.hid (HE.out.below hb)
    clear hb
    have c0 := HEX.out.c0
    have c1 := HEX.out.c1
    dsimp only at c0 c1
    go_wp2
    go_ret
    exact ⟨rfl, HEX.out.bel⟩
  | true =>
    have HR := Lib.hid hr
    by_cases h1 : id ≥ 1
    · by_cases h2 : id ≤ (m : Int)
      · generalize he : enI L id = en
        have HEN := Lib.hid he
        by_cases h3 : en < 0
        · have hf : fitI L ⟨2, id, x, k, n⟩ (m : Nat) = true := by unfold fitI bare; rw [he]; simp [hr, hx0, hx1]; omega
          rw [hf]
          clear hf he
          clear hr
          unfold evA at HE ⊢
          go_enter Try.func31, Try.ntmps31
          go_wp2_with fail
          refine (rr_val k n true _ HR.out).mono ?_
          rintro r w1 ⟨rfl, hb⟩
          have HEX := Lib.hid (HE.out.below hb)
          clear hb
          have c0 := HEX.out.c0
          have c1 := HEX.out.c1
          dsimp only at c0 c1
          go_wp2_with fail
          refine (end_rv A c L id en _ (H.out.below HEX.out.bel (Nat.le_refl _)) hl HEN.out).mono ?_
          rintro r w9 ⟨rfl, rfl⟩
          go_wp2
          go_ret
          exact ⟨rfl, HEX.out.bel⟩
        · have hf : fitI L ⟨2, id, x, k, n⟩ (m : Nat) = false := by unfold fitI bare; rw [he]; simp [hr, hx0, hx1]; omega
          rw [hf]
          clear hf he
          clear hr
          unfold evA at HE ⊢
          go_enter Try.func31, Try.ntmps31
          go_wp2_with fail
          refine (rr_val k n true _ HR.out).mono ?_
          rintro r w1 ⟨rfl, hb⟩
          have HEX := Lib.hid (HE.out.below hb)
          clear hb
          have c0 := HEX.out.c0
          have c1 := HEX.out.c1
          dsimp only at c0 c1
          go_wp2_with fail
          refine (end_rv A c L id en _ (H.out.below HEX.out.bel (Nat.le_refl _)) hl HEN.out).mono ?_
          rintro r w9 ⟨rfl, rfl⟩
          go_wp2
          go_ret
          exact ⟨Cx.ret_bool (decide_eq_false (by omega)), HEX.out.bel⟩
      · have hf : fitI L ⟨2, id, x, k, n⟩ (m : Nat) = false := by unfold fitI bare; simp [hr, hx0, hx1]; omega
        rw [hf]
        clear hf
        clear hr
        unfold evA at HE ⊢
        go_enter Try.func31, Try.ntmps31
        go_wp2_with fail
        refine (rr_val k n true _ HR.out).mono ?_
        rintro r w1 ⟨rfl, hb⟩
        have HEX := Lib.hid (HE.out.below hb)
        clear hb
        have c0 := HEX.out.c0
        have c1 := HEX.out.c1
        dsimp only at c0 c1
        go_wp2
        go_ret
        exact ⟨rfl, HEX.out.bel⟩
    · have hf : fitI L ⟨2, id, x, k, n⟩ (m : Nat) = false := by unfold fitI bare; simp [hr, hx0, hx1]; omega
      rw [hf]
      clear hf
      clear hr
      unfold evA at HE ⊢
      go_enter Try.func31, Try.ntmps31
      go_wp2_with fail
      refine (rr_val k n true _ HR.out).mono ?_
      rintro r w1 ⟨rfl, hb⟩
      have HEX := Lib.hid (HE.out.below hb)
      clear hb
      have c0 := HEX.out.c0
      have c1 := HEX.out.c1
      dsimp only at c0 c1
      go_wp2
      go_ret
      exact ⟨rfl, HEX.out.bel⟩
set_option maxRecDepth 100000 in
set_option maxHeartbeats 4000000 in
theorem fr_0 (A : Option Addr) (c : Nat) (L : List Ev) (e : Ev) (m : Nat) (w : World) (h : Rn.At encE w A L) (_ : L.length ≤ 2000) (hm : m ≤ 100) (k0 : e.kd = 0) :
    Calls Try.prog 31 #[.slice A L.length c, .agg (evA e), .int .i64 (m : Nat)] w fun r w' => r = .returned (.bool (fitI L e (m : Nat))) ∧ Below w.heap.size w w' := by
  have H := Lib.hid h
  have HE := Lib.hid (EB.newr w e)
  have hN : (m : Int) ≤ 100 := by omega
  clear h
  obtain ⟨kd, id, x, k, n⟩ := e
  dsimp only at k0 ⊢
  subst k0
  by_cases h0 : x = 0
  rotate_left
  · have hf : fitI L ⟨0, id, x, k, n⟩ (m : Nat) = false := by unfold fitI bare; simp [h0]
    rw [hf]
    clear hf
    unfold evA at HE ⊢
    go_enter Try.func31, Try.ntmps31
    go_wp2
    go_ret
    exact ⟨rfl, HE.out.bel⟩
  subst h0
  by_cases h0 : k = 0
  rotate_left
  · have hf : fitI L ⟨0, id, 0, k, n⟩ (m : Nat) = false := by unfold fitI bare; simp [h0]
    rw [hf]
    clear hf
    unfold evA at HE ⊢
    go_enter Try.func31, Try.ntmps31
    go_wp2
    go_ret
    exact ⟨rfl, HE.out.bel⟩
  subst h0
  by_cases h0 : n = 0
  rotate_left
  · have hf : fitI L ⟨0, id, 0, 0, n⟩ (m : Nat) = false := by unfold fitI bare; simp [h0]
    rw [hf]
    clear hf
    unfold evA at HE ⊢
    go_enter Try.func31, Try.ntmps31
    go_wp2
    go_ret
    exact ⟨rfl, HE.out.bel⟩
  subst h0
  by_cases h1 : id = (m : Int) + 1
  · subst h1
    by_cases h2 : (m : Int) + 1 ≤ 32
    · have hf : fitI L ⟨0, (m : Int) + 1, 0, 0, 0⟩ (m : Nat) = true := by unfold fitI bare; simp; omega
      rw [hf]
      clear hf
      unfold evA at HE ⊢
      go_enter Try.func31, Try.ntmps31
      go_wp2
      go_ret
      exact ⟨Cx.ret_bool (by simp), HE.out.bel⟩
    · have hf : fitI L ⟨0, (m : Int) + 1, 0, 0, 0⟩ (m : Nat) = false := by unfold fitI bare; simp; omega
      rw [hf]
      clear hf
      unfold evA at HE ⊢
      go_enter Try.func31, Try.ntmps31
      go_wp2
      go_ret
      exact ⟨Cx.ret_bool (by simp), HE.out.bel⟩
  · have hf : fitI L ⟨0, id, 0, 0, 0⟩ (m : Nat) = false := by unfold fitI bare; simp [h1]
    rw [hf]
    clear hf
    unfold evA at HE ⊢
    go_enter Try.func31, Try.ntmps31
    go_wp2
    go_ret
    exact ⟨Cx.ret_bool (by simp), HE.out.bel⟩
set_option maxRecDepth 100000 in
set_option maxHeartbeats 4000000 in
theorem fr_3 (A : Option Addr) (c : Nat) (L : List Ev) (e : Ev) (m : Nat) (w : World) (h : Rn.At encE w A L) (hl : L.length ≤ 2000) (hm : m ≤ 100) (k0 : e.kd = 3) :
    Calls Try.prog 31 #[.slice A L.length c, .agg (evA e), .int .i64 (m : Nat)] w fun r w' => r = .returned (.bool (fitI L e (m : Nat))) ∧ Below w.heap.size w w' := by
  have H := Lib.hid h
  have HE := Lib.hid (EB.newr w e)
  have hN : (m : Int) ≤ 100 := by omega
  clear h
  obtain ⟨kd, id, x, k, n⟩ := e
  dsimp only at k0 ⊢
  subst k0
  by_cases h0 : x = 0
  rotate_left
  · have hf : fitI L ⟨3, id, x, k, n⟩ (m : Nat) = false := by unfold fitI bare; simp [h0]
    rw [hf]
    clear hf
    unfold evA at HE ⊢
    go_enter Try.func31, Try.ntmps31
    go_wp2
    go_ret
    exact ⟨rfl, HE.out.bel⟩
  subst h0
  by_cases h0 : k = 0
  rotate_left
  · have hf : fitI L ⟨3, id, 0, k, n⟩ (m : Nat) = false := by unfold fitI bare; simp [h0]
    rw [hf]
    clear hf
    unfold evA at HE ⊢
    go_enter Try.func31, Try.ntmps31
    go_wp2
    go_ret
    exact ⟨rfl, HE.out.bel⟩
  subst h0
  by_cases h0 : n = 0
  rotate_left
  · have hf : fitI L ⟨3, id, 0, 0, n⟩ (m : Nat) = false := by unfold fitI bare; simp [h0]
    rw [hf]
    clear hf
    unfold evA at HE ⊢
    go_enter Try.func31, Try.ntmps31
    go_wp2
    go_ret
    exact ⟨rfl, HE.out.bel⟩
  subst h0
  by_cases h1 : id ≥ 1
  · by_cases h2 : id ≤ (m : Int)
    · generalize he : enI L id = en
      have HEN := Lib.hid he
      by_cases h3 : en < 0
      · have hf : fitI L ⟨3, id, 0, 0, 0⟩ (m : Nat) = true := by unfold fitI bare; rw [he]; simp []; omega
        rw [hf]
        clear hf he
        unfold evA at HE ⊢
        go_enter Try.func31, Try.ntmps31
        have HEX := Lib.hid HE.out
        go_wp2_with fail
        refine (end_rv A c L id en _ (H.out.below HEX.out.bel (Nat.le_refl _)) hl HEN.out).mono ?_
        rintro r w9 ⟨rfl, rfl⟩
        go_wp2
        go_ret
        exact ⟨rfl, HEX.out.bel⟩
      · have hf : fitI L ⟨3, id, 0, 0, 0⟩ (m : Nat) = false := by unfold fitI bare; rw [he]; simp []; omega
        rw [hf]
        clear hf he
        unfold evA at HE ⊢
        go_enter Try.func31, Try.ntmps31
        have HEX := Lib.hid HE.out
        go_wp2_with fail
        refine (end_rv A c L id en _ (H.out.below HEX.out.bel (Nat.le_refl _)) hl HEN.out).mono ?_
        rintro r w9 ⟨rfl, rfl⟩
        go_wp2
        go_ret
        exact ⟨Cx.ret_bool (decide_eq_false (by omega)), HEX.out.bel⟩
    · have hf : fitI L ⟨3, id, 0, 0, 0⟩ (m : Nat) = false := by unfold fitI bare; simp []; omega
      rw [hf]
      clear hf
      unfold evA at HE ⊢
      go_enter Try.func31, Try.ntmps31
      have HEX := Lib.hid HE.out
      go_wp2
      go_ret
      exact ⟨rfl, HEX.out.bel⟩
  · have hf : fitI L ⟨3, id, 0, 0, 0⟩ (m : Nat) = false := by unfold fitI bare; simp []; omega
    rw [hf]
    clear hf
    unfold evA at HE ⊢
    go_enter Try.func31, Try.ntmps31
    have HEX := Lib.hid HE.out
    go_wp2
    go_ret
    exact ⟨rfl, HEX.out.bel⟩
set_option maxRecDepth 100000 in
set_option maxHeartbeats 4000000 in
theorem fr_4 (A : Option Addr) (c : Nat) (L : List Ev) (e : Ev) (m : Nat) (w : World) (h : Rn.At encE w A L) (hl : L.length ≤ 2000) (hm : m ≤ 100) (k0 : e.kd = 4) :
    Calls Try.prog 31 #[.slice A L.length c, .agg (evA e), .int .i64 (m : Nat)] w fun r w' => r = .returned (.bool (fitI L e (m : Nat))) ∧ Below w.heap.size w w' := by
  have H := Lib.hid h
  have HE := Lib.hid (EB.newr w e)
  have hN : (m : Int) ≤ 100 := by omega
  clear h
  obtain ⟨kd, id, x, k, n⟩ := e
  dsimp only at k0 ⊢
  subst k0
  by_cases h0 : x = 0
  rotate_left
  · have hf : fitI L ⟨4, id, x, k, n⟩ (m : Nat) = false := by unfold fitI bare; simp [h0]
    rw [hf]
    clear hf
    unfold evA at HE ⊢
    go_enter Try.func31, Try.ntmps31
    go_wp2
    go_ret
    exact ⟨rfl, HE.out.bel⟩
  subst h0
  by_cases h0 : k = 0
  rotate_left
  · have hf : fitI L ⟨4, id, 0, k, n⟩ (m : Nat) = false := by unfold fitI bare; simp [h0]
    rw [hf]
    clear hf
    unfold evA at HE ⊢
    go_enter Try.func31, Try.ntmps31
    go_wp2
    go_ret
    exact ⟨rfl, HE.out.bel⟩
  subst h0
  by_cases h0 : n = 0
  rotate_left
  · have hf : fitI L ⟨4, id, 0, 0, n⟩ (m : Nat) = false := by unfold fitI bare; simp [h0]
    rw [hf]
    clear hf
    unfold evA at HE ⊢
    go_enter Try.func31, Try.ntmps31
    go_wp2
    go_ret
    exact ⟨rfl, HE.out.bel⟩
  subst h0
  by_cases h1 : id ≥ 1
  · by_cases h2 : id ≤ (m : Int)
    · generalize he : enI L id = en
      have HEN := Lib.hid he
      by_cases h3 : en < 0
      · have hf : fitI L ⟨4, id, 0, 0, 0⟩ (m : Nat) = true := by unfold fitI bare; rw [he]; simp []; omega
        rw [hf]
        clear hf he
        unfold evA at HE ⊢
        go_enter Try.func31, Try.ntmps31
        have HEX := Lib.hid HE.out
        go_wp2_with fail
        refine (end_rv A c L id en _ (H.out.below HEX.out.bel (Nat.le_refl _)) hl HEN.out).mono ?_
        rintro r w9 ⟨rfl, rfl⟩
        go_wp2
        go_ret
        exact ⟨rfl, HEX.out.bel⟩
      · have hf : fitI L ⟨4, id, 0, 0, 0⟩ (m : Nat) = false := by unfold fitI bare; rw [he]; simp []; omega
        rw [hf]
        clear hf he
        unfold evA at HE ⊢
        go_enter Try.func31, Try.ntmps31
        have HEX := Lib.hid HE.out
        go_wp2_with fail
        refine (end_rv A c L id en _ (H.out.below HEX.out.bel (Nat.le_refl _)) hl HEN.out).mono ?_
        rintro r w9 ⟨rfl, rfl⟩
        go_wp2
        go_ret
        exact ⟨Cx.ret_bool (decide_eq_false (by omega)), HEX.out.bel⟩
    · have hf : fitI L ⟨4, id, 0, 0, 0⟩ (m : Nat) = false := by unfold fitI bare; simp []; omega
      rw [hf]
      clear hf
      unfold evA at HE ⊢
      go_enter Try.func31, Try.ntmps31
      have HEX := Lib.hid HE.out
      go_wp2
      go_ret
      exact ⟨rfl, HEX.out.bel⟩
  · have hf : fitI L ⟨4, id, 0, 0, 0⟩ (m : Nat) = false := by unfold fitI bare; simp []; omega
    rw [hf]
    clear hf
    unfold evA at HE ⊢
    go_enter Try.func31, Try.ntmps31
    have HEX := Lib.hid HE.out
    go_wp2
    go_ret
    exact ⟨rfl, HEX.out.bel⟩
set_option maxRecDepth 100000 in
set_option maxHeartbeats 4000000 in
theorem fr_o (A : Option Addr) (c : Nat) (L : List Ev) (e : Ev) (m : Nat) (w : World) (h : Rn.At encE w A L) (_ : L.length ≤ 2000) (hm : m ≤ 100) (k0 : e.kd < 0 ∨ 4 < e.kd) :
    Calls Try.prog 31 #[.slice A L.length c, .agg (evA e), .int .i64 (m : Nat)] w fun r w' => r = .returned (.bool (fitI L e (m : Nat))) ∧ Below w.heap.size w w' := by
  have H := Lib.hid h
  have HE := Lib.hid (EB.newr w e)
  have hN : (m : Int) ≤ 100 := by omega
  clear h
  obtain ⟨kd, id, x, k, n⟩ := e
  dsimp only at k0 ⊢
  have hf : fitI L ⟨kd, id, x, k, n⟩ (m : Nat) = false := by unfold fitI; rw [if_pos k0]
  rw [hf]
  clear hf
  by_cases h0 : kd < 0
  · unfold evA at HE ⊢
    go_enter Try.func31, Try.ntmps31
    go_wp2
    go_ret
    exact ⟨rfl, HE.out.bel⟩
  · have h1 : kd > 4 := by omega
    unfold evA at HE ⊢
    go_enter Try.func31, Try.ntmps31
    go_wp2
    go_ret
    exact ⟨rfl, HE.out.bel⟩
theorem fits_r (A : Option Addr) (c : Nat) (L : List Ev) (e : Ev) (m : Nat) (w : World) {b : Bool} (h : Rn.At encE w A L) (hl : L.length ≤ 2000) (hm : m ≤ 100) (hb : fitI L e (m : Nat) = b) :
    Calls Try.prog 31 #[.slice A L.length c, .agg (evA e), .int .i64 (m : Nat)] w fun r w' => r = .returned (.bool b) ∧ Below w.heap.size w w' := by
  subst hb
  by_cases k0 : e.kd = 0
  · exact fr_0 A c L e m w h hl hm k0
  by_cases k1 : e.kd = 1
  · exact fr_1 A c L e m w h hl hm k1
  by_cases k2 : e.kd = 2
  · exact fr_2 A c L e m w h hl hm k2
  by_cases k3 : e.kd = 3
  · exact fr_3 A c L e m w h hl hm k3
  by_cases k4 : e.kd = 4
  · exact fr_4 A c L e m w h hl hm k4
  exact fr_o A c L e m w h hl hm (by omega)
end Go.Proofs.Ytcfdndppkpjleaa.Hi
