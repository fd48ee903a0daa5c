/-
  Contracts of the document's functions: may an event come behind others.
  Contracts of the document's functions: Right and Ids.
  The contract of the document's Graph.
-/
import Derived.Test.YtaonepbongbhoaaGreatKL
import Derived.Test.YtaonepbongbhoaaGreatKG
import Derived.Test.YtaonepbongbhoaaGreatKT
import Derived.Test.YtaonepbongbhoaaGreatKI
namespace Go.Proofs.YtaonepbongbhoaaGreat.Hi
open Go.RowKit
open Tx (i64p right)
set_option maxHeartbeats 1000000 in
theorem rr_any (k n : Int) (w : World) :
    Calls Tryz.prog 86 #[.agg #[.int .i64 k, .int .i64 n]] w fun e w' => e = .returned (.bool (right k n)) ∧ Below w.heap.size w w' := by
  unfold right
  by_cases h0 : k = 0
  · subst h0
    go_enter Tryz.func86, Tryz.ntmps86
    go_wp2
    go_ret
    exact ⟨rfl, Rn.below_new _ _⟩
  by_cases h1 : k = 1
  · subst h1
    go_enter Tryz.func86, Tryz.ntmps86
    go_wp2
    go_ret
    exact ⟨rfl, Rn.below_new _ _⟩
  by_cases h2 : k = 2
  · subst h2
    by_cases hn : 0 ≤ n
    · have hd : decide (0 ≤ n) = true := by simpa using hn
      go_enter Tryz.func86, Tryz.ntmps86
      go_wp2
      go_ret
      exact ⟨rfl, Rn.below_new _ _⟩
    · have hd : decide (0 ≤ n) = false := by simpa using hn
      go_enter Tryz.func86, Tryz.ntmps86
      go_wp2
      go_ret
      exact ⟨rfl, Rn.below_new _ _⟩
  · go_enter Tryz.func86, Tryz.ntmps86
    go_wp2
    go_ret
    exact ⟨rfl, Rn.below_new _ _⟩
theorem rr_val (k n : Int) (b : Bool) (w : World) (h : right k n = b) : Calls Tryz.prog 86 #[.agg #[.int .i64 k, .int .i64 n]] w fun e w' => e = .returned (.bool b) ∧ Below w.heap.size w w' := h ▸ rr_any k n w
theorem EB.newr (w : World) (e : Ev) : EB w e (w.alloc (.cells (evA e) 41)) := by
  have hb := heap_alloc_new w (.cells (evA e) 41)
  exact ⟨cell_of_row _ _ 0 _ _ _ hb, cell_of_row _ _ 1 _ _ _ hb, cell_of_row _ _ 2 _ _ _ hb, cell_of_row _ _ 3 _ _ _ hb, cell_of_row _ _ 4 _ _ _ hb, Rn.below_new _ _⟩
set_option maxRecDepth 100000 in
set_option maxHeartbeats 4000000 in
theorem fr_1 (A : Option Addr) (c : Nat) (L : List Ev) (e : Ev) (m : Nat) (w : World) (h : Rn.At encE w A L) (hl : L.length ≤ 2000) (hm : m ≤ 100) (k0 : e.kd = 1) :
    Calls Tryz.prog 61 #[.slice A L.length c, .agg (evA e), .int .i64 (m : Nat)] w fun r w' => r = .returned (.bool (fitI L e (m : Nat))) ∧ Below w.heap.size w w' := by
  have H := Lib.hid h
  have HE := Lib.hid (EB.newr w e)
  have hN : (m : Int) ≤ 100 := by omega
  clear h
  obtain ⟨kd, id, x, k, n⟩ := e
  dsimp only at k0 ⊢
  subst k0
  by_cases hx0 : x < 0
  · have hf : fitI L ⟨1, id, x, k, n⟩ (m : Nat) = false := by unfold fitI; simp [hx0]
    rw [hf]
    clear hf
    unfold evA at HE ⊢
    go_enter Tryz.func61, Tryz.ntmps61
    go_wp2
    go_ret
    exact ⟨rfl, HE.out.bel⟩
  by_cases hx1 : x ≥ 64
  · have hf : fitI L ⟨1, id, x, k, n⟩ (m : Nat) = false := by unfold fitI; simp; omega
    rw [hf]
    clear hf
    unfold evA at HE ⊢
    go_enter Tryz.func61, Tryz.ntmps61
    go_wp2
    go_ret
    exact ⟨rfl, HE.out.bel⟩
  cases hr : right k n with
  | false =>
    have HR := Lib.hid hr
    have hf : fitI L ⟨1, id, x, k, n⟩ (m : Nat) = false := by unfold fitI; simp [hr]
    rw [hf]
    clear hf hr
    unfold evA at HE ⊢
    go_enter Tryz.func61, Tryz.ntmps61
    go_wp2_with fail
    refine (rr_val k n false _ HR.out).mono ?_
    rintro r w1 ⟨rfl, hb⟩
    have HEX := Lib.hid (HE.out.below hb)
    clear hb
    have c0 := HEX.out.c0
    have c1 := HEX.out.c1
    dsimp only at c0 c1
    go_wp2
    go_ret
    exact ⟨rfl, HEX.out.bel⟩
  | true =>
    have HR := Lib.hid hr
    by_cases h1 : id ≥ 1
    · by_cases h2 : id ≤ (m : Int)
      · generalize he : enI L id = en
        have HEN := Lib.hid he
        by_cases h3 : en < 0
        · have hf : fitI L ⟨1, id, x, k, n⟩ (m : Nat) = true := by unfold fitI bare; rw [he]; simp [hr, hx0, hx1]; omega
          rw [hf]
          clear hf he
          clear hr
          unfold evA at HE ⊢
          go_enter Tryz.func61, Tryz.ntmps61
          go_wp2_with fail
          refine (rr_val k n true _ HR.out).mono ?_
          rintro r w1 ⟨rfl, hb⟩
          have HEX := Lib.hid (HE.out.below hb)
          clear hb
          have c0 := HEX.out.c0
          have c1 := HEX.out.c1
          dsimp only at c0 c1
          go_wp2_with fail
          refine (end_rv A c L id en _ (H.out.below HEX.out.bel (Nat.le_refl _)) hl HEN.out).mono ?_
          rintro r w9 ⟨rfl, rfl⟩
          go_wp2
          go_ret
          exact ⟨rfl, HEX.out.bel⟩
        · have hf : fitI L ⟨1, id, x, k, n⟩ (m : Nat) = false := by unfold fitI bare; rw [he]; simp [hr, hx0, hx1]; omega
          rw [hf]
          clear hf he
          clear hr
          unfold evA at HE ⊢
          go_enter Tryz.func61, Tryz.ntmps61
          go_wp2_with fail
          refine (rr_val k n true _ HR.out).mono ?_
          rintro r w1 ⟨rfl, hb⟩
          have HEX := Lib.hid (HE.out.below hb)
          clear hb
          have c0 := HEX.out.c0
          have c1 := HEX.out.c1
          dsimp only at c0 c1
          go_wp2_with fail
          refine (end_rv A c L id en _ (H.out.below HEX.out.bel (Nat.le_refl _)) hl HEN.out).mono ?_
          rintro r w9 ⟨rfl, rfl⟩
          go_wp2
          go_ret
          exact ⟨Cx.ret_bool (decide_eq_false (by omega)), HEX.out.bel⟩
      · have hf : fitI L ⟨1, id, x, k, n⟩ (m : Nat) = false := by unfold fitI bare; simp [hr, hx0, hx1]; omega
        rw [hf]
        clear hf
        clear hr
        unfold evA at HE ⊢
        go_enter Tryz.func61, Tryz.ntmps61
        go_wp2_with fail
        refine (rr_val k n true _ HR.out).mono ?_
        rintro r w1 ⟨rfl, hb⟩
        have HEX := Lib.hid (HE.out.below hb)
        clear hb
        have c0 := HEX.out.c0
        have c1 := HEX.out.c1
        dsimp only at c0 c1
        go_wp2
        go_ret
        exact ⟨rfl, HEX.out.bel⟩
    · have hf : fitI L ⟨1, id, x, k, n⟩ (m : Nat) = false := by unfold fitI bare; simp [hr, hx0, hx1]; omega
      rw [hf]
      clear hf
      clear hr
      unfold evA at HE ⊢
      go_enter Tryz.func61, Tryz.ntmps61
      go_wp2_with fail
      refine (rr_val k n true _ HR.out).mono ?_
      rintro r w1 ⟨rfl, hb⟩
      have HEX := Lib.hid (HE.out.below hb)
      clear hb
      have c0 := HEX.out.c0
      have c1 := HEX.out.c1
      dsimp only at c0 c1
      go_wp2
      go_ret
      exact ⟨rfl, HEX.out.bel⟩
set_option maxRecDepth 100000 in
set_option maxHeartbeats 4000000 in
theorem fr_2 (A : Option Addr) (c : Nat) (L : List Ev) (e : Ev) (m : Nat) (w : World) (h : Rn.At encE w A L) (hl : L.length ≤ 2000) (hm : m ≤ 100) (k0 : e.kd = 2) :
    Calls Tryz.prog 61 #[.slice A L.length c, .agg (evA e), .int .i64 (m : Nat)] w fun r w' => r = .returned (.bool (fitI L e (m : Nat))) ∧ Below w.heap.size w w' := by
  have H := Lib.hid h
  have HE := Lib.hid (EB.newr w e)
  have hN : (m : Int) ≤ 100 := by omega
  clear h
  obtain ⟨kd, id, x, k, n⟩ := e
  dsimp only at k0 ⊢
  subst k0
  by_cases hx0 : x < 0
  · have hf : fitI L ⟨2, id, x, k, n⟩ (m : Nat) = false := by unfold fitI; simp [hx0]
    rw [hf]
    clear hf
    unfold evA at HE ⊢
    go_enter Tryz.func61, Tryz.ntmps61
    go_wp2
    go_ret
    exact ⟨rfl, HE.out.bel⟩
  by_cases hx1 : x ≥ 64
  · have hf : fitI L ⟨2, id, x, k, n⟩ (m : Nat) = false := by unfold fitI; simp; omega
    rw [hf]
    clear hf
    unfold evA at HE ⊢
    go_enter Tryz.func61, Tryz.ntmps61
    go_wp2
    go_ret
    exact ⟨rfl, HE.out.bel⟩
  cases hr : right k n with
  | false =>
    have HR := Lib.hid hr
    have hf : fitI L ⟨2, id, x, k, n⟩ (m : Nat) = false := by unfold fitI; simp [hr]
    rw [hf]
    clear hf hr
    unfold evA at HE ⊢
    go_enter Tryz.func61, Tryz.ntmps61
    go_wp2_with fail
    refine (rr_val k n false _ HR.out).mono ?_
    rintro r w1 ⟨rfl, hb⟩
    have HEX := Lib.hid (HE.out.below hb)
    clear hb
    have c0 := HEX.out.c0
    have c1 := HEX.out.c1
    dsimp only at c0 c1
    go_wp2
    go_ret
    exact ⟨rfl, HEX.out.bel⟩
  | true =>
    have HR := Lib.hid hr
    by_cases h1 : id ≥ 1
    · by_cases h2 : id ≤ (m : Int)
      · generalize he : enI L id = en
        have HEN := Lib.hid he
        by_cases h3 : en < 0
        · have hf : fitI L ⟨2, id, x, k, n⟩ (m : Nat) = true := by unfold fitI bare; rw [he]; simp [hr, hx0, hx1]; omega
          rw [hf]
          clear hf he
          clear hr
          unfold evA at HE ⊢
          go_enter Tryz.func61, Tryz.ntmps61
          go_wp2_with fail
          refine (rr_val k n true _ HR.out).mono ?_
          rintro r w1 ⟨rfl, hb⟩
          have HEX := Lib.hid (HE.out.below hb)
          clear hb
          have c0 := HEX.out.c0
          have c1 := HEX.out.c1
          dsimp only at c0 c1
          go_wp2_with fail
          refine (end_rv A c L id en _ (H.out.below HEX.out.bel (Nat.le_refl _)) hl HEN.out).mono ?_
          rintro r w9 ⟨rfl, rfl⟩
          go_wp2
          go_ret
          exact ⟨rfl, HEX.out.bel⟩
        · have hf : fitI L ⟨2, id, x, k, n⟩ (m : Nat) = false := by unfold fitI bare; rw [he]; simp [hr, hx0, hx1]; omega
          rw [hf]
          clear hf he
          clear hr
          unfold evA at HE ⊢
          go_enter Tryz.func61, Tryz.ntmps61
          go_wp2_with fail
          refine (rr_val k n true _ HR.out).mono ?_
          rintro r w1 ⟨rfl, hb⟩
          have HEX := Lib.hid (HE.out.below hb)
          clear hb
          have c0 := HEX.out.c0
          have c1 := HEX.out.c1
          dsimp only at c0 c1
          go_wp2_with fail
          refine (end_rv A c L id en _ (H.out.below HEX.out.bel (Nat.le_refl _)) hl HEN.out).mono ?_
          rintro r w9 ⟨rfl, rfl⟩
          go_wp2
          go_ret
          exact ⟨Cx.ret_bool (decide_eq_false (by omega)), HEX.out.bel⟩
      · have hf : fitI L ⟨2, id, x, k, n⟩ (m : Nat) = false := by unfold fitI bare; simp [hr, hx0, hx1]; omega
        rw [hf]
        clear hf
        clear hr
        unfold evA at HE ⊢
        go_enter Tryz.func61, Tryz.ntmps61
        go_wp2_with fail
        refine (rr_val k n true _ HR.out).mono ?_
        rintro r w1 ⟨rfl, hb⟩
        have HEX := Lib.hid (HE.out.below hb)
        clear hb
        have c0 := HEX.out.c0
        have c1 := HEX.out.c1
        dsimp only at c0 c1
        go_wp2
        go_ret
        exact ⟨rfl, HEX.out.bel⟩
    · have hf : fitI L ⟨2, id, x, k, n⟩ (m : Nat) = false := by unfold fitI bare; simp [hr, hx0, hx1]; omega
      rw [hf]
      clear hf
      clear hr
      unfold evA at HE ⊢
      go_enter Tryz.func61, Tryz.ntmps61
      go_wp2_with fail
      refine (rr_val k n true _ HR.out).mono ?_
      rintro r w1 ⟨rfl, hb⟩
      have HEX := Lib.hid (HE.out.below hb)
      clear hb
      have c0 := HEX.out.c0
      have c1 := HEX.out.c1
      dsimp only at c0 c1
      go_wp2
      go_ret
      exact ⟨rfl, HEX.out.bel⟩
set_option maxRecDepth 100000 in
set_option maxHeartbeats 4000000 in
theorem fr_0 (A : Option Addr) (c : Nat) (L : List Ev) (e : Ev) (m : Nat) (w : World) (h : Rn.At encE w A L) (_ : L.length ≤ 2000) (hm : m ≤ 100) (k0 : e.kd = 0) :
    Calls Tryz.prog 61 #[.slice A L.length c, .agg (evA e), .int .i64 (m : Nat)] w fun r w' => r = .returned (.bool (fitI L e (m : Nat))) ∧ Below w.heap.size w w' := by
  have H := Lib.hid h
  have HE := Lib.hid (EB.newr w e)
  have hN : (m : Int) ≤ 100 := by omega
  clear h
  obtain ⟨kd, id, x, k, n⟩ := e
  dsimp only at k0 ⊢
  subst k0
  by_cases h0 : x = 0
  rotate_left
  · have hf : fitI L ⟨0, id, x, k, n⟩ (m : Nat) = false := by unfold fitI bare; simp [h0]
    rw [hf]
    clear hf
    unfold evA at HE ⊢
    go_enter Tryz.func61, Tryz.ntmps61
    go_wp2
    go_ret
    exact ⟨rfl, HE.out.bel⟩
  subst h0
  by_cases h0 : k = 0
  rotate_left
  · have hf : fitI L ⟨0, id, 0, k, n⟩ (m : Nat) = false := by unfold fitI bare; simp [h0]
    rw [hf]
    clear hf
    unfold evA at HE ⊢
    go_enter Tryz.func61, Tryz.ntmps61
    go_wp2
    go_ret
    exact ⟨rfl, HE.out.bel⟩
  subst h0
  by_cases h0 : n = 0
  rotate_left
  · have hf : fitI L ⟨0, id, 0, 0, n⟩ (m : Nat) = false := by unfold fitI bare; simp [h0]
    rw [hf]
    clear hf
    unfold evA at HE ⊢
    go_enter Tryz.func61, Tryz.ntmps61
    go_wp2
    go_ret
    exact ⟨rfl, HE.out.bel⟩
  subst h0
  by_cases h1 : id = (m : Int) + 1
  · subst h1
    by_cases h2 : (m : Int) + 1 ≤ 32
    · have hf : fitI L ⟨0, (m : Int) + 1, 0, 0, 0⟩ (m : Nat) = true := by unfold fitI bare; simp; omega
      rw [hf]
      clear hf
      unfold evA at HE ⊢
      go_enter Tryz.func61, Tryz.ntmps61
      go_wp2
      go_ret
      exact ⟨Cx.ret_bool (by simp), HE.out.bel⟩
    · have hf : fitI L ⟨0, (m : Int) + 1, 0, 0, 0⟩ (m : Nat) = false := by unfold fitI bare; simp; omega
      rw [hf]
      clear hf
      unfold evA at HE ⊢
      go_enter Tryz.func61, Tryz.ntmps61
      go_wp2
      go_ret
      exact ⟨Cx.ret_bool (by simp), HE.out.bel⟩
  · have hf : fitI L ⟨0, id, 0, 0, 0⟩ (m : Nat) = false := by unfold fitI bare; simp [h1]
    rw [hf]
    clear hf
    unfold evA at HE ⊢
    go_enter Tryz.func61, Tryz.ntmps61
    go_wp2
    go_ret
    exact ⟨Cx.ret_bool (by simp), HE.out.bel⟩
set_option maxRecDepth 100000 in
set_option maxHeartbeats 4000000 in
theorem fr_3 (A : Option Addr) (c : Nat) (L : List Ev) (e : Ev) (m : Nat) (w : World) (h : Rn.At encE w A L) (hl : L.length ≤ 2000) (hm : m ≤ 100) (k0 : e.kd = 3) :
    Calls Tryz.prog 61 #[.slice A L.length c, .agg (evA e), .int .i64 (m : Nat)] w fun r w' => r = .returned (.bool (fitI L e (m : Nat))) ∧ Below w.heap.size w w' := by
  have H := Lib.hid h
  have HE := Lib.hid (EB.newr w e)
  have hN : (m : Int) ≤ 100 := by omega
  clear h
  obtain ⟨kd, id, x, k, n⟩ := e
  dsimp only at k0 ⊢
  subst k0
  by_cases h0 : x = 0
  rotate_left
  · have hf : fitI L ⟨3, id, x, k, n⟩ (m : Nat) = false := by unfold fitI bare; simp [h0]
    rw [hf]
    clear hf
    unfold evA at HE ⊢
    go_enter Tryz.func61, Tryz.ntmps61
    go_wp2
    go_ret
    exact ⟨rfl, HE.out.bel⟩
  subst h0
  by_cases h0 : k = 0
  rotate_left
  · have hf : fitI L ⟨3, id, 0, k, n⟩ (m : Nat) = false := by unfold fitI bare; simp [h0]
    rw [hf]
    clear hf
    unfold evA at HE ⊢
    go_enter Tryz.func61, Tryz.ntmps61
    go_wp2
    go_ret
    exact ⟨rfl, HE.out.bel⟩
  subst h0
  by_cases h0 : n = 0
  rotate_left
  · have hf : fitI L ⟨3, id, 0, 0, n⟩ (m : Nat) = false := by unfold fitI bare; simp [h0]
    rw [hf]
    clear hf
    unfold evA at HE ⊢
    go_enter Tryz.func61, Tryz.ntmps61
    go_wp2
    go_ret
    exact ⟨rfl, HE.out.bel⟩
  subst h0
  by_cases h1 : id ≥ 1
  · by_cases h2 : id ≤ (m : Int)
    · generalize he : enI L id = en
      have HEN := Lib.hid he
      by_cases h3 : en < 0
      · have hf : fitI L ⟨3, id, 0, 0, 0⟩ (m : Nat) = true := by unfold fitI bare; rw [he]; simp []; omega
        rw [hf]
        clear hf he
        unfold evA at HE ⊢
        go_enter Tryz.func61, Tryz.ntmps61
        have HEX := Lib.hid HE.out
        go_wp2_with fail
        refine (end_rv A c L id en _ (H.out.below HEX.out.bel (Nat.le_refl _)) hl HEN.out).mono ?_
        rintro r w9 ⟨rfl, rfl⟩
        go_wp2
        go_ret
        exact ⟨rfl, HEX.out.bel⟩
      · have hf : fitI L ⟨3, id, 0, 0, 0⟩ (m : Nat) = false := by unfold fitI bare; rw [he]; simp []; omega
        rw [hf]
        clear hf he
        unfold evA at HE ⊢
        go_enter Tryz.func61, Tryz.ntmps61
        have HEX := Lib.hid HE.out
        go_wp2_with fail
        refine (end_rv A c L id en _ (H.out.below HEX.out.bel (Nat.le_refl _)) hl HEN.out).mono ?_
        rintro r w9 ⟨rfl, rfl⟩
        go_wp2
        go_ret
        exact ⟨Cx.ret_bool (decide_eq_false (by omega)), HEX.out.bel⟩
    · have hf : fitI L ⟨3, id, 0, 0, 0⟩ (m : Nat) = false := by unfold fitI bare; simp []; omega
      rw [hf]
      clear hf
      unfold evA at HE ⊢
      go_enter Tryz.func61, Tryz.ntmps61
      have HEX := Lib.hid HE.out
      go_wp2
      go_ret
      exact ⟨rfl, HEX.out.bel⟩
  · have hf : fitI L ⟨3, id, 0, 0, 0⟩ (m : Nat) = false := by unfold fitI bare; simp []; omega
    rw [hf]
    clear hf
    unfold evA at HE ⊢
    go_enter Tryz.func61, Tryz.ntmps61
    have HEX := Lib.hid HE.out
    go_wp2
    go_ret
    exact ⟨rfl, HEX.out.bel⟩
set_option maxRecDepth 100000 in
set_option maxHeartbeats 4000000 in
theorem fr_4 (A : Option Addr) (c : Nat) (L : List Ev) (e : Ev) (m : Nat) (w : World) (h : Rn.At encE w A L) (hl : L.length ≤ 2000) (hm : m ≤ 100) (k0 : e.kd = 4) :
    Calls Tryz.prog 61 #[.slice A L.length c, .agg (evA e), .int .i64 (m : Nat)] w fun r w' => r = .returned (.bool (fitI L e (m : Nat))) ∧ Below w.heap.size w w' := by
  have H := Lib.hid h
  have HE := Lib.hid (EB.newr w e)
  have hN : (m : Int) ≤ 100 := by omega
  clear h
  obtain ⟨kd, id, x, k, n⟩ := e
  dsimp only at k0 ⊢
  subst k0
  by_cases h0 : x = 0
  rotate_left
  · have hf : fitI L ⟨4, id, x, k, n⟩ (m : Nat) = false := by unfold fitI bare; simp [h0]
    rw [hf]
    clear hf
    unfold evA at HE ⊢
    go_enter Tryz.func61, Tryz.ntmps61
    go_wp2
    go_ret
    exact ⟨rfl, HE.out.bel⟩
  subst h0
  by_cases h0 : k = 0
  rotate_left
  · have hf : fitI L ⟨4, id, 0, k, n⟩ (m : Nat) = false := by unfold fitI bare; simp [h0]
    rw [hf]
    clear hf
    unfold evA at HE ⊢
    go_enter Tryz.func61, Tryz.ntmps61
    go_wp2
    go_ret
    exact ⟨rfl, HE.out.bel⟩
  subst h0
  by_cases h0 : n = 0
  rotate_left
  · have hf : fitI L ⟨4, id, 0, 0, n⟩ (m : Nat) = false := by unfold fitI bare; simp [h0]
    rw [hf]
    clear hf
    unfold evA at HE ⊢
    go_enter Tryz.func61, Tryz.ntmps61
    go_wp2
    go_ret
    exact ⟨rfl, HE.out.bel⟩
  subst h0
  by_cases h1 : id ≥ 1
  · by_cases h2 : id ≤ (m : Int)
    · generalize he : enI L id = en
      have HEN := Lib.hid he
      by_cases h3 : en < 0
      · have hf : fitI L ⟨4, id, 0, 0, 0⟩ (m : Nat) = true := by unfold fitI bare; rw [he]; simp []; omega
        rw [hf]
        clear hf he
        unfold evA at HE ⊢
        go_enter Tryz.func61, Tryz.ntmps61
        have HEX := Lib.hid HE.out
        go_wp2_with fail
        refine (end_rv A c L id en _ (H.out.below HEX.out.bel (Nat.le_refl _)) hl HEN.out).mono ?_
        rintro r w9 ⟨rfl, rfl⟩
        go_wp2
        go_ret
        exact ⟨rfl, HEX.out.bel⟩
      · have hf : fitI L ⟨4, id, 0, 0, 0⟩ (m : Nat) = false := by unfold fitI bare; rw [he]; simp []; omega
        rw [hf]
        clear hf he
        unfold evA at HE ⊢
        go_enter Tryz.func61, Tryz.ntmps61
        have HEX := Lib.hid HE.out
        go_wp2_with fail
        refine (end_rv A c L id en _ (H.out.below HEX.out.bel (Nat.le_refl _)) hl HEN.out).mono ?_
        rintro r w9 ⟨rfl, rfl⟩
        go_wp2
        go_ret
        exact ⟨Cx.ret_bool (decide_eq_false (by omega)), HEX.out.bel⟩
    · have hf : fitI L ⟨4, id, 0, 0, 0⟩ (m : Nat) = false := by unfold fitI bare; simp []; omega
      rw [hf]
      clear hf
      unfold evA at HE ⊢
      go_enter Tryz.func61, Tryz.ntmps61
      have HEX := Lib.hid HE.out
      go_wp2
      go_ret
      exact ⟨rfl, HEX.out.bel⟩
  · have hf : fitI L ⟨4, id, 0, 0, 0⟩ (m : Nat) = false := by unfold fitI bare; simp []; omega
    rw [hf]
    clear hf
    unfold evA at HE ⊢
    go_enter Tryz.func61, Tryz.ntmps61
    have HEX := Lib.hid HE.out
    go_wp2
    go_ret
    exact ⟨rfl, HEX.out.bel⟩
set_option maxRecDepth 100000 in
set_option maxHeartbeats 4000000 in
theorem fr_o (A : Option Addr) (c : Nat) (L : List Ev) (e : Ev) (m : Nat) (w : World) (h : Rn.At encE w A L) (_ : L.length ≤ 2000) (hm : m ≤ 100) (k0 : e.kd < 0 ∨ 4 < e.kd) :
    Calls Tryz.prog 61 #[.slice A L.length c, .agg (evA e), .int .i64 (m : Nat)] w fun r w' => r = .returned (.bool (fitI L e (m : Nat))) ∧ Below w.heap.size w w' := by
  have H := Lib.hid h
  have HE := Lib.hid (EB.newr w e)
  have hN : (m : Int) ≤ 100 := by omega
  clear h
  obtain ⟨kd, id, x, k, n⟩ := e
  dsimp only at k0 ⊢
  have hf : fitI L ⟨kd, id, x, k, n⟩ (m : Nat) = false := by unfold fitI; rw [if_pos k0]
  rw [hf]
  clear hf
  by_cases h0 : kd < 0
  · unfold evA at HE ⊢
    go_enter Tryz.func61, Tryz.ntmps61
    go_wp2
    go_ret
    exact ⟨rfl, HE.out.bel⟩
  · have h1 : kd > 4 := by omega
    unfold evA at HE ⊢
    go_enter Tryz.func61, Tryz.ntmps61
    go_wp2
    go_ret
    exact ⟨rfl, HE.out.bel⟩
theorem fits_r (A : Option Addr) (c : Nat) (L : List Ev) (e : Ev) (m : Nat) (w : World) {b : Bool} (h : Rn.At encE w A L) (hl : L.length ≤ 2000) (hm : m ≤ 100) (hb : fitI L e (m : Nat) = b) :
    Calls Tryz.prog 61 #[.slice A L.length c, .agg (evA e), .int .i64 (m : Nat)] w fun r w' => r = .returned (.bool b) ∧ Below w.heap.size w w' := by
  subst hb
  by_cases k0 : e.kd = 0
  · exact fr_0 A c L e m w h hl hm k0
  by_cases k1 : e.kd = 1
  · exact fr_1 A c L e m w h hl hm k1
  by_cases k2 : e.kd = 2
  · exact fr_2 A c L e m w h hl hm k2
  by_cases k3 : e.kd = 3
  · exact fr_3 A c L e m w h hl hm k3
  by_cases k4 : e.kd = 4
  · exact fr_4 A c L e m w h hl hm k4
  exact fr_o A c L e m w h hl hm (by omega)
end Go.Proofs.YtaonepbongbhoaaGreat.Hi
namespace Go.Proofs.YtaonepbongbhoaaGreat.Hi
open Go.RowKit
open Tx (i64p right)
open Az
theorem fits_rt (A : Option Addr) (c : Nat) (L : List Ev) (k : Nat) (e : Ev) (m : Nat) (w : World) {b : Bool} (h : Rn.At encE w A L) (hl : L.length ≤ 2000) (hk : k ≤ L.length) (hm : m ≤ 100) (hb : fitI (L.take k) e (m : Nat) = b) :
    Calls Tryz.prog 61 #[.slice A k c, .agg (evA e), .int .i64 (m : Nat)] w fun r w' => r = .returned (.bool b) ∧ Below w.heap.size w w' := by
  have hlen : (L.take k).length = k := by rw [List.length_take, Nat.min_eq_left hk]
  have := fits_r A c (L.take k) e m w (h.take k) (by rw [hlen]; omega) hm hb
  rwa [hlen] at this
/-- the events, and all that lay there. -/
structure RS (w : World) (A : Option Addr) (L : List Ev) (W : World) : Prop where
  at_ : Rn.At encE W A L
  bel : Below w.heap.size w W
theorem RS.below {w : World} {A : Option Addr} {L : List Ev} {W W' : World} (h : RS w A L W) (hb : Below W.heap.size W W') : RS w A L W' := ⟨h.at_.below hb (Nat.le_refl _), h.bel.trans (hb.mono h.bel.size)⟩
theorem RS.drew {w : World} {A : Option Addr} {L : List Ev} {W : World} (h : RS w A L W) : RS w A L W.drew := h.below (Below.refl _ _).drew
def RiRel (w : World) (A : Option Addr) (L : List Ev) (v i : Value) (wr : World) : Prop := ∃ (k : Nat) (l : List Cr), k ≤ L.length ∧ i = .int .i64 (k : Nat) ∧ run 0 [] (L.take k) = some l ∧ v = .int .i64 (l.length : Nat) ∧ RS w A L wr
theorem step_len0 {l : List Cr} {e : Ev} (n : Nat) (h : e.kd = 0) : (step l n e).length = l.length + 1 := by rw [step_begin n h]; simp
theorem step_len1 {l : List Cr} {e : Ev} (n : Nat) (h : e.kd ≠ 0) (hf : fits l e = true) : (step l n e).length = l.length := by
  obtain ⟨j, c, hid, hc, _⟩ := fits_at h hf
  rw [step_note n h hid hc, List.length_set]
theorem rw_take {L : List Ev} {k : Nat} {l : List Cr} (hl : L.length ≤ 2000) (h : run 0 [] (L.take k) = some l) : Rw (L.take k) l := ⟨h, by rw [List.length_take]; omega⟩
set_option maxRecDepth 100000 in
set_option maxHeartbeats 4000000 in
theorem right_r (A : Option Addr) (c : Nat) (L : List Ev) (w : World) (h : Rn.At encE w A L) (hl : L.length ≤ 300) (hc : L.length ≤ c) (hcm : c ≤ maxLen) :
    Calls Tryz.prog 30 #[.slice A L.length c] w fun r w' => r = .returned (.bool (crs L).isSome) ∧ Below w.heap.size w w' := by
  have H := Lib.hid h
  have HL := Lib.hid (show L.length ≤ 2000 from by omega)
  have HC := Lib.hid (show L.length ≤ c ∧ c ≤ maxLen from ⟨hc, hcm⟩)
  have hN : (L.length : Int) ≤ 300 := by omega
  clear h hc hcm
  generalize hcr : (crs L).isSome = b
  have HCR := Lib.hid hcr
  clear hcr
  go_enter Tryz.func30, Tryz.ntmps30
  go_wp2
  go_loopw [3, 4] (RiRel w A L) (fun _ i _ => L.length - (intOf i).toNat)
  case atStart => exact ⟨0, [], Nat.zero_le _, rfl, rfl, rfl, H.out, Below.refl _ _⟩
  case round =>
    obtain ⟨k, l, hk, rfl, hrun, rfl, hs⟩ := hrel
    have HS := Lib.hid hs
    have HR := Lib.hid hrun
    have HKL := Lib.hid hk
    have HRW := Lib.hid (rw_take HL.out hrun)
    have HLL := Lib.hid (show l.length ≤ 100 from by have := HRW.out.few; omega)
    have hLN : (l.length : Int) ≤ 32 := by have := HRW.out.few; omega
    clear hs hrun
    by_cases hlt : k < L.length
    · have he : L[k]? = some L[k] := List.getElem?_eq_getElem hlt
      generalize hEE : L[k] = e at he
      have HE := Lib.hid he
      have HKN := Lib.hid (show ¬ (k : Int) ≥ 2000 from by omega)
      have HKB := Lib.hid hlt
      have HKI := Lib.hid (show (k : Int) < (L.length : Int) from by omega)
      have HKC := Lib.hid (show (k : Int) ≤ (c : Int) ∧ (c : Int) ≤ 9223372036854775807 from ⟨by have := HC.out.1; omega, by have := HC.out.2; unfold maxLen at this; omega⟩)
      obtain ⟨ad, rfl, _⟩ := atE HS.out.at_ he
      have hlt' : (k : Int) < (L.length : Int) := by omega
      clear he hEE
      cases hf : fits l e with
      | false =>
        have HF := Lib.hid ((HRW.out.tie.fits HRW.out.com e).trans hf)
        have hcn := crs_stop HR.out HE.out hf
        obtain rfl : b = false := by rw [← HCR.out, hcn]; rfl
        clear hf hcn
        go_wp2
        refine wp_region_noPanic ?_
        refine region_z 14 (fun W => RS w (some ad) L W) 14 1000 rfl (by kernel_rfl) (by exact HS.out.drew) (fun hHeld => ?_)
        refine take_d [1, 2, 3, 4, 5, 6, 7, 8, 9, 10, 11, 12, 13] 0 11 (.int .i64 (k : Nat)) rfl rfl (by kernel_rfl) (by kernel_rfl) (by kernel_rfl) (by kernel_rfl) (fun _ _ _ h => h) (Or.inl ⟨by rfl, by intro W hW; clear hW; go_simp⟩) hHeld ?_
        simp only [put_laws]
        refine take_d [2, 3, 4, 5, 6, 7, 8, 9, 10, 11, 12, 13] 1 12 (.bool false) rfl rfl (by kernel_rfl) (by kernel_rfl) (by kernel_rfl) (by kernel_rfl) (fun _ _ _ h => h) (Or.inl ⟨by rfl, by intro W hW; have hk := HKN.out; clear hW; go_simp⟩) hHeld ?_
        simp only [put_laws]
        refine take_d [3, 4, 5, 6, 7, 8, 9, 10, 11, 12, 13] 2 13 (.bool false) rfl rfl (by kernel_rfl) (by kernel_rfl) (by kernel_rfl) (by kernel_rfl) (fun _ _ _ h => h) (Or.inl ⟨by rfl, by intro W hW; clear hW; go_simp⟩) hHeld ?_
        simp only [put_laws]
        refine take_d [5, 11, 12, 13] 3 14 (.slice (some ad) L.length c) rfl rfl (by kernel_rfl) (by kernel_rfl) (by kernel_rfl) (by kernel_rfl) (fun _ _ _ h => h) (Or.inl ⟨by rfl, by intro W hW; clear hW; go_simp⟩) hHeld ?_
        simp only [put_laws]
        refine take_d [5, 11, 12, 13] 4 15 (.int .i64 (k : Nat)) rfl rfl (by kernel_rfl) (by kernel_rfl) (by kernel_rfl) (by kernel_rfl) (fun _ _ _ h => h) (Or.inl ⟨by rfl, by intro W hW; clear hW; go_simp⟩) hHeld ?_
        simp only [put_laws]
        refine take_d [11, 12, 13] 5 16 (.slice (some ad) k c) rfl rfl (by kernel_rfl) (by kernel_rfl) (by kernel_rfl) (by kernel_rfl) (fun _ _ _ h => h) (Or.inl ⟨by rfl, by intro W hW; have h1 := HKC.out.1; have h2 := HKC.out.2; clear hW; go_simp⟩) hHeld ?_
        simp only [put_laws]
        refine take_d [8, 9, 11, 12, 13] 6 17 (.slice (some ad) L.length c) rfl rfl (by kernel_rfl) (by kernel_rfl) (by kernel_rfl) (by kernel_rfl) (fun _ _ _ h => h) (Or.inl ⟨by rfl, by intro W hW; clear hW; go_simp⟩) hHeld ?_
        simp only [put_laws]
        refine take_d [8, 9, 11, 12, 13] 7 18 (.int .i64 (k : Nat)) rfl rfl (by kernel_rfl) (by kernel_rfl) (by kernel_rfl) (by kernel_rfl) (fun _ _ _ h => h) (Or.inl ⟨by rfl, by intro W hW; clear hW; go_simp⟩) hHeld ?_
        simp only [put_laws]
        refine take_d [9, 11, 12, 13] 8 19 (.pointer (some (ad.add (k * 5)))) rfl rfl (by kernel_rfl) (by kernel_rfl) (by kernel_rfl) (by kernel_rfl) (fun _ _ _ h => h) (Or.inl ⟨by rfl, by intro W hW; have h1 := HKB.out; have h2 := HKI.out; clear hW; go_simp⟩) hHeld ?_
        simp only [put_laws]
        refine take_d [11, 12, 13] 9 20 (.agg (#[.int .i64 e.kd, .int .i64 e.id, .int .i64 e.x, .int .i64 e.k, .int .i64 e.n])) rfl rfl (by kernel_rfl) (by kernel_rfl) (by kernel_rfl) (by kernel_rfl) (fun _ _ _ h => h) (Or.inl ⟨by rfl, by intro W hW; have hh := atE hW.at_ HE.out; obtain ⟨ad2, e2, hh⟩ := hh; have e2 := Option.some.inj e2; subst e2; obtain ⟨c0, c1, c2, c3, c4⟩ := hh; clear hW; go_simp⟩) hHeld ?_
        simp only [put_laws]
        refine take_d [11, 12, 13] 10 21 (.int .i64 (l.length : Nat)) rfl rfl (by kernel_rfl) (by kernel_rfl) (by kernel_rfl) (by kernel_rfl) (fun _ _ _ h => h) (Or.inl ⟨by rfl, by intro W hW; clear hW; go_simp⟩) hHeld ?_
        simp only [put_laws]
        refine anyZ_ready (rs := [11]) (by kernel_rfl) (by simp) ?_
        refine AllZ.cons rfl (fun K hK => ?_) AllZ.nil
        go_simp
        refine (fits_rt (some ad) c L k e l.length _ hHeld.at_ HL.out HKL.out HLL.out HF.out).mono ?_
        rintro e w1 ⟨rfl, hb⟩
        try go_simp
        have hPrev := hHeld
        have hHeld := hHeld.below hb
        clear hPrev
        refine hK.out _ _ hHeld (fun hHeld => ?_)
        clear hK K
        refine take_d [13] 12 23 (.bool true) rfl rfl (by kernel_rfl) (by kernel_rfl) (by kernel_rfl) (by kernel_rfl) (fun _ _ _ h => h) (Or.inl ⟨by rfl, by intro W hW; clear hW; go_simp⟩) hHeld ?_
        simp only [put_laws]
        refine take_d [] 13 24 (.bool true) rfl rfl (by kernel_rfl) (by kernel_rfl) (by kernel_rfl) (by kernel_rfl) (fun _ _ _ h => h) (Or.inl ⟨by rfl, by intro W hW; clear hW; go_simp⟩) hHeld ?_
        simp only [put_laws]
        refine anyZ_done (by kernel_rfl) ?_ _
        refine NoPanic.normal ?_
        have HH := Lib.hid hHeld
        clear hHeld
        go_wp2
        go_ret
        exact ⟨rfl, HH.out.bel⟩
      | true =>
        have HF := Lib.hid ((HRW.out.tie.fits HRW.out.com e).trans hf)
        have HRN := Lib.hid (show run 0 [] (L.take (k + 1)) = some (step l k e) from by rw [run_take HR.out HE.out, if_pos hf])
        have HFT := Lib.hid hf
        clear hf
        by_cases h0 : e.kd = 0
        · have HSL := Lib.hid (step_len0 (l := l) k h0)
          have b0 : (e.kd == 0) = true := by simpa using h0
          clear h0
          go_wp2
          refine wp_region_noPanic ?_
          refine region_z 14 (fun W => RS w (some ad) L W) 14 1000 rfl (by kernel_rfl) (by exact HS.out.drew) (fun hHeld => ?_)
          refine take_d [1, 2, 3, 4, 5, 6, 7, 8, 9, 10, 11, 12, 13] 0 11 (.int .i64 (k : Nat)) rfl rfl (by kernel_rfl) (by kernel_rfl) (by kernel_rfl) (by kernel_rfl) (fun _ _ _ h => h) (Or.inl ⟨by rfl, by intro W hW; clear hW; go_simp⟩) hHeld ?_
          simp only [put_laws]
          refine take_d [2, 3, 4, 5, 6, 7, 8, 9, 10, 11, 12, 13] 1 12 (.bool false) rfl rfl (by kernel_rfl) (by kernel_rfl) (by kernel_rfl) (by kernel_rfl) (fun _ _ _ h => h) (Or.inl ⟨by rfl, by intro W hW; have hk := HKN.out; clear hW; go_simp⟩) hHeld ?_
          simp only [put_laws]
          refine take_d [3, 4, 5, 6, 7, 8, 9, 10, 11, 12, 13] 2 13 (.bool false) rfl rfl (by kernel_rfl) (by kernel_rfl) (by kernel_rfl) (by kernel_rfl) (fun _ _ _ h => h) (Or.inl ⟨by rfl, by intro W hW; clear hW; go_simp⟩) hHeld ?_
          simp only [put_laws]
          refine take_d [5, 11, 12, 13] 3 14 (.slice (some ad) L.length c) rfl rfl (by kernel_rfl) (by kernel_rfl) (by kernel_rfl) (by kernel_rfl) (fun _ _ _ h => h) (Or.inl ⟨by rfl, by intro W hW; clear hW; go_simp⟩) hHeld ?_
          simp only [put_laws]
          refine take_d [5, 11, 12, 13] 4 15 (.int .i64 (k : Nat)) rfl rfl (by kernel_rfl) (by kernel_rfl) (by kernel_rfl) (by kernel_rfl) (fun _ _ _ h => h) (Or.inl ⟨by rfl, by intro W hW; clear hW; go_simp⟩) hHeld ?_
          simp only [put_laws]
          refine take_d [11, 12, 13] 5 16 (.slice (some ad) k c) rfl rfl (by kernel_rfl) (by kernel_rfl) (by kernel_rfl) (by kernel_rfl) (fun _ _ _ h => h) (Or.inl ⟨by rfl, by intro W hW; have h1 := HKC.out.1; have h2 := HKC.out.2; clear hW; go_simp⟩) hHeld ?_
          simp only [put_laws]
          refine take_d [8, 9, 11, 12, 13] 6 17 (.slice (some ad) L.length c) rfl rfl (by kernel_rfl) (by kernel_rfl) (by kernel_rfl) (by kernel_rfl) (fun _ _ _ h => h) (Or.inl ⟨by rfl, by intro W hW; clear hW; go_simp⟩) hHeld ?_
          simp only [put_laws]
          refine take_d [8, 9, 11, 12, 13] 7 18 (.int .i64 (k : Nat)) rfl rfl (by kernel_rfl) (by kernel_rfl) (by kernel_rfl) (by kernel_rfl) (fun _ _ _ h => h) (Or.inl ⟨by rfl, by intro W hW; clear hW; go_simp⟩) hHeld ?_
          simp only [put_laws]
          refine take_d [9, 11, 12, 13] 8 19 (.pointer (some (ad.add (k * 5)))) rfl rfl (by kernel_rfl) (by kernel_rfl) (by kernel_rfl) (by kernel_rfl) (fun _ _ _ h => h) (Or.inl ⟨by rfl, by intro W hW; have h1 := HKB.out; have h2 := HKI.out; clear hW; go_simp⟩) hHeld ?_
          simp only [put_laws]
          refine take_d [11, 12, 13] 9 20 (.agg (#[.int .i64 e.kd, .int .i64 e.id, .int .i64 e.x, .int .i64 e.k, .int .i64 e.n])) rfl rfl (by kernel_rfl) (by kernel_rfl) (by kernel_rfl) (by kernel_rfl) (fun _ _ _ h => h) (Or.inl ⟨by rfl, by intro W hW; have hh := atE hW.at_ HE.out; obtain ⟨ad2, e2, hh⟩ := hh; have e2 := Option.some.inj e2; subst e2; obtain ⟨c0, c1, c2, c3, c4⟩ := hh; clear hW; go_simp⟩) hHeld ?_
          simp only [put_laws]
          refine take_d [11, 12, 13] 10 21 (.int .i64 (l.length : Nat)) rfl rfl (by kernel_rfl) (by kernel_rfl) (by kernel_rfl) (by kernel_rfl) (fun _ _ _ h => h) (Or.inl ⟨by rfl, by intro W hW; clear hW; go_simp⟩) hHeld ?_
          simp only [put_laws]
          refine anyZ_ready (rs := [11]) (by kernel_rfl) (by simp) ?_
          refine AllZ.cons rfl (fun K hK => ?_) AllZ.nil
          go_simp
          refine (fits_rt (some ad) c L k e l.length _ hHeld.at_ HL.out HKL.out HLL.out HF.out).mono ?_
          rintro e w1 ⟨rfl, hb⟩
          try go_simp
          have hPrev := hHeld
          have hHeld := hHeld.below hb
          clear hPrev
          refine hK.out _ _ hHeld (fun hHeld => ?_)
          clear hK K
          refine take_d [13] 12 23 (.bool false) rfl rfl (by kernel_rfl) (by kernel_rfl) (by kernel_rfl) (by kernel_rfl) (fun _ _ _ h => h) (Or.inl ⟨by rfl, by intro W hW; clear hW; go_simp⟩) hHeld ?_
          simp only [put_laws]
          refine take_d [] 13 24 (.bool false) rfl rfl (by kernel_rfl) (by kernel_rfl) (by kernel_rfl) (by kernel_rfl) (fun _ _ _ h => h) (Or.inl ⟨by rfl, by intro W hW; clear hW; go_simp⟩) hHeld ?_
          simp only [put_laws]
          refine anyZ_done (by kernel_rfl) ?_ _
          refine NoPanic.normal ?_
          have HH := Lib.hid hHeld
          clear hHeld
          have hh := atE HH.out.at_ HE.out
          obtain ⟨ad2, e2, hh⟩ := hh
          have e2 := Option.some.inj e2
          subst e2
          obtain ⟨c0, c1, c2, c3, c4⟩ := hh
          go_wp2
          go_roundw
          case rel => exact ⟨k + 1, _, by have := HKB.out; omega, by go_num, HRN.out, by rw [HSL.out]; go_num, HH.out⟩
          case measure => simp [intOf]; have := HKB.out; omega
        · have HSL := Lib.hid (step_len1 k h0 HFT.out)
          have b0 : (e.kd == 0) = false := by simpa using h0
          clear h0
          go_wp2
          refine wp_region_noPanic ?_
          refine region_z 14 (fun W => RS w (some ad) L W) 14 1000 rfl (by kernel_rfl) (by exact HS.out.drew) (fun hHeld => ?_)
          refine take_d [1, 2, 3, 4, 5, 6, 7, 8, 9, 10, 11, 12, 13] 0 11 (.int .i64 (k : Nat)) rfl rfl (by kernel_rfl) (by kernel_rfl) (by kernel_rfl) (by kernel_rfl) (fun _ _ _ h => h) (Or.inl ⟨by rfl, by intro W hW; clear hW; go_simp⟩) hHeld ?_
          simp only [put_laws]
          refine take_d [2, 3, 4, 5, 6, 7, 8, 9, 10, 11, 12, 13] 1 12 (.bool false) rfl rfl (by kernel_rfl) (by kernel_rfl) (by kernel_rfl) (by kernel_rfl) (fun _ _ _ h => h) (Or.inl ⟨by rfl, by intro W hW; have hk := HKN.out; clear hW; go_simp⟩) hHeld ?_
          simp only [put_laws]
          refine take_d [3, 4, 5, 6, 7, 8, 9, 10, 11, 12, 13] 2 13 (.bool false) rfl rfl (by kernel_rfl) (by kernel_rfl) (by kernel_rfl) (by kernel_rfl) (fun _ _ _ h => h) (Or.inl ⟨by rfl, by intro W hW; clear hW; go_simp⟩) hHeld ?_
          simp only [put_laws]
          refine take_d [5, 11, 12, 13] 3 14 (.slice (some ad) L.length c) rfl rfl (by kernel_rfl) (by kernel_rfl) (by kernel_rfl) (by kernel_rfl) (fun _ _ _ h => h) (Or.inl ⟨by rfl, by intro W hW; clear hW; go_simp⟩) hHeld ?_
          simp only [put_laws]
          refine take_d [5, 11, 12, 13] 4 15 (.int .i64 (k : Nat)) rfl rfl (by kernel_rfl) (by kernel_rfl) (by kernel_rfl) (by kernel_rfl) (fun _ _ _ h => h) (Or.inl ⟨by rfl, by intro W hW; clear hW; go_simp⟩) hHeld ?_
          simp only [put_laws]
          refine take_d [11, 12, 13] 5 16 (.slice (some ad) k c) rfl rfl (by kernel_rfl) (by kernel_rfl) (by kernel_rfl) (by kernel_rfl) (fun _ _ _ h => h) (Or.inl ⟨by rfl, by intro W hW; have h1 := HKC.out.1; have h2 := HKC.out.2; clear hW; go_simp⟩) hHeld ?_
          simp only [put_laws]
          refine take_d [8, 9, 11, 12, 13] 6 17 (.slice (some ad) L.length c) rfl rfl (by kernel_rfl) (by kernel_rfl) (by kernel_rfl) (by kernel_rfl) (fun _ _ _ h => h) (Or.inl ⟨by rfl, by intro W hW; clear hW; go_simp⟩) hHeld ?_
          simp only [put_laws]
          refine take_d [8, 9, 11, 12, 13] 7 18 (.int .i64 (k : Nat)) rfl rfl (by kernel_rfl) (by kernel_rfl) (by kernel_rfl) (by kernel_rfl) (fun _ _ _ h => h) (Or.inl ⟨by rfl, by intro W hW; clear hW; go_simp⟩) hHeld ?_
          simp only [put_laws]
          refine take_d [9, 11, 12, 13] 8 19 (.pointer (some (ad.add (k * 5)))) rfl rfl (by kernel_rfl) (by kernel_rfl) (by kernel_rfl) (by kernel_rfl) (fun _ _ _ h => h) (Or.inl ⟨by rfl, by intro W hW; have h1 := HKB.out; have h2 := HKI.out; clear hW; go_simp⟩) hHeld ?_
          simp only [put_laws]
          refine take_d [11, 12, 13] 9 20 (.agg (#[.int .i64 e.kd, .int .i64 e.id, .int .i64 e.x, .int .i64 e.k, .int .i64 e.n])) rfl rfl (by kernel_rfl) (by kernel_rfl) (by kernel_rfl) (by kernel_rfl) (fun _ _ _ h => h) (Or.inl ⟨by rfl, by intro W hW; have hh := atE hW.at_ HE.out; obtain ⟨ad2, e2, hh⟩ := hh; have e2 := Option.some.inj e2; subst e2; obtain ⟨c0, c1, c2, c3, c4⟩ := hh; clear hW; go_simp⟩) hHeld ?_
          simp only [put_laws]
          refine take_d [11, 12, 13] 10 21 (.int .i64 (l.length : Nat)) rfl rfl (by kernel_rfl) (by kernel_rfl) (by kernel_rfl) (by kernel_rfl) (fun _ _ _ h => h) (Or.inl ⟨by rfl, by intro W hW; clear hW; go_simp⟩) hHeld ?_
          simp only [put_laws]
          refine anyZ_ready (rs := [11]) (by kernel_rfl) (by simp) ?_
          refine AllZ.cons rfl (fun K hK => ?_) AllZ.nil
          go_simp
          refine (fits_rt (some ad) c L k e l.length _ hHeld.at_ HL.out HKL.out HLL.out HF.out).mono ?_
          rintro e w1 ⟨rfl, hb⟩
          try go_simp
          have hPrev := hHeld
          have hHeld := hHeld.below hb
          clear hPrev
          refine hK.out _ _ hHeld (fun hHeld => ?_)
          clear hK K
          refine take_d [13] 12 23 (.bool false) rfl rfl (by kernel_rfl) (by kernel_rfl) (by kernel_rfl) (by kernel_rfl) (fun _ _ _ h => h) (Or.inl ⟨by rfl, by intro W hW; clear hW; go_simp⟩) hHeld ?_
          simp only [put_laws]
          refine take_d [] 13 24 (.bool false) rfl rfl (by kernel_rfl) (by kernel_rfl) (by kernel_rfl) (by kernel_rfl) (fun _ _ _ h => h) (Or.inl ⟨by rfl, by intro W hW; clear hW; go_simp⟩) hHeld ?_
          simp only [put_laws]
          refine anyZ_done (by kernel_rfl) ?_ _
          refine NoPanic.normal ?_
          have HH := Lib.hid hHeld
          clear hHeld
          have hh := atE HH.out.at_ HE.out
          obtain ⟨ad2, e2, hh⟩ := hh
          have e2 := Option.some.inj e2
          subst e2
          obtain ⟨c0, c1, c2, c3, c4⟩ := hh
          go_wp2
          go_roundw
          case rel => exact ⟨k + 1, _, by have := HKB.out; omega, by go_num, HRN.out, by rw [HSL.out], HH.out⟩
          case measure => simp [intOf]; have := HKB.out; omega
    · have hlt' : ¬ (k : Int) < (L.length : Int) := by omega
      have hT : L.take k = L := List.take_of_length_le (by omega)
      have hcs : crs L = some l := by rw [crs_run HL.out, ← hT]; exact HR.out
      obtain rfl : b = true := by rw [← HCR.out, hcs]; rfl
      clear hT hcs
      go_wp2
      go_ret
      exact ⟨rfl, HS.out.bel⟩
theorem vtI : Rn.VT encI 23 3 := by
  obtain ⟨i0, hi, hz0, hz1, hz2⟩ := info_parts int_info
  exact ⟨Tryz.underlying23, i0, _, hi, hz0, hz1, by rw [hz2]; decide, rfl⟩
theorem idsL_succ (n : Nat) : idsL (n + 1) = idsL n ++ [(n : Int) + 1] := by unfold idsL; rw [List.range_succ, List.map_append]; rfl
theorem idsL_len (n : Nat) : (idsL n).length = n := by unfold idsL; simp
theorem idsL_get {n j : Nat} (h : j < n) : (idsL n)[j]? = some ((j : Int) + 1) := by unfold idsL; simp [h]
theorem run_prk {L : List Ev} {l : List Cr} (h : run 0 [] L = some l) (k : Nat) : ∃ l', run 0 [] (L.take k) = some l' := by
  have e : L.take k ++ L.drop k = L := List.take_append_drop _ _
  rw [← e, run_append] at h
  cases q : run 0 [] (L.take k) with
  | some l' => exact ⟨l', rfl⟩
  | none => rw [q] at h; cases h
theorem fits_pre {L : List Ev} {l l' : List Cr} {k : Nat} {e : Ev} (h : run 0 [] L = some l) (h' : run 0 [] (L.take k) = some l') (he : L[k]? = some e) : fits l' e = true := by
  cases hf : fits l' e with
  | true => rfl
  | false =>
    have := crs_stop h' he hf
    obtain ⟨l2, h2⟩ := run_prk h (k + 1)
    have h3 := run_take h' he
    rw [h2, hf] at h3
    cases h3
def IiRel (w : World) (A : Option Addr) (L : List Ev) (v i : Value) (wr : World) : Prop := ∃ (k : Nat) (l : List Cr), k ≤ L.length ∧ i = .int .i64 (k : Nat) ∧ run 0 [] (L.take k) = some l ∧ Rn.Own encI wr w.heap.size 3 v (idsL l.length) ∧ RS w A L wr
theorem ids_one (W : World) (g : Nat) (hg : W.heap.size = g) (v : Int) : Rn.At encI (W.alloc (.cells #[.int .i64 v] 3)) (some ⟨g, 0, none⟩) [v] := Rn.At.new W v #[.int .i64 v] rfl 3 hg
theorem own_rows {α : Type} {E : Rn.Enc α} {w w' : World} {base : Nat} {e : TypeId} {v : Value} {l : List α} (h : Rn.Own E w' base e v l) (hb : Below w.heap.size w w') : RowS E l w (.returned v) w' := by
  obtain ⟨B, d, rfl, h1, h2, h3, _⟩ := h.slice
  exact ⟨B, d, rfl, h1, h2, h3, hb⟩
set_option maxRecDepth 100000 in
set_option maxHeartbeats 4000000 in
theorem ids_r (A : Option Addr) (c : Nat) (L : List Ev) (w : World) (h : Rn.At encE w A L) (hl : L.length ≤ 300) (hc : L.length ≤ c) (hcm : c ≤ maxLen) :
    Calls Tryz.prog 23 #[.slice A L.length c] w (RowS encI (idsL (crL L).length) w) := by
  have H := Lib.hid h
  have HL := Lib.hid (show L.length ≤ 2000 from by omega)
  have HR := Lib.hid (right_r A c L w h hl hc hcm)
  have hN : (L.length : Int) ≤ 300 := by omega
  clear h hc hcm
  cases hcs : crs L with
  | none =>
    have hL0 : crL L = [] := by unfold crL; rw [hcs]; rfl
    rw [hL0]
    rw [hcs] at HR
    clear hcs hL0
    go_enter Tryz.func23, Tryz.ntmps23
    go_wp2_with fail
    refine HR.out.mono ?_
    rintro r w1 ⟨rfl, hb⟩
    have HB := Lib.hid hb
    clear hb
    go_wp2
    go_ret
    exact own_rows (Rn.Own.nil (E := encI) w1 w.heap.size 3) HB.out
  | some l0 =>
    have hL0 : crL L = l0 := by unfold crL; rw [hcs]; rfl
    have HRN := Lib.hid (crs_some hcs).2
    rw [hL0]
    rw [hcs] at HR
    clear hcs hL0
    go_enter Tryz.func23, Tryz.ntmps23
    go_wp2_with fail
    refine HR.out.mono ?_
    rintro r w1 ⟨rfl, hb⟩
    have HS0 := Lib.hid (show RS w A L w1 from ⟨H.out.below hb (Nat.le_refl _), hb⟩)
    clear hb
    go_wp2
    go_loopw [3, 4] (IiRel w A L) (fun _ i _ => L.length - (intOf i).toNat)
    case atStart => exact ⟨0, [], Nat.zero_le _, rfl, rfl, Rn.Own.nil _ _ _, HS0.out⟩
    case round =>
      obtain ⟨k, l, hk, rfl, hrun, hown, hs⟩ := hrel
      have HS := Lib.hid hs
      have HO := Lib.hid hown
      have HRK := Lib.hid hrun
      have HRW := Lib.hid (rw_take HL.out hrun)
      have hLN : l.length ≤ 32 := HRW.out.few
      clear hs hrun hown
      by_cases hlt : k < L.length
      · have he : L[k]? = some L[k] := List.getElem?_eq_getElem hlt
        generalize hEE : L[k] = e at he
        have HE := Lib.hid he
        obtain ⟨ad, rfl, c0, c1, c2, c3, c4⟩ := atE HS.out.at_ he
        have hlt' : (k : Int) < (L.length : Int) := by omega
        have hf := fits_pre HRN.out HRK.out he
        have HRN1 := Lib.hid (show run 0 [] (L.take (k + 1)) = some (step l k e) from by rw [run_take HRK.out he, if_pos hf])
        have HFT := Lib.hid hf
        clear he hEE hf
        by_cases h0 : e.kd = 0
        · have HSL := Lib.hid (step_len0 (l := l) k h0)
          have b0 : (e.kd == 0) = true := by simpa using h0
          have hid := (fits_begin h0 HFT.out).1
          have HA := Lib.hid (ids_one wr wr.heap.size rfl e.id)
          have HID := Lib.hid hid
          clear h0 hid
          go_wp2_with (at_builtin; refine Rn.append_row encI vtI rfl _ _ rfl rfl (HO.out.alloc _) _ _ [e.id] rfl rfl HA.out ?c1 ?c2 ?_)
          case c1 => rw [idsL_len]; simp; omega
          case c2 => have := HS.out.bel.size; simp; omega
          intro v' w2 ho hb hs
          have HO2 := Lib.hid (show Rn.Own encI w2 w.heap.size 3 v' (idsL (step l k e).length) from by rw [HSL.out, idsL_succ, ← HID.out]; exact ho)
          have HS2 := Lib.hid (show RS w (some ad) L w2 from by
            have hb1 := (HS.out.bel.alloc HS.out.bel.size (.cells #[.int .i64 e.id] 3)).trans hb
            exact ⟨H.out.below hb1 (Nat.le_refl _), hb1⟩)
          clear ho hb hs c0 c1 c2 c3 c4
          go_wp2
          go_roundw
          case rel => exact ⟨k + 1, _, by omega, by go_num, HRN1.out, HO2.out, HS2.out⟩
          case measure => simp [intOf]; omega
        · have HSL := Lib.hid (step_len1 k h0 HFT.out)
          have b0 : (e.kd == 0) = false := by simpa using h0
          clear h0
          go_wp2
          go_roundw
          case rel => exact ⟨k + 1, _, by omega, by go_num, HRN1.out, by rw [HSL.out]; exact HO.out, HS.out⟩
          case measure => simp [intOf]; omega
      · have hlt' : ¬ (k : Int) < (L.length : Int) := by omega
        have hT : L.take k = L := List.take_of_length_le (by omega)
        have hll : l = l0 := by have h1 := HRK.out; rw [hT, HRN.out] at h1; exact (Option.some.inj h1).symm
        subst hll
        clear hT
        go_wp2
        go_ret
        exact own_rows HO.out HS.out.bel
end Go.Proofs.YtaonepbongbhoaaGreat.Hi
namespace Go.Proofs.YtaonepbongbhoaaGreat.Hi
open Go.RowKit
open Tx (i64p)
/-- the result's box, the matrix, the variables, the events. -/
structure GQ (w : World) (A : Option Addr) (L : List Ev) (q : Nat) (m : Mm.Gr) (W : World) : Prop where
  re : MatAt W w.heap.size zeroM 56
  bx : MatAt W (w.heap.size + 1) m 56
  mt : W.heap[q]? = some (.cells (metA L) 90 (0, 0))
  at_ : Rn.At encE W A L
  bel : Below w.heap.size w W
section
variable {w : World} {A : Option Addr} {L : List Ev} {q : Nat} {m : Mm.Gr}
theorem GQ.below {W W' : World} (h : GQ w A L q m W) (hb : Below W.heap.size W W') : GQ w A L q m W' :=
  ⟨h.re.below hb, h.bx.below hb, (hb.block q (Array.getElem?_eq_some_iff.1 h.mt).1).trans h.mt, h.at_.below hb (Nat.le_refl _), h.bel.trans (hb.mono h.bel.size)⟩
theorem GQ.put {W : World} {m' : Mm.Gr} (h : GQ w A L q m W) (hq : w.heap.size + 1 < q) (h0 : Rn.At encE w A L) : GQ w A L q m' (W.setRow (w.heap.size + 1) (matA m')) := by
  have hb : Below w.heap.size w (W.setRow (w.heap.size + 1) (matA m')) := setRow_below h.bel (by omega)
  exact ⟨h.re.setRow _ (by omega), matAt_put h.bx, (setRow_other _ _ _ _ (by omega)).trans h.mt, h0.below hb (Nat.le_refl _), hb⟩
end
theorem met_box (w3 : World) (L : List Ev) (z : Array Value) : ((w3.alloc (.cells z 90)).setRow w3.heap.size (metA L)).heap[w3.heap.size]? = some (.cells (metA L) 90 (0, 0)) ∧ Below w3.heap.size w3 ((w3.alloc (.cells z 90)).setRow w3.heap.size (metA L)) :=
  ⟨setRow_heap _ _ _ _ _ _ (heap_alloc_new _ _), setRow_below (Rn.below_new _ _) (Nat.le_refl _)⟩
/-- the edges of those whose turn was. -/
def Gd (L : List Ev) (n k b : Nat) (i j : Nat) : Prop := (i < k ∨ (i = k ∧ j < b)) ∧ i < n ∧ j < n ∧ i ≠ j ∧ Dc L i j
theorem gd_skip {L : List Ev} {n k b : Nat} {m : Mm.Gr} (h : Is m (Gd L n k b)) (hno : k = b ∨ ¬ Dc L k b) : Is m (Gd L n k (b + 1)) := by
  refine h.congr fun i j _ => ?_
  unfold Gd
  constructor
  · rintro ⟨h1, h2⟩; exact ⟨h1.imp id (fun h => ⟨h.1, by omega⟩), h2⟩
  · rintro ⟨h1, h2, h3, h4, h5⟩
    refine ⟨?_, h2, h3, h4, h5⟩
    rcases h1 with h1 | ⟨h1, h6⟩
    · exact .inl h1
    · rcases Nat.lt_or_ge j b with hj | hj
      · exact .inr ⟨h1, hj⟩
      · obtain rfl : j = b := by omega
        subst h1
        rcases hno with hno | hno
        · exact absurd hno h4
        · exact absurd h5 hno
theorem gd_put {L : List Ev} {n k b : Nat} {m : Mm.Gr} (h : Is m (Gd L n k b)) (hk : k < n) (hb : b < n) (hn : n ≤ 32) (hne : k ≠ b) (hyes : Dc L k b) : Is (Mm.put m k b) (Gd L n k (b + 1)) := by
  refine (h.put (a := k) (b := b) (by omega)).congr fun i j _ => ?_
  unfold Gd
  constructor
  · rintro (⟨h1, h2⟩ | ⟨rfl, rfl⟩)
    · exact ⟨h1.imp id (fun h => ⟨h.1, by omega⟩), h2⟩
    · exact ⟨.inr ⟨rfl, Nat.lt_succ_self _⟩, hk, hb, hne, hyes⟩
  · rintro ⟨h1, h2, h3, h4, h5⟩
    rcases h1 with h1 | ⟨h1, h6⟩
    · exact .inl ⟨.inl h1, h2, h3, h4, h5⟩
    · rcases Nat.lt_or_ge j b with hj | hj
      · exact .inl ⟨.inr ⟨h1, hj⟩, h2, h3, h4, h5⟩
      · exact .inr ⟨h1, by omega⟩
theorem gd_row {L : List Ev} {n k : Nat} {m : Mm.Gr} (h : Is m (Gd L n k n)) : Is m (Gd L n (k + 1) 0) := by
  refine h.congr fun i j _ => ?_
  unfold Gd
  constructor
  · rintro ⟨h1, h2⟩; exact ⟨.inl (by omega), h2⟩
  · rintro ⟨h1, h2, h3, h4⟩; exact ⟨by omega, h2, h3, h4⟩
theorem gd_all {L : List Ev} {l : List Cr} {m : Mm.Gr} (hr : Rw L l) (h : Is m (Gd L l.length l.length 0)) : Is m (Ge l) := by
  refine h.congr fun i j _ => ?_
  rw [ge_dc hr]
  unfold Gd
  exact ⟨fun h => h.2, fun h => ⟨.inl h.1, h⟩⟩
/-- by the variables so far. -/
def Dx (L : List Ev) (k b x : Nat) : Prop := (0 ≤ enI L ((k : Int) + 1) ∧ enI L ((k : Int) + 1) < whI L 0 ((b : Int) + 1)) ∨ ∃ y : Nat, y < x ∧ met L y = true ∧ ahead L ((k : Int) + 1) ((b : Int) + 1) y = true
theorem dx_all {L : List Ev} {k b x : Nat} (hx : x ≤ 64) (h : Dx L k b x) : Dc L k b := h.imp id (fun ⟨y, h1, h2⟩ => ⟨y, by omega, h2⟩)
theorem dx_step {L : List Ev} {k b x : Nat} (h : ¬ Dx L k b x) (hn : ¬ (met L x = true ∧ ahead L ((k : Int) + 1) ((b : Int) + 1) x = true)) : ¬ Dx L k b (x + 1) := by
  rintro (h1 | ⟨y, h1, h2⟩)
  · exact h (.inl h1)
  · rcases Nat.lt_or_ge y x with hy | hy
    · exact h (.inr ⟨y, hy, h2⟩)
    · obtain rfl : y = x := by omega
      exact hn h2
theorem dx_zero {L : List Ev} {k b : Nat} (h : ¬ (0 ≤ enI L ((k : Int) + 1) ∧ enI L ((k : Int) + 1) < whI L 0 ((b : Int) + 1))) : ¬ Dx L k b 0 := by
  rintro (h1 | ⟨y, h1, _⟩)
  · exact h h1
  · omega
def GxRel (L : List Ev) (k b : Nat) (w4 : World) (v i : Value) (wr : World) : Prop := ∃ (x : Nat) (s : Bool), x ≤ 64 ∧ i = .int .i64 (x : Nat) ∧ v = .bool s ∧ (s = true → Dc L k b) ∧ (s = false → ¬ Dx L k b x) ∧ wr = w4
def GaRel (w : World) (A : Option Addr) (L : List Ev) (q n : Nat) (i : Value) (wr : World) : Prop := ∃ (k : Nat) (m : Mm.Gr), k ≤ n ∧ i = .int .i64 ((k : Int) + 1) ∧ GQ w A L q m wr ∧ Is m (Gd L n k 0)
def GbRel (w : World) (A : Option Addr) (L : List Ev) (q n k : Nat) (i : Value) (wr : World) : Prop := ∃ (b : Nat) (m : Mm.Gr), b ≤ n ∧ i = .int .i64 ((b : Int) + 1) ∧ GQ w A L q m wr ∧ Is m (Gd L n k b)
theorem zero_two (w : World) : MatAt ((w.alloc (.cells #[Value.int .u64 0, Value.int .u64 0, Value.int .u64 0, Value.int .u64 0, Value.int .u64 0, Value.int .u64 0, Value.int .u64 0, Value.int .u64 0, Value.int .u64 0, Value.int .u64 0, Value.int .u64 0, Value.int .u64 0, Value.int .u64 0, Value.int .u64 0, Value.int .u64 0, Value.int .u64 0, Value.int .u64 0, Value.int .u64 0, Value.int .u64 0, Value.int .u64 0, Value.int .u64 0, Value.int .u64 0, Value.int .u64 0, Value.int .u64 0, Value.int .u64 0, Value.int .u64 0, Value.int .u64 0, Value.int .u64 0, Value.int .u64 0, Value.int .u64 0, Value.int .u64 0, Value.int .u64 0] 56)).alloc (.cells #[Value.int .u64 0, Value.int .u64 0, Value.int .u64 0, Value.int .u64 0, Value.int .u64 0, Value.int .u64 0, Value.int .u64 0, Value.int .u64 0, Value.int .u64 0, Value.int .u64 0, Value.int .u64 0, Value.int .u64 0, Value.int .u64 0, Value.int .u64 0, Value.int .u64 0, Value.int .u64 0, Value.int .u64 0, Value.int .u64 0, Value.int .u64 0, Value.int .u64 0, Value.int .u64 0, Value.int .u64 0, Value.int .u64 0, Value.int .u64 0, Value.int .u64 0, Value.int .u64 0, Value.int .u64 0, Value.int .u64 0, Value.int .u64 0, Value.int .u64 0, Value.int .u64 0, Value.int .u64 0] 56)) w.heap.size zeroM 56 ∧ MatAt ((w.alloc (.cells #[Value.int .u64 0, Value.int .u64 0, Value.int .u64 0, Value.int .u64 0, Value.int .u64 0, Value.int .u64 0, Value.int .u64 0, Value.int .u64 0, Value.int .u64 0, Value.int .u64 0, Value.int .u64 0, Value.int .u64 0, Value.int .u64 0, Value.int .u64 0, Value.int .u64 0, Value.int .u64 0, Value.int .u64 0, Value.int .u64 0, Value.int .u64 0, Value.int .u64 0, Value.int .u64 0, Value.int .u64 0, Value.int .u64 0, Value.int .u64 0, Value.int .u64 0, Value.int .u64 0, Value.int .u64 0, Value.int .u64 0, Value.int .u64 0, Value.int .u64 0, Value.int .u64 0, Value.int .u64 0] 56)).alloc (.cells #[Value.int .u64 0, Value.int .u64 0, Value.int .u64 0, Value.int .u64 0, Value.int .u64 0, Value.int .u64 0, Value.int .u64 0, Value.int .u64 0, Value.int .u64 0, Value.int .u64 0, Value.int .u64 0, Value.int .u64 0, Value.int .u64 0, Value.int .u64 0, Value.int .u64 0, Value.int .u64 0, Value.int .u64 0, Value.int .u64 0, Value.int .u64 0, Value.int .u64 0, Value.int .u64 0, Value.int .u64 0, Value.int .u64 0, Value.int .u64 0, Value.int .u64 0, Value.int .u64 0, Value.int .u64 0, Value.int .u64 0, Value.int .u64 0, Value.int .u64 0, Value.int .u64 0, Value.int .u64 0] 56)) (w.heap.size + 1) zeroM 56 ∧ Below w.heap.size w ((w.alloc (.cells #[Value.int .u64 0, Value.int .u64 0, Value.int .u64 0, Value.int .u64 0, Value.int .u64 0, Value.int .u64 0, Value.int .u64 0, Value.int .u64 0, Value.int .u64 0, Value.int .u64 0, Value.int .u64 0, Value.int .u64 0, Value.int .u64 0, Value.int .u64 0, Value.int .u64 0, Value.int .u64 0, Value.int .u64 0, Value.int .u64 0, Value.int .u64 0, Value.int .u64 0, Value.int .u64 0, Value.int .u64 0, Value.int .u64 0, Value.int .u64 0, Value.int .u64 0, Value.int .u64 0, Value.int .u64 0, Value.int .u64 0, Value.int .u64 0, Value.int .u64 0, Value.int .u64 0, Value.int .u64 0] 56)).alloc (.cells #[Value.int .u64 0, Value.int .u64 0, Value.int .u64 0, Value.int .u64 0, Value.int .u64 0, Value.int .u64 0, Value.int .u64 0, Value.int .u64 0, Value.int .u64 0, Value.int .u64 0, Value.int .u64 0, Value.int .u64 0, Value.int .u64 0, Value.int .u64 0, Value.int .u64 0, Value.int .u64 0, Value.int .u64 0, Value.int .u64 0, Value.int .u64 0, Value.int .u64 0, Value.int .u64 0, Value.int .u64 0, Value.int .u64 0, Value.int .u64 0, Value.int .u64 0, Value.int .u64 0, Value.int .u64 0, Value.int .u64 0, Value.int .u64 0, Value.int .u64 0, Value.int .u64 0, Value.int .u64 0] 56)) := by
  have h1 : MatAt (w.alloc (.cells #[Value.int .u64 0, Value.int .u64 0, Value.int .u64 0, Value.int .u64 0, Value.int .u64 0, Value.int .u64 0, Value.int .u64 0, Value.int .u64 0, Value.int .u64 0, Value.int .u64 0, Value.int .u64 0, Value.int .u64 0, Value.int .u64 0, Value.int .u64 0, Value.int .u64 0, Value.int .u64 0, Value.int .u64 0, Value.int .u64 0, Value.int .u64 0, Value.int .u64 0, Value.int .u64 0, Value.int .u64 0, Value.int .u64 0, Value.int .u64 0, Value.int .u64 0, Value.int .u64 0, Value.int .u64 0, Value.int .u64 0, Value.int .u64 0, Value.int .u64 0, Value.int .u64 0, Value.int .u64 0] 56)) w.heap.size zeroM 56 := zero_lit w 56
  have h2 : MatAt ((w.alloc (.cells #[Value.int .u64 0, Value.int .u64 0, Value.int .u64 0, Value.int .u64 0, Value.int .u64 0, Value.int .u64 0, Value.int .u64 0, Value.int .u64 0, Value.int .u64 0, Value.int .u64 0, Value.int .u64 0, Value.int .u64 0, Value.int .u64 0, Value.int .u64 0, Value.int .u64 0, Value.int .u64 0, Value.int .u64 0, Value.int .u64 0, Value.int .u64 0, Value.int .u64 0, Value.int .u64 0, Value.int .u64 0, Value.int .u64 0, Value.int .u64 0, Value.int .u64 0, Value.int .u64 0, Value.int .u64 0, Value.int .u64 0, Value.int .u64 0, Value.int .u64 0, Value.int .u64 0, Value.int .u64 0] 56)).alloc (.cells #[Value.int .u64 0, Value.int .u64 0, Value.int .u64 0, Value.int .u64 0, Value.int .u64 0, Value.int .u64 0, Value.int .u64 0, Value.int .u64 0, Value.int .u64 0, Value.int .u64 0, Value.int .u64 0, Value.int .u64 0, Value.int .u64 0, Value.int .u64 0, Value.int .u64 0, Value.int .u64 0, Value.int .u64 0, Value.int .u64 0, Value.int .u64 0, Value.int .u64 0, Value.int .u64 0, Value.int .u64 0, Value.int .u64 0, Value.int .u64 0, Value.int .u64 0, Value.int .u64 0, Value.int .u64 0, Value.int .u64 0, Value.int .u64 0, Value.int .u64 0, Value.int .u64 0, Value.int .u64 0] 56)) (w.alloc (.cells #[Value.int .u64 0, Value.int .u64 0, Value.int .u64 0, Value.int .u64 0, Value.int .u64 0, Value.int .u64 0, Value.int .u64 0, Value.int .u64 0, Value.int .u64 0, Value.int .u64 0, Value.int .u64 0, Value.int .u64 0, Value.int .u64 0, Value.int .u64 0, Value.int .u64 0, Value.int .u64 0, Value.int .u64 0, Value.int .u64 0, Value.int .u64 0, Value.int .u64 0, Value.int .u64 0, Value.int .u64 0, Value.int .u64 0, Value.int .u64 0, Value.int .u64 0, Value.int .u64 0, Value.int .u64 0, Value.int .u64 0, Value.int .u64 0, Value.int .u64 0, Value.int .u64 0, Value.int .u64 0] 56)).heap.size zeroM 56 := zero_lit (w.alloc (.cells #[Value.int .u64 0, Value.int .u64 0, Value.int .u64 0, Value.int .u64 0, Value.int .u64 0, Value.int .u64 0, Value.int .u64 0, Value.int .u64 0, Value.int .u64 0, Value.int .u64 0, Value.int .u64 0, Value.int .u64 0, Value.int .u64 0, Value.int .u64 0, Value.int .u64 0, Value.int .u64 0, Value.int .u64 0, Value.int .u64 0, Value.int .u64 0, Value.int .u64 0, Value.int .u64 0, Value.int .u64 0, Value.int .u64 0, Value.int .u64 0, Value.int .u64 0, Value.int .u64 0, Value.int .u64 0, Value.int .u64 0, Value.int .u64 0, Value.int .u64 0, Value.int .u64 0, Value.int .u64 0] 56)) 56
  rw [Rn.size_new] at h2
  exact ⟨h1.alloc _, h2, (Rn.below_new _ _).alloc (by simp) _⟩
theorem ahead_val (A : Option Addr) (c : Nat) (L : List Ev) (a b x : Int) (w : World) {v : Bool} (h : Rn.At encE w A L) (hl : L.length ≤ 2000) (hv : ahead L a b x = v) :
    Calls Tryz.prog 48 #[.slice A L.length c, .int .i64 a, .int .i64 b, .int .i64 x] w fun r w' => r = .returned (.bool v) ∧ w' = w := hv ▸ ahead_any A c L a b x w h hl
set_option maxRecDepth 100000 in
set_option maxHeartbeats 16000000 in
theorem graph_r (A : Option Addr) (c : Nat) (L : List Ev) (w : World) (h : Rn.At encE w A L) (hl : L.length ≤ 300) (hc : L.length ≤ c) (hcm : c ≤ maxLen) :
    Calls Tryz.prog 21 #[.slice A L.length c] w (GrPost L w) := by
  have H := Lib.hid h
  have HL := Lib.hid (show L.length ≤ 2000 from by omega)
  have HZ := Lib.hid (zero_two w)
  have HR := Lib.hid (right_r A c L ((w.alloc (.cells #[Value.int .u64 0, Value.int .u64 0, Value.int .u64 0, Value.int .u64 0, Value.int .u64 0, Value.int .u64 0, Value.int .u64 0, Value.int .u64 0, Value.int .u64 0, Value.int .u64 0, Value.int .u64 0, Value.int .u64 0, Value.int .u64 0, Value.int .u64 0, Value.int .u64 0, Value.int .u64 0, Value.int .u64 0, Value.int .u64 0, Value.int .u64 0, Value.int .u64 0, Value.int .u64 0, Value.int .u64 0, Value.int .u64 0, Value.int .u64 0, Value.int .u64 0, Value.int .u64 0, Value.int .u64 0, Value.int .u64 0, Value.int .u64 0, Value.int .u64 0, Value.int .u64 0, Value.int .u64 0] 56)).alloc (.cells #[Value.int .u64 0, Value.int .u64 0, Value.int .u64 0, Value.int .u64 0, Value.int .u64 0, Value.int .u64 0, Value.int .u64 0, Value.int .u64 0, Value.int .u64 0, Value.int .u64 0, Value.int .u64 0, Value.int .u64 0, Value.int .u64 0, Value.int .u64 0, Value.int .u64 0, Value.int .u64 0, Value.int .u64 0, Value.int .u64 0, Value.int .u64 0, Value.int .u64 0, Value.int .u64 0, Value.int .u64 0, Value.int .u64 0, Value.int .u64 0, Value.int .u64 0, Value.int .u64 0, Value.int .u64 0, Value.int .u64 0, Value.int .u64 0, Value.int .u64 0, Value.int .u64 0, Value.int .u64 0] 56)) (h.below HZ.out.2.2 (Nat.le_refl _)) hl hc hcm)
  have HIDS := Lib.hid (fun (W : World) (h : Rn.At encE W A L) => ids_r A c L W h hl hc hcm)
  have HVAR := Lib.hid (fun (W : World) (h : Rn.At encE W A L) => vars_any A c L W h HL.out)
  clear h hc hcm
  unfold GrPost
  cases hcs : crs L with
  | none =>
    have hL0 : crL L = [] := by unfold crL; rw [hcs]; rfl
    have HLE := Lib.hid (show Is zeroM (Ge (crL L)) from by
      rw [hL0]
      exact Is.zero.congr fun i j _ => ⟨fun h => h.elim, fun ⟨b, c, h, _⟩ => by simp at h⟩)
    rw [hcs] at HR
    clear hcs hL0
    go_enter Tryz.func21, Tryz.ntmps21
    go_wp2_with fail
    refine HR.out.mono ?_
    rintro r w1 ⟨rfl, hb⟩
    have HZ1 := Lib.hid (HZ.out.1.below hb)
    have HX1 := Lib.hid (HZ.out.2.1.below hb)
    have HB1 := Lib.hid (HZ.out.2.2.trans (hb.mono HZ.out.2.2.size))
    clear hb
    go_wp2_with (first
      | (refine wpList_load_row rfl 56 (.tmp 4) rfl (w.heap.size + 1) rfl 56 #[Value.int .u64 0, Value.int .u64 0, Value.int .u64 0, Value.int .u64 0, Value.int .u64 0, Value.int .u64 0, Value.int .u64 0, Value.int .u64 0, Value.int .u64 0, Value.int .u64 0, Value.int .u64 0, Value.int .u64 0, Value.int .u64 0, Value.int .u64 0, Value.int .u64 0, Value.int .u64 0, Value.int .u64 0, Value.int .u64 0, Value.int .u64 0, Value.int .u64 0, Value.int .u64 0, Value.int .u64 0, Value.int .u64 0, Value.int .u64 0, Value.int .u64 0, Value.int .u64 0, Value.int .u64 0, Value.int .u64 0, Value.int .u64 0, Value.int .u64 0, Value.int .u64 0, Value.int .u64 0] (0, 0) _ HX1.out Tryz.underlying56 rfl (by rw [← matA_zeroL]; exact rmatInfo _) ?_)
      | (refine wpList_store_row rfl 56 (.tmp 2) (.tmp 14) rfl w.heap.size #[Value.int .u64 0, Value.int .u64 0, Value.int .u64 0, Value.int .u64 0, Value.int .u64 0, Value.int .u64 0, Value.int .u64 0, Value.int .u64 0, Value.int .u64 0, Value.int .u64 0, Value.int .u64 0, Value.int .u64 0, Value.int .u64 0, Value.int .u64 0, Value.int .u64 0, Value.int .u64 0, Value.int .u64 0, Value.int .u64 0, Value.int .u64 0, Value.int .u64 0, Value.int .u64 0, Value.int .u64 0, Value.int .u64 0, Value.int .u64 0, Value.int .u64 0, Value.int .u64 0, Value.int .u64 0, Value.int .u64 0, Value.int .u64 0, Value.int .u64 0, Value.int .u64 0, Value.int .u64 0] rfl rfl 56 _ HZ1.out (by rw [← matA_zeroL]; exact rmatInfo _) (by rw [← matA_zeroL]) (by rw [← matA_zeroL]; exact matA_one _) ?_))
    refine bodyPost_ret (results_row_tmp rfl _ _ w.heap.size 56 #[Value.int .u64 0, Value.int .u64 0, Value.int .u64 0, Value.int .u64 0, Value.int .u64 0, Value.int .u64 0, Value.int .u64 0, Value.int .u64 0, Value.int .u64 0, Value.int .u64 0, Value.int .u64 0, Value.int .u64 0, Value.int .u64 0, Value.int .u64 0, Value.int .u64 0, Value.int .u64 0, Value.int .u64 0, Value.int .u64 0, Value.int .u64 0, Value.int .u64 0, Value.int .u64 0, Value.int .u64 0, Value.int .u64 0, Value.int .u64 0, Value.int .u64 0, Value.int .u64 0, Value.int .u64 0, Value.int .u64 0, Value.int .u64 0, Value.int .u64 0, Value.int .u64 0, Value.int .u64 0] (0, 0) _ _ (.bool false) rfl rfl (setRow_heap _ _ _ _ _ _ HZ1.out) Tryz.underlying56 (by rw [← matA_zeroL]; exact rmatInfo _)) rfl ⟨zeroM, by rw [matA_zeroL]; rfl, HLE.out, ?_⟩
    exact setRow_below HB1.out (Nat.le_refl _)
  | some l =>
    have hL0 : crL L = l := by unfold crL; rw [hcs]; rfl
    have HRW := Lib.hid (show Rw L l from ⟨(crs_some hcs).2, HL.out⟩)
    rw [hL0]
    have hin := HIDS.out
    rw [hL0] at hin
    have HIN := Lib.hid hin
    rw [hcs] at HR
    clear hcs hL0 hin HIDS
    generalize hn : l.length = n at HIN
    have HN := Lib.hid hn
    have HN32 := Lib.hid (show n ≤ 32 from by rw [← hn]; exact HRW.out.few)
    have hNN : (n : Int) ≤ 32 := by have := HN32.out; omega
    clear hn
    go_enter Tryz.func21, Tryz.ntmps21
    go_wp2_with fail
    refine HR.out.mono ?_
    rintro r w1 ⟨rfl, hb⟩
    have HZ1 := Lib.hid (HZ.out.1.below hb)
    have HX1 := Lib.hid (HZ.out.2.1.below hb)
    have HB1 := Lib.hid (HZ.out.2.2.trans (hb.mono HZ.out.2.2.size))
    clear hb
    go_wp2_with fail
    refine (HIN.out w1 (H.out.below HB1.out (Nat.le_refl _))).mono ?_
    rintro r w2 ⟨BI, dI, rfl, _, _, _, hb⟩
    have HZ2 := Lib.hid (HZ1.out.below hb)
    have HX2 := Lib.hid (HX1.out.below hb)
    have HB2 := Lib.hid (HB1.out.trans (hb.mono HB1.out.size))
    clear hb HZ1 HX1 HB1
    rw [idsL_len]
    go_wp2_with fail
    refine (HVAR.out w2 (H.out.below HB2.out (Nat.le_refl _))).mono ?_
    rintro r w3 ⟨rfl, hb⟩
    have HZ3 := Lib.hid (HZ2.out.below hb)
    have HX3 := Lib.hid (HX2.out.below hb)
    have HB3 := Lib.hid (HB2.out.trans (hb.mono HB2.out.size))
    clear hb HZ2 HX2 HB2
    go_wp2_with (refine wpList_store_row rfl 90 (.tmp 6) (.tmp 18) rfl w3.heap.size (metA L) rfl rfl 90 _ (heap_alloc_new _ _) (by rw [metA_size]; exact boolarr_info) (by rw [metA_size]; rfl) (metA_one _) ?_)
    generalize hw4 : World.setRow _ w3.heap.size (metA L) = w4
    have hmb : w4.heap[w3.heap.size]? = some (.cells (metA L) 90 (0, 0)) ∧ Below w3.heap.size w3 w4 := by rw [← hw4]; exact met_box w3 L _
    have hb4 := HB3.out.trans (hmb.2.mono HB3.out.size)
    have HG4 := Lib.hid (show GQ w A L w3.heap.size zeroM w4 from ⟨HZ3.out.below hmb.2, HX3.out.below hmb.2, hmb.1, H.out.below hb4 (Nat.le_refl _), hb4⟩)
    have HQ := Lib.hid (show w.heap.size + 1 < w3.heap.size from HX3.out.lt)
    clear hw4 hmb hb4 HZ3 HX3 HB3
    generalize w3.heap.size = q at HG4 HQ ⊢
    go_loopw [7] (GaRel w A L q n) (fun i _ => n + 1 - (intOf i).toNat)
    case atStart => exact ⟨0, _, Nat.zero_le _, rfl, HG4.out, Is.zero.congr fun i j _ => ⟨fun h => h.elim, fun ⟨h, _⟩ => by omega⟩⟩
    case round =>
      obtain ⟨k, m0, hk, rfl, hgs, his⟩ := hrel
      have HG0 := Lib.hid hgs
      have HI0 := Lib.hid his
      clear hgs his
      by_cases hlt : k < n
      · have hlt' : (k : Int) + 1 ≤ (n : Int) := by omega
        have HKN := Lib.hid (show k < n ∧ n ≤ 32 from ⟨hlt, HN32.out⟩)
        go_wp2
        go_loopw [8] (GbRel w A L q n k) (fun i _ => n + 1 - (intOf i).toNat)
        case atStart => exact ⟨0, _, Nat.zero_le _, rfl, HG0.out, HI0.out⟩
        case round =>
          obtain ⟨b, m, hb, rfl, hgs, his⟩ := hrel
          have HG := Lib.hid hgs
          have HI := Lib.hid his
          clear hgs his
          by_cases hlb : b < n
          · have hlb' : (b : Int) + 1 ≤ (n : Int) := by omega
            have HBN := Lib.hid (show b < n ∧ n ≤ 32 from ⟨hlb, HN32.out⟩)
            by_cases hab : k = b
            · have b0 : ((k : Int) + 1 == (b : Int) + 1) = true := by rw [beq_iff_eq]; omega
              have HI2 := Lib.hid (gd_skip HI.out (.inl hab))
              clear hab
              go_wp2
              go_roundw
              case rel => exact ⟨b + 1, _, by have := HBN.out; omega, by go_num, HG.out, HI2.out⟩
              case measure => simp [intOf]; have := HBN.out; omega
            · have b0 : ((k : Int) + 1 == (b : Int) + 1) = false := by rw [beq_eq_false_iff_ne]; omega
              have HNE := Lib.hid hab
              have HK1 := Lib.hid (show IntKind.i64.wrap (k : Int) = (k : Int) from by rw [IntKind.wrap_i64]; omega)
              generalize hen : enI L ((k : Int) + 1) = en
              generalize hwb : whI L 0 ((b : Int) + 1) = wb
              have HEN := Lib.hid hen
              have HWB := Lib.hid hwb
              clear hab hen hwb
              by_cases he0 : en ≥ 0
              · by_cases he1 : en < wb
                · have HD0 := Lib.hid (show Dc L k b from .inl (by rw [HEN.out, HWB.out]; exact ⟨he0, he1⟩))
                  go_wp2_with fail
                  refine (end_rv A c L ((k : Int) + 1) en _ HG.out.at_ HL.out HEN.out).mono ?_
                  rintro r w9 ⟨rfl, h9⟩
                  subst w9
                  go_wp2_with fail
                  refine (end_rv A c L ((k : Int) + 1) en _ HG.out.at_ HL.out HEN.out).mono ?_
                  rintro r w9 ⟨rfl, h9⟩
                  subst w9
                  go_wp2_with fail
                  refine (where_val A c L 0 ((b : Int) + 1) wb _ HG.out.at_ HL.out HWB.out).mono ?_
                  rintro r w9 ⟨rfl, h9⟩
                  subst w9
                  go_wp2
                  go_loopw [9, 10] (GxRel L k b wr) (fun _ i _ => 64 - (intOf i).toNat)
                  case atStart => exact ⟨0, true, by omega, rfl, rfl, (fun _ => HD0.out), (fun h => by cases h), rfl⟩
                  case round =>
                    obtain ⟨x, s, hx, rfl, rfl, hs1, hs0, hwx⟩ := hrel
                    subst hwx
                    have HS1 := Lib.hid hs1
                    have HS0 := Lib.hid hs0
                    clear hs1 hs0
                    cases s with
                    | true =>
                      have HDC := Lib.hid (HS1.out rfl)
                      by_cases hlx : (x : Int) < 64
                      · go_wp2_with (refine wpList_load_row rfl 56 (.tmp 4) rfl (w.heap.size + 1) rfl 56 (matA m) (0, 0) _ HG.out.bx Tryz.underlying56 rfl (rmatInfo m) ?_)
                        refine (rput_yes m k b _ HI.out.ok (by have := HKN.out; omega) (by have := HBN.out; omega) HNE.out).mono ?_
                        rintro r w9 ⟨rfl, hb9⟩
                        have HG9 := Lib.hid (HG.out.below hb9)
                        clear hb9
                        go_wp2_with (refine wpList_store_row rfl 56 (.tmp 4) (.tmp 73) rfl (w.heap.size + 1) (matA (Mm.put m k b)) rfl rfl 56 _ HG9.out.bx (rmatInfo _) (by rw [matA_size, matA_size]) (matA_one _) ?_)
                        have HG2 := Lib.hid (HG9.out.put (m' := Mm.put m k b) HQ.out H.out)
                        have HI2 := Lib.hid (gd_put HI.out HKN.out.1 HBN.out.1 HKN.out.2 HNE.out HDC.out)
                        generalize World.setRow _ (w.heap.size + 1) (matA (Mm.put m k b)) = w8 at HG2 ⊢
                        go_wp2
                        go_roundw
                        case rel => exact ⟨b + 1, _, by have := HBN.out; omega, by go_num, HG2.out, HI2.out⟩
                        case measure => simp [intOf]; have := HBN.out; omega
                      · go_wp2_with (refine wpList_load_row rfl 56 (.tmp 4) rfl (w.heap.size + 1) rfl 56 (matA m) (0, 0) _ HG.out.bx Tryz.underlying56 rfl (rmatInfo m) ?_)
                        refine (rput_yes m k b _ HI.out.ok (by have := HKN.out; omega) (by have := HBN.out; omega) HNE.out).mono ?_
                        rintro r w9 ⟨rfl, hb9⟩
                        have HG9 := Lib.hid (HG.out.below hb9)
                        clear hb9
                        go_wp2_with (refine wpList_store_row rfl 56 (.tmp 4) (.tmp 73) rfl (w.heap.size + 1) (matA (Mm.put m k b)) rfl rfl 56 _ HG9.out.bx (rmatInfo _) (by rw [matA_size, matA_size]) (matA_one _) ?_)
                        have HG2 := Lib.hid (HG9.out.put (m' := Mm.put m k b) HQ.out H.out)
                        have HI2 := Lib.hid (gd_put HI.out HKN.out.1 HBN.out.1 HKN.out.2 HNE.out HDC.out)
                        generalize World.setRow _ (w.heap.size + 1) (matA (Mm.put m k b)) = w8 at HG2 ⊢
                        go_wp2
                        go_roundw
                        case rel => exact ⟨b + 1, _, by have := HBN.out; omega, by go_num, HG2.out, HI2.out⟩
                        case measure => simp [intOf]; have := HBN.out; omega
                    | false =>
                      by_cases hlx : x < 64
                      · have hlx' : (x : Int) < 64 := by omega
                        have hx0 : (0 : Int) ≤ (x : Int) := by omega
                        have hmt := cell_of_row _ _ x _ _ (0, 0) HG.out.mt
                        rw [metA_get L x hlx] at hmt
                        cases hm : met L x with
                        | false =>
                          rw [hm] at hmt
                          have HDX := Lib.hid (dx_step (HS0.out rfl) (fun h => by rw [hm] at h; cases h.1))
                          clear hm
                          go_wp2
                          go_round
                          case rel => exact ⟨x + 1, false, by omega, by go_num, rfl, (fun h => by cases h), fun _ => HDX.out, rfl⟩
                          case measure => simp [intOf]; omega
                        | true =>
                          rw [hm] at hmt
                          cases ha : ahead L ((k : Int) + 1) ((b : Int) + 1) (x : Int) with
                          | false =>
                            have HDX := Lib.hid (dx_step (HS0.out rfl) (fun h => by rw [ha] at h; cases h.2))
                            have HAH := Lib.hid ha
                            clear hm ha
                            go_wp2_with fail
                            refine (ahead_val A c L ((k : Int) + 1) ((b : Int) + 1) (x : Int) _ HG.out.at_ HL.out HAH.out).mono ?_
                            rintro r w9 ⟨rfl, h9⟩
                            subst w9
                            go_wp2
                            go_round
                            case rel => exact ⟨x + 1, false, by omega, by go_num, rfl, (fun h => by cases h), fun _ => HDX.out, rfl⟩
                            case measure => simp [intOf]; omega
                          | true =>
                            have HDX := Lib.hid (show Dc L k b from .inr ⟨x, hlx, hm, ha⟩)
                            have HAH := Lib.hid ha
                            clear hm ha
                            go_wp2_with fail
                            refine (ahead_val A c L ((k : Int) + 1) ((b : Int) + 1) (x : Int) _ HG.out.at_ HL.out HAH.out).mono ?_
                            rintro r w9 ⟨rfl, h9⟩
                            subst w9
                            go_wp2
                            go_round
                            case rel => exact ⟨x + 1, true, by omega, by go_num, rfl, (fun _ => HDX.out), (fun h => by cases h), rfl⟩
                            case measure => simp [intOf]; omega
                      · have hlx' : ¬ (x : Int) < 64 := by omega
                        obtain rfl : x = 64 := by omega
                        have HDC := Lib.hid (show ¬ Dc L k b from fun h => HS0.out rfl h)
                        have HI2 := Lib.hid (gd_skip HI.out (.inr HDC.out))
                        go_wp2
                        go_roundw
                        case rel => exact ⟨b + 1, _, by have := HBN.out; omega, by go_num, HG.out, HI2.out⟩
                        case measure => simp [intOf]; have := HBN.out; omega
                · have HD0 := Lib.hid (show ¬ Dx L k b 0 from dx_zero (by rw [HEN.out, HWB.out]; exact fun h => he1 h.2))
                  go_wp2_with fail
                  refine (end_rv A c L ((k : Int) + 1) en _ HG.out.at_ HL.out HEN.out).mono ?_
                  rintro r w9 ⟨rfl, h9⟩
                  subst w9
                  go_wp2_with fail
                  refine (end_rv A c L ((k : Int) + 1) en _ HG.out.at_ HL.out HEN.out).mono ?_
                  rintro r w9 ⟨rfl, h9⟩
                  subst w9
                  go_wp2_with fail
                  refine (where_val A c L 0 ((b : Int) + 1) wb _ HG.out.at_ HL.out HWB.out).mono ?_
                  rintro r w9 ⟨rfl, h9⟩
                  subst w9
                  go_wp2
                  go_loopw [9, 10] (GxRel L k b wr) (fun _ i _ => 64 - (intOf i).toNat)
                  case atStart => exact ⟨0, false, by omega, rfl, congrArg Value.bool (decide_eq_false (by omega)), (fun h => by cases h), fun _ => HD0.out, rfl⟩
                  case round =>
                    obtain ⟨x, s, hx, rfl, rfl, hs1, hs0, hwx⟩ := hrel
                    subst hwx
                    have HS1 := Lib.hid hs1
                    have HS0 := Lib.hid hs0
                    clear hs1 hs0
                    cases s with
                    | true =>
                      have HDC := Lib.hid (HS1.out rfl)
                      by_cases hlx : (x : Int) < 64
                      · go_wp2_with (refine wpList_load_row rfl 56 (.tmp 4) rfl (w.heap.size + 1) rfl 56 (matA m) (0, 0) _ HG.out.bx Tryz.underlying56 rfl (rmatInfo m) ?_)
                        refine (rput_yes m k b _ HI.out.ok (by have := HKN.out; omega) (by have := HBN.out; omega) HNE.out).mono ?_
                        rintro r w9 ⟨rfl, hb9⟩
                        have HG9 := Lib.hid (HG.out.below hb9)
                        clear hb9
                        go_wp2_with (refine wpList_store_row rfl 56 (.tmp 4) (.tmp 73) rfl (w.heap.size + 1) (matA (Mm.put m k b)) rfl rfl 56 _ HG9.out.bx (rmatInfo _) (by rw [matA_size, matA_size]) (matA_one _) ?_)
                        have HG2 := Lib.hid (HG9.out.put (m' := Mm.put m k b) HQ.out H.out)
                        have HI2 := Lib.hid (gd_put HI.out HKN.out.1 HBN.out.1 HKN.out.2 HNE.out HDC.out)
                        generalize World.setRow _ (w.heap.size + 1) (matA (Mm.put m k b)) = w8 at HG2 ⊢
                        go_wp2
                        go_roundw
                        case rel => exact ⟨b + 1, _, by have := HBN.out; omega, by go_num, HG2.out, HI2.out⟩
                        case measure => simp [intOf]; have := HBN.out; omega
                      · go_wp2_with (refine wpList_load_row rfl 56 (.tmp 4) rfl (w.heap.size + 1) rfl 56 (matA m) (0, 0) _ HG.out.bx Tryz.underlying56 rfl (rmatInfo m) ?_)
                        refine (rput_yes m k b _ HI.out.ok (by have := HKN.out; omega) (by have := HBN.out; omega) HNE.out).mono ?_
                        rintro r w9 ⟨rfl, hb9⟩
                        have HG9 := Lib.hid (HG.out.below hb9)
                        clear hb9
                        go_wp2_with (refine wpList_store_row rfl 56 (.tmp 4) (.tmp 73) rfl (w.heap.size + 1) (matA (Mm.put m k b)) rfl rfl 56 _ HG9.out.bx (rmatInfo _) (by rw [matA_size, matA_size]) (matA_one _) ?_)
                        have HG2 := Lib.hid (HG9.out.put (m' := Mm.put m k b) HQ.out H.out)
                        have HI2 := Lib.hid (gd_put HI.out HKN.out.1 HBN.out.1 HKN.out.2 HNE.out HDC.out)
                        generalize World.setRow _ (w.heap.size + 1) (matA (Mm.put m k b)) = w8 at HG2 ⊢
                        go_wp2
                        go_roundw
                        case rel => exact ⟨b + 1, _, by have := HBN.out; omega, by go_num, HG2.out, HI2.out⟩
                        case measure => simp [intOf]; have := HBN.out; omega
                    | false =>
                      by_cases hlx : x < 64
                      · have hlx' : (x : Int) < 64 := by omega
                        have hx0 : (0 : Int) ≤ (x : Int) := by omega
                        have hmt := cell_of_row _ _ x _ _ (0, 0) HG.out.mt
                        rw [metA_get L x hlx] at hmt
                        cases hm : met L x with
                        | false =>
                          rw [hm] at hmt
                          have HDX := Lib.hid (dx_step (HS0.out rfl) (fun h => by rw [hm] at h; cases h.1))
                          clear hm
                          go_wp2
                          go_round
                          case rel => exact ⟨x + 1, false, by omega, by go_num, rfl, (fun h => by cases h), fun _ => HDX.out, rfl⟩
                          case measure => simp [intOf]; omega
                        | true =>
                          rw [hm] at hmt
                          cases ha : ahead L ((k : Int) + 1) ((b : Int) + 1) (x : Int) with
                          | false =>
                            have HDX := Lib.hid (dx_step (HS0.out rfl) (fun h => by rw [ha] at h; cases h.2))
                            have HAH := Lib.hid ha
                            clear hm ha
                            go_wp2_with fail
                            refine (ahead_val A c L ((k : Int) + 1) ((b : Int) + 1) (x : Int) _ HG.out.at_ HL.out HAH.out).mono ?_
                            rintro r w9 ⟨rfl, h9⟩
                            subst w9
                            go_wp2
                            go_round
                            case rel => exact ⟨x + 1, false, by omega, by go_num, rfl, (fun h => by cases h), fun _ => HDX.out, rfl⟩
                            case measure => simp [intOf]; omega
                          | true =>
                            have HDX := Lib.hid (show Dc L k b from .inr ⟨x, hlx, hm, ha⟩)
                            have HAH := Lib.hid ha
                            clear hm ha
                            go_wp2_with fail
                            refine (ahead_val A c L ((k : Int) + 1) ((b : Int) + 1) (x : Int) _ HG.out.at_ HL.out HAH.out).mono ?_
                            rintro r w9 ⟨rfl, h9⟩
                            subst w9
                            go_wp2
                            go_round
                            case rel => exact ⟨x + 1, true, by omega, by go_num, rfl, (fun _ => HDX.out), (fun h => by cases h), rfl⟩
                            case measure => simp [intOf]; omega
                      · have hlx' : ¬ (x : Int) < 64 := by omega
                        obtain rfl : x = 64 := by omega
                        have HDC := Lib.hid (show ¬ Dc L k b from fun h => HS0.out rfl h)
                        have HI2 := Lib.hid (gd_skip HI.out (.inr HDC.out))
                        go_wp2
                        go_roundw
                        case rel => exact ⟨b + 1, _, by have := HBN.out; omega, by go_num, HG.out, HI2.out⟩
                        case measure => simp [intOf]; have := HBN.out; omega
              · have HD0 := Lib.hid (show ¬ Dx L k b 0 from dx_zero (by rw [HEN.out, HWB.out]; exact fun h => he0 h.1))
                go_wp2_with fail
                refine (end_rv A c L ((k : Int) + 1) en _ HG.out.at_ HL.out HEN.out).mono ?_
                rintro r w9 ⟨rfl, h9⟩
                subst w9
                go_wp2
                go_loopw [9, 10] (GxRel L k b wr) (fun _ i _ => 64 - (intOf i).toNat)
                case atStart => exact ⟨0, false, by omega, rfl, rfl, (fun h => by cases h), fun _ => HD0.out, rfl⟩
                case round =>
                  obtain ⟨x, s, hx, rfl, rfl, hs1, hs0, hwx⟩ := hrel
                  subst hwx
                  have HS1 := Lib.hid hs1
                  have HS0 := Lib.hid hs0
                  clear hs1 hs0
                  cases s with
                  | true =>
                    have HDC := Lib.hid (HS1.out rfl)
                    by_cases hlx : (x : Int) < 64
                    · go_wp2_with (refine wpList_load_row rfl 56 (.tmp 4) rfl (w.heap.size + 1) rfl 56 (matA m) (0, 0) _ HG.out.bx Tryz.underlying56 rfl (rmatInfo m) ?_)
                      refine (rput_yes m k b _ HI.out.ok (by have := HKN.out; omega) (by have := HBN.out; omega) HNE.out).mono ?_
                      rintro r w9 ⟨rfl, hb9⟩
                      have HG9 := Lib.hid (HG.out.below hb9)
                      clear hb9
                      go_wp2_with (refine wpList_store_row rfl 56 (.tmp 4) (.tmp 73) rfl (w.heap.size + 1) (matA (Mm.put m k b)) rfl rfl 56 _ HG9.out.bx (rmatInfo _) (by rw [matA_size, matA_size]) (matA_one _) ?_)
                      have HG2 := Lib.hid (HG9.out.put (m' := Mm.put m k b) HQ.out H.out)
                      have HI2 := Lib.hid (gd_put HI.out HKN.out.1 HBN.out.1 HKN.out.2 HNE.out HDC.out)
                      generalize World.setRow _ (w.heap.size + 1) (matA (Mm.put m k b)) = w8 at HG2 ⊢
                      go_wp2
                      go_roundw
                      case rel => exact ⟨b + 1, _, by have := HBN.out; omega, by go_num, HG2.out, HI2.out⟩
                      case measure => simp [intOf]; have := HBN.out; omega
                    · go_wp2_with (refine wpList_load_row rfl 56 (.tmp 4) rfl (w.heap.size + 1) rfl 56 (matA m) (0, 0) _ HG.out.bx Tryz.underlying56 rfl (rmatInfo m) ?_)
                      refine (rput_yes m k b _ HI.out.ok (by have := HKN.out; omega) (by have := HBN.out; omega) HNE.out).mono ?_
                      rintro r w9 ⟨rfl, hb9⟩
                      have HG9 := Lib.hid (HG.out.below hb9)
                      clear hb9
                      go_wp2_with (refine wpList_store_row rfl 56 (.tmp 4) (.tmp 73) rfl (w.heap.size + 1) (matA (Mm.put m k b)) rfl rfl 56 _ HG9.out.bx (rmatInfo _) (by rw [matA_size, matA_size]) (matA_one _) ?_)
                      have HG2 := Lib.hid (HG9.out.put (m' := Mm.put m k b) HQ.out H.out)
                      have HI2 := Lib.hid (gd_put HI.out HKN.out.1 HBN.out.1 HKN.out.2 HNE.out HDC.out)
                      generalize World.setRow _ (w.heap.size + 1) (matA (Mm.put m k b)) = w8 at HG2 ⊢
                      go_wp2
                      go_roundw
                      case rel => exact ⟨b + 1, _, by have := HBN.out; omega, by go_num, HG2.out, HI2.out⟩
                      case measure => simp [intOf]; have := HBN.out; omega
                  | false =>
                    by_cases hlx : x < 64
                    · have hlx' : (x : Int) < 64 := by omega
                      have hx0 : (0 : Int) ≤ (x : Int) := by omega
                      have hmt := cell_of_row _ _ x _ _ (0, 0) HG.out.mt
                      rw [metA_get L x hlx] at hmt
                      cases hm : met L x with
                      | false =>
                        rw [hm] at hmt
                        have HDX := Lib.hid (dx_step (HS0.out rfl) (fun h => by rw [hm] at h; cases h.1))
                        clear hm
                        go_wp2
                        go_round
                        case rel => exact ⟨x + 1, false, by omega, by go_num, rfl, (fun h => by cases h), fun _ => HDX.out, rfl⟩
                        case measure => simp [intOf]; omega
                      | true =>
                        rw [hm] at hmt
                        cases ha : ahead L ((k : Int) + 1) ((b : Int) + 1) (x : Int) with
                        | false =>
                          have HDX := Lib.hid (dx_step (HS0.out rfl) (fun h => by rw [ha] at h; cases h.2))
                          have HAH := Lib.hid ha
                          clear hm ha
                          go_wp2_with fail
                          refine (ahead_val A c L ((k : Int) + 1) ((b : Int) + 1) (x : Int) _ HG.out.at_ HL.out HAH.out).mono ?_
                          rintro r w9 ⟨rfl, h9⟩
                          subst w9
                          go_wp2
                          go_round
                          case rel => exact ⟨x + 1, false, by omega, by go_num, rfl, (fun h => by cases h), fun _ => HDX.out, rfl⟩
                          case measure => simp [intOf]; omega
                        | true =>
                          have HDX := Lib.hid (show Dc L k b from .inr ⟨x, hlx, hm, ha⟩)
                          have HAH := Lib.hid ha
                          clear hm ha
                          go_wp2_with fail
                          refine (ahead_val A c L ((k : Int) + 1) ((b : Int) + 1) (x : Int) _ HG.out.at_ HL.out HAH.out).mono ?_
                          rintro r w9 ⟨rfl, h9⟩
                          subst w9
                          go_wp2
                          go_round
                          case rel => exact ⟨x + 1, true, by omega, by go_num, rfl, (fun _ => HDX.out), (fun h => by cases h), rfl⟩
                          case measure => simp [intOf]; omega
                    · have hlx' : ¬ (x : Int) < 64 := by omega
                      obtain rfl : x = 64 := by omega
                      have HDC := Lib.hid (show ¬ Dc L k b from fun h => HS0.out rfl h)
                      have HI2 := Lib.hid (gd_skip HI.out (.inr HDC.out))
                      go_wp2
                      go_roundw
                      case rel => exact ⟨b + 1, _, by have := HBN.out; omega, by go_num, HG.out, HI2.out⟩
                      case measure => simp [intOf]; have := HBN.out; omega
          · have hlb' : ¬ (b : Int) + 1 ≤ (n : Int) := by omega
            obtain rfl : b = n := by omega
            have HI2 := Lib.hid (gd_row HI.out)
            have HKB := Lib.hid HKN.out.1
            go_wp2
            go_roundw
            case rel => exact ⟨k + 1, _, by have := HKB.out; omega, by go_num, HG.out, HI2.out⟩
            case measure => simp [intOf]; have := HKB.out; omega
      · have hlt' : ¬ (k : Int) + 1 ≤ (n : Int) := by omega
        obtain rfl : k = n := by omega
        have HIE := Lib.hid (show Is m0 (Ge l) from gd_all HRW.out (by rw [HN.out]; exact HI0.out))
        go_wp2_with (first
          | (refine wpList_load_row rfl 56 (.tmp 4) rfl (w.heap.size + 1) rfl 56 (matA m0) (0, 0) _ HG0.out.bx Tryz.underlying56 rfl (rmatInfo m0) ?_)
          | (refine wpList_store_row rfl 56 (.tmp 2) (.tmp 75) rfl w.heap.size (matA m0) rfl rfl 56 _ HG0.out.re (rmatInfo m0) (by rw [matA_size, matA_size]) (matA_one _) ?_))
        refine bodyPost_ret (results_row_tmp rfl _ _ w.heap.size 56 (matA m0) (0, 0) _ _ (.bool true) rfl rfl (setRow_heap _ _ _ _ _ _ HG0.out.re) Tryz.underlying56 (rmatInfo _)) rfl ⟨m0, rfl, HIE.out, ?_⟩
        exact setRow_below HG0.out.bel (Nat.le_refl _)
end Go.Proofs.YtaonepbongbhoaaGreat.Hi
