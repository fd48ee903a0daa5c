/-
  Contracts of the document's own answers for orders: within, Sorted.
-/
import Derived.Test.YtakoceablbgchaaDoorTopoRef1
namespace Go.Proofs.YtakoceablbgchaaDoor
open Go.RowKit
/-- the first k nodes' edges cut, if their places are out. -/
def Out (o : Od.O) (lo hi : Int) (i : Nat) : Prop := o i < lo ∨ hi < o i
open Classical in
noncomputable def nearTo (m : Mm.Gr) (o : Od.O) (lo hi : Int) : Nat → Mm.Gr
  | 0 => m
  | k + 1 => if Out o lo hi k then Mm.cut (nearTo m o lo hi k) k else nearTo m o lo hi k
theorem nearTo_yes {m : Mm.Gr} {o : Od.O} {lo hi : Int} {k : Nat} (h : Out o lo hi k) : Mm.cut (nearTo m o lo hi k) k = nearTo m o lo hi (k + 1) := by rw [nearTo, if_pos h]
theorem nearTo_no {m : Mm.Gr} {o : Od.O} {lo hi : Int} {k : Nat} (h : ¬ Out o lo hi k) : nearTo m o lo hi k = nearTo m o lo hi (k + 1) := by rw [nearTo, if_neg h]
theorem nearTo_ok {m : Mm.Gr} (o : Od.O) (lo hi : Int) (k : Nat) (hm : Mm.Ok m) : Mm.Ok (nearTo m o lo hi k) := by
  induction k with
  | zero => exact hm
  | succ k ih =>
    by_cases h : Out o lo hi k
    · rw [← nearTo_yes h]; exact Mm.cut_ok k ih
    · rw [← nearTo_no h]; exact ih
theorem nearTo_E {m : Mm.Gr} {o : Od.O} {lo hi : Int} (hm : Mm.Ok m) (k : Nat) (hk : k ≤ 32) (i j : Nat) : Mm.E (nearTo m o lo hi k) i j ↔ Mm.E m i j ∧ (i < k → ¬ Out o lo hi i) ∧ (j < k → ¬ Out o lo hi j) := by
  induction k with
  | zero =>
    show Mm.E m i j ↔ _
    simp
  | succ k ih =>
    have ih := ih (by omega)
    by_cases h : Out o lo hi k
    · rw [← nearTo_yes h, Mm.cut_E (nearTo_ok o lo hi k hm) (by omega), ih]
      constructor
      · rintro ⟨⟨h1, h2, h3⟩, h4, h5⟩
        exact ⟨h1, fun hi => h2 (by omega), fun hj => h3 (by omega)⟩
      · rintro ⟨h1, h2, h3⟩
        refine ⟨⟨h1, fun hi => h2 (by omega), fun hj => h3 (by omega)⟩, fun e => ?_, fun e => ?_⟩
        · subst e; exact h2 (by omega) h
        · subst e; exact h3 (by omega) h
    · rw [← nearTo_no h, ih]
      constructor
      · rintro ⟨h1, h2, h3⟩
        refine ⟨h1, fun hi => ?_, fun hj => ?_⟩
        · by_cases e : i = k
          · subst e; exact h
          · exact h2 (by omega)
        · by_cases e : j = k
          · subst e; exact h
          · exact h3 (by omega)
      · rintro ⟨h1, h2, h3⟩
        exact ⟨h1, fun hi => h2 (by omega), fun hj => h3 (by omega)⟩
theorem near_E {m : Mm.Gr} {o : Od.O} {a b : Nat} (hm : Mm.Ok m) (i j : Nat) : Mm.E (nearTo m o (o b) (o a) 32) i j ↔ Od.near m o a b i j := by
  rw [nearTo_E hm 32 (Nat.le_refl _)]
  unfold Od.near Od.In Out
  constructor
  · rintro ⟨h1, h2, h3⟩
    have hi := h1.1
    have hj := h1.2.1
    have h2 := h2 hi
    have h3 := h3 hj
    exact ⟨h1, ⟨hi, by omega, by omega⟩, ⟨hj, by omega, by omega⟩⟩
  · rintro ⟨h1, h2, h3⟩
    exact ⟨h1, fun _ => by omega, fun _ => by omega⟩
theorem near_fore {m : Mm.Gr} {o : Od.O} {a b : Nat} (hm : Mm.Ok m) : Sm.add (Mm.ways (Mm.E (nearTo m o (o b) (o a) 32)) b) (b : Int) = Od.fore m o a b := by
  unfold Od.fore
  congr 1
  refine Mm.ways_congr fun j => ?_
  exact ⟨fun h => h.mono fun _ _ h => (near_E hm _ _).1 h, fun h => h.mono fun _ _ h => (near_E hm _ _).2 h⟩
theorem near_hind {m : Mm.Gr} {o : Od.O} {a b : Nat} (hm : Mm.Ok m) : Sm.add (Mm.ways (Mm.E (turn (nearTo m o (o b) (o a) 32))) a) (a : Int) = Od.hind m o a b := by
  unfold Od.hind
  congr 1
  refine Mm.ways_congr fun j => ?_
  exact ⟨fun h => h.mono fun _ _ h => (near_E hm _ _).1 ((turn_E _ _ _).1 h), fun h => h.mono fun _ _ h => (turn_E _ _ _).2 ((near_E hm _ _).2 h)⟩
structure WSt (w : World) (o : Od.O) (n : Mm.Gr) (wr : World) : Prop where
  gr : MatAt wr w.heap.size n 35
  od : OrdAt wr (w.heap.size + 1) o 36
  res : ∃ x, MatAt wr (w.heap.size + 2) x 35
  bel : Below w.heap.size w wr
theorem WSt.below {w W W' : World} {o : Od.O} {n : Mm.Gr} (h : WSt w o n W) (hb : Below W.heap.size W W') : WSt w o n W' :=
  ⟨h.gr.below hb, h.od.below hb, h.res.imp fun _ h => h.below hb, h.bel.trans (hb.mono h.bel.size)⟩
theorem WSt.put {w W : World} {o : Od.O} {n k : Mm.Gr} (h : WSt w o n W) : WSt w o k (W.setRow w.heap.size (matA k)) :=
  ⟨matAt_put h.gr, h.od.setRow _ (by omega), h.res.imp fun _ h => h.setRow _ (by omega), setRow_below h.bel (Nat.le_refl _)⟩
def WRel (m : Mm.Gr) (o : Od.O) (lo hi : Int) (w : World) (i : Value) (wr : World) : Prop :=
  ∃ k : Nat, k ≤ 32 ∧ i = .int .i64 k ∧ WSt w o (nearTo m o lo hi k) wr
set_option maxHeartbeats 1000000 in
set_option maxRecDepth 100000 in
theorem within_any (m : Mm.Gr) (o : Od.O) (lo hi : Int) (w : World) (hm : Mm.Ok m) :
    Calls Tryd.prog 72 #[.agg (matA m), .agg (ordA o), .int .i64 lo, .int .i64 hi] w fun e w' => e = .returned (.agg (matA (nearTo m o lo hi 32))) ∧ Below w.heap.size w w' := by
  go_enter Tryd.func72, Tryd.ntmps72
  go_wp2
  go_loopw [9] (WRel m o lo hi w) (fun i _ => 32 - (intOf i).toNat)
  case atStart =>
    refine ⟨0, by omega, rfl, ?_, ?_, ⟨zeroM, ?_⟩, (((Below.refl _ _).alloc (Nat.le_refl _) _).alloc (by simp) _).alloc (by simp; omega) _⟩
    · exact ((matAt_new w m 35).alloc _).alloc _
    · refine OrdAt.alloc ?_ _
      have := ordAt_new (w.alloc (.cells (matA m) 35)) o 36
      simpa using this
    · have := zero_lit ((w.alloc (.cells (matA m) 35)).alloc (.cells (ordA o) 36)) 35
      have h2 : MatAt (((w.alloc (.cells (matA m) 35)).alloc (.cells (ordA o) 36)).alloc (.cells (Array.replicate 32 (Value.int .u64 0)) 35)) (w.heap.size + 2) zeroM 35 := by simpa using this
      exact h2
  case round =>
    obtain ⟨k, hk, rfl, hst⟩ := hrel
    have HS := Lib.hid hst
    by_cases hlt : k < 32
    · have hc := hst.od.cell k hlt
      have HO := Lib.hid (nearTo_ok o lo hi k hm)
      clear hst
      by_cases h1 : o k < lo
      · have HN := Lib.hid (nearTo_yes (m := m) (show Out o lo hi k from .inl h1))
        go_wp2_with (refine wpList_load_row rfl 35 (.tmp 4) rfl w.heap.size rfl 35 _ (0, 0) _ HS.out.gr Tryd.underlying35 rfl (rmatInfo _) ?_)
        refine (rcut_in _ k _ HO.out hlt).mono ?_
        rintro e w1 ⟨rfl, hb1⟩
        have HS1 := Lib.hid (HS.out.below hb1)
        clear hb1 hc
        go_wp2_with (refine wpList_store_row rfl 35 (.tmp 4) (.tmp 28) rfl w.heap.size (matA (Mm.cut (nearTo m o lo hi k) k)) rfl rfl 35 _ HS1.out.gr (rmatInfo _) (by rw [matA_size, matA_size]) (matA_one _) ?_)
        refine ⟨⟨k + 1, by omega, by go_num, ?_⟩, by simp [intOf]; omega⟩
        rw [← HN.out]
        exact HS1.out.put
      · have hd1 : decide (o k < lo) = false := by simpa using h1
        by_cases h2 : hi < o k
        · have HN := Lib.hid (nearTo_yes (m := m) (show Out o lo hi k from .inr h2))
          go_wp2_with (refine wpList_load_row rfl 35 (.tmp 4) rfl w.heap.size rfl 35 _ (0, 0) _ HS.out.gr Tryd.underlying35 rfl (rmatInfo _) ?_)
          refine (rcut_in _ k _ HO.out hlt).mono ?_
          rintro e w1 ⟨rfl, hb1⟩
          have HS1 := Lib.hid (HS.out.below hb1)
          clear hb1 hc
          go_wp2_with (refine wpList_store_row rfl 35 (.tmp 4) (.tmp 28) rfl w.heap.size (matA (Mm.cut (nearTo m o lo hi k) k)) rfl rfl 35 _ HS1.out.gr (rmatInfo _) (by rw [matA_size, matA_size]) (matA_one _) ?_)
          refine ⟨⟨k + 1, by omega, by go_num, ?_⟩, by simp [intOf]; omega⟩
          rw [← HN.out]
          exact HS1.out.put
        · have hd2 : decide (hi < o k) = false := by simpa using h2
          have HN := Lib.hid (nearTo_no (m := m) (show ¬ Out o lo hi k from fun h => h.elim h1 h2))
          go_wp2
          refine ⟨⟨k + 1, by omega, by go_num, ?_⟩, by simp [intOf]; omega⟩
          rw [← HN.out]
          exact HS.out
    · obtain rfl : k = 32 := by omega
      clear hst
      obtain ⟨x, hx⟩ := HS.out.res
      have HX := Lib.hid hx
      clear hx
      go_wp2_with (first
        | (refine wpList_load_row rfl 35 (.tmp 4) rfl w.heap.size rfl 35 _ (0, 0) _ HS.out.gr Tryd.underlying35 rfl (rmatInfo _) ?_)
        | (refine wpList_store_row rfl 35 (.tmp 8) (.tmp 29) rfl (w.heap.size + 2) _ rfl rfl 35 _ HX.out (rmatInfo _) (by rw [matA_size, matA_size]) (matA_one _) ?_))
      refine bodyPost_ret (results_cell_row rfl _ _ (w.heap.size + 2) 35 (matA (nearTo m o lo hi 32)) (0, 0) _ rfl (setRow_heap _ _ _ _ _ _ HX.out) Tryd.underlying35 rfl (rmatInfo _)) rfl ⟨rfl, ?_⟩
      exact setRow_below HS.out.bel (by omega)
/- Sorted -/
structure TSt (m : Mm.Gr) (o : Od.O) (w wr : World) : Prop where
  gr : MatAt wr w.heap.size m 35
  od : OrdAt wr (w.heap.size + 1) o 36
  bel : Below w.heap.size w wr
theorem TSt.below {m : Mm.Gr} {o : Od.O} {w W W' : World} (h : TSt m o w W) (hb : Below W.heap.size W W') : TSt m o w W' :=
  ⟨h.gr.below hb, h.od.below hb, h.bel.trans (hb.mono h.bel.size)⟩
theorem tst_first (m : Mm.Gr) (o : Od.O) (w : World) : TSt m o w ((w.alloc (.cells (matA m) 35)).alloc (.cells (ordA o) 36)) := by
  refine ⟨(matAt_new _ _ _).alloc _, ?_, ((Below.refl _ _).alloc (Nat.le_refl _) _).alloc (by simp) _⟩
  have := ordAt_new (w.alloc (.cells (matA m) 35)) o 36
  simpa using this
def RSortRel (m : Mm.Gr) (o : Od.O) (w : World) (i : Value) (wr : World) : Prop :=
  ∃ k : Nat, k ≤ 32 ∧ i = .int .i64 k ∧ (∀ i j, i < k → Mm.E m i j → o i < o j) ∧ TSt m o w wr
def RSortIn (m : Mm.Gr) (o : Od.O) (w : World) (k g : Nat) (i : Value) (wr : World) : Prop :=
  ∃ n : Nat, n ≤ 32 ∧ i = .int .i64 n ∧ (∀ j, j < n → Mm.E m k j → o k < o j) ∧ BitsAt wr g (Mm.outs m k) ∧ TSt m o w wr
set_option maxHeartbeats 1000000 in
set_option maxRecDepth 100000 in
theorem rsorted_any (m : Mm.Gr) (o : Od.O) (w : World) (hm : Mm.Ok m) :
    Calls Tryd.prog 37 #[.agg (matA m), .agg (ordA o)] w fun e w' => e = .returned (.bool (Od.sortedB m o)) ∧ Below w.heap.size w w' := by
  have H0 := Lib.hid (tst_first m o w)
  go_enter Tryd.func37, Tryd.ntmps37
  go_wp2
  go_loopw [5] (RSortRel m o w) (fun i _ => 32 - (intOf i).toNat)
  case atStart => exact ⟨0, by omega, rfl, fun i j hi => absurd hi (by omega), H0.out⟩
  case round =>
    obtain ⟨k, hk, rfl, hS, hst⟩ := hrel
    have HS := Lib.hid hS
    have HST := Lib.hid hst
    clear hS hst
    by_cases hlt : k < 32
    · have hl := Mm.outs_lt m k
      have hl64 : Mm.outs m k < 18446744073709551616 := by omega
      go_wp2_with (refine wpList_load_row rfl 35 (.tmp 2) rfl w.heap.size rfl 35 (matA m) (0, 0) _ HST.out.gr Tryd.underlying35 rfl (rmatInfo m) ?_)
      refine (routs_in m k _ hm hlt).mono ?_
      rintro e w2 ⟨rfl, hb2⟩
      have HS2 := Lib.hid (HST.out.below hb2)
      clear hb2
      go_wp2_with fail
      refine (bits_any _ _ hl64).mono ?_
      rintro e w3 ⟨rfl, hb3⟩
      have HS3 := Lib.hid ((HS2.out.below hb3).below (below_new _ (.cells (bitArr (Mm.outs m k) 64) 99)))
      have HB3 := Lib.hid (bitsAt_new w3 (Mm.outs m k))
      clear hb3
      go_wp2_with (refine wpList_store_row rfl 99 (.tmp 6) (.tmp 15) rfl w3.heap.size (bitArr (Mm.outs m k) 64) rfl rfl 99 _ (heap_alloc_new _ _) (boolInfo _) (by rw [bitArr_size]; rfl) (bitArr_one _ _) ?_; rw [World.setRow_alloc_new])
      go_loopw [7] (RSortIn m o w k w3.heap.size) (fun i _ => 32 - (intOf i).toNat)
      case atStart => exact ⟨0, by omega, rfl, fun j hj => absurd hj (by omega), HB3.out, HS3.out⟩
      case round =>
        obtain ⟨n, hn, rfl, hlow, hB, hst⟩ := hrel
        have HLow := Lib.hid hlow
        have HBr := Lib.hid hB
        have HSr := Lib.hid hst
        clear hlow
        by_cases hnl : n < 32
        · have hc := hB.cell n (by omega)
          have d1 := hst.od.cell k hlt
          have d2 := hst.od.cell n hnl
          clear hB hst
          cases ht : (Mm.outs m k).testBit n
          · rw [ht] at hc
            have HNE := Lib.hid (show ¬ Mm.E m k n from fun h => by rw [(Mm.outs_test m k n).2 h] at ht; cases ht)
            clear ht
            go_wp2
            go_quiet (fail)
            go_wp2
            refine ⟨⟨n + 1, by omega, by go_num, fun j hj he => ?_, HBr.out.below (below_drewN (Below.refl _ _) _), HSr.out.below (below_drewN (Below.refl _ _) _)⟩, by simp [intOf]; omega⟩
            by_cases e : j = n
            · subst e; exact absurd he HNE.out
            · exact HLow.out j (by omega) he
          · rw [ht] at hc
            have HE := Lib.hid ((Mm.outs_test m k n).1 ht)
            clear ht
            by_cases hlow : o k < o n
            · go_wp2
              go_quiet (fail)
              go_wp2
              refine ⟨⟨n + 1, by omega, by go_num, fun j hj he => ?_, HBr.out.below (below_drewN (Below.refl _ _) _), HSr.out.below (below_drewN (Below.refl _ _) _)⟩, by simp [intOf]; omega⟩
              by_cases e : j = n
              · subst e; exact hlow
              · exact HLow.out j (by omega) he
            · have hge : o n ≤ o k := by omega
              have HF := Lib.hid (Od.sortedB_no (m := m) (o := o) fun h => hlow (h.2 k n HE.out))
              go_wp2
              go_quiet (fail)
              go_wp2
              go_ret
              rw [HF.out]
              exact ⟨rfl, (HSr.out.below (below_drewN (Below.refl _ _) _)).bel⟩
        · obtain rfl : n = 32 := by omega
          clear hB hst
          go_wp2
          refine ⟨⟨k + 1, by omega, by go_num, fun i j hi he => ?_, HSr.out⟩, by simp [intOf]; omega⟩
          by_cases e : i = k
          · subst e
            exact HLow.out j he.2.1 he
          · exact HS.out i j (by omega) he
    · obtain rfl : k = 32 := by omega
      have HF := Lib.hid (show Od.rightB o = Od.sortedB m o from by
        by_cases hr : Od.Right o
        · rw [Od.rightB_yes hr, Od.sortedB_yes ⟨hr, fun i j he => HS.out i j he.1 he⟩]
        · rw [Od.rightB_no hr, Od.sortedB_no fun h => hr h.1])
      go_wp2_with (refine wpList_load_row rfl 36 (.tmp 3) rfl (w.heap.size + 1) rfl 36 (ordA o) (0, 0) _ HST.out.od Tryd.underlying36 rfl (rordInfo o) ?_)
      refine (rright_val o _ _ HF.out).mono ?_
      rintro e w2 ⟨rfl, hb2⟩
      go_wp2
      go_ret
      exact ⟨rfl, (HST.out.below hb2).bel⟩
theorem rsorted_val (m : Mm.Gr) (o : Od.O) (b : Bool) (w : World) (hm : Mm.Ok m) (h : Od.sortedB m o = b) :
    Calls Tryd.prog 37 #[.agg (matA m), .agg (ordA o)] w fun e w' => e = .returned (.bool b) ∧ Below w.heap.size w w' := by
  have := rsorted_any m o w hm
  rw [h] at this; exact this
end Go.Proofs.YtakoceablbgchaaDoor
