/-
  The walk of PoolActs.
-/
import Derived.Test.YtakoceablbgchaaDoorPoolSound
namespace Go.Proofs.YtakoceablbgchaaDoor
open Go.RowKit
attribute [local go_sem ↓] Go.wp_at_zero Go.wp_at_succ
/-- both pools are the same. -/
structure AcSt (P : Pl) (g h : Nat) (w W : World) : Prop where
  po : PoolAt W g P 31
  pm : PoolAt W h P 38
  ge : w.heap.size ≤ g
  gh : g < h
  bel : Below w.heap.size w W
theorem AcSt.below {P : Pl} {g h : Nat} {w W W' : World} (s : AcSt P g h w W) (hb : Below W.heap.size W W') : AcSt P g h w W' := ⟨s.po.below hb, s.pm.below hb, s.ge, s.gh, s.bel.trans (hb.mono s.bel.size)⟩
/-- .. while they are written. -/
structure AcTwo (Q : Pl) (g h b1 b2 : Nat) (w W : World) : Prop where
  po : ∃ p, PoolAt W g p 31
  pm : ∃ p, PoolAt W h p 38
  n1 : PoolAt W b1 Q 31
  n2 : PoolAt W b2 Q 38
  ge : w.heap.size ≤ g
  gh : g < h
  l1 : h < b1
  l2 : h < b2
  bel : Below w.heap.size w W
theorem AcTwo.below {Q : Pl} {g h b1 b2 : Nat} {w W W' : World} (s : AcTwo Q g h b1 b2 w W) (hb : Below W.heap.size W W') : AcTwo Q g h b1 b2 w W' :=
  ⟨by obtain ⟨p, hp⟩ := s.po; exact ⟨p, hp.below hb⟩, by obtain ⟨p, hp⟩ := s.pm; exact ⟨p, hp.below hb⟩, s.n1.below hb, s.n2.below hb, s.ge, s.gh, s.l1, s.l2, s.bel.trans (hb.mono s.bel.size)⟩
theorem AcTwo.put0 {Q : Pl} {g h b1 b2 : Nat} {w W : World} (s : AcTwo Q g h b1 b2 w W) (q : Pl) : AcTwo Q g h b1 b2 w (W.setRow g (poolA q)) ∧ PoolAt (W.setRow g (poolA q)) g q 31 := by
  obtain ⟨p, hp⟩ := s.po
  obtain ⟨p', hp'⟩ := s.pm
  have := s.gh; have := s.l1; have := s.l2
  exact ⟨⟨⟨q, poolAt_put hp⟩, ⟨p', hp'.setRow _ (by omega)⟩, s.n1.setRow _ (by omega), s.n2.setRow _ (by omega), s.ge, s.gh, s.l1, s.l2, setRow_below s.bel s.ge⟩, poolAt_put hp⟩
theorem AcTwo.put1 {Q : Pl} {g h b1 b2 : Nat} {w W : World} (s : AcTwo Q g h b1 b2 w W) (q : Pl) : AcTwo Q g h b1 b2 w (W.setRow h (poolA q)) ∧ PoolAt (W.setRow h (poolA q)) h q 38 := by
  obtain ⟨p, hp⟩ := s.po
  obtain ⟨p', hp'⟩ := s.pm
  have := s.gh; have := s.l1; have := s.l2; have := s.ge
  exact ⟨⟨⟨p, hp.setRow _ (by omega)⟩, ⟨q, poolAt_put hp'⟩, s.n1.setRow _ (by omega), s.n2.setRow _ (by omega), s.ge, s.gh, s.l1, s.l2, setRow_below s.bel (by omega)⟩, poolAt_put hp'⟩
def AcRel (n : Int) (l : Nat → Po.Act) (N g h : Nat) (w : World) (i : Value) (wr : World) : Prop := ∃ k : Nat, k ≤ N ∧ i = .int .i64 k ∧ AcSt (Po.run n l k) g h w wr
def NoRel (N g h : Nat) (w : World) (i : Value) (wr : World) : Prop := ∃ k : Nat, k ≤ N ∧ i = .int .i64 k ∧ AcSt zeroP g h w wr
theorem acts_ask {n : Int} (hn : 1 ≤ n ∧ n ≤ 32) (l : Nat → Po.Act) {k : Nat} (hk : k ≤ 120) {x : Po.Act} (hx : x.kind < 256) (ha : i64p x.a) (hb : i64p x.b) {W : World} (hT : TabAt W) : DAsk (Po.run n l k) (Po.run n l k) x W :=
  ⟨run_ok hn l hk, run_ok hn l hk, by have := (Po.run_count hn l k).1; omega, by have := (Po.run_count hn l k).1; omega, by rw [(Po.run_count hn l k).2]; exact hn.2, (Po.run_sound hn l k).done32, ha, hb, hx, .inl rfl, hT⟩
set_option maxHeartbeats 8000000 in
set_option maxRecDepth 100000 in
theorem poolActs_walk (n : Int) (A : Option Addr) (N c : Nat) (l : Nat → Po.Act) (w : World) (hs : i64p n) (hl : ActsAt w A N c l) (hT : TabAt w) :
    Calls Tryd.prog 3 #[.int .i64 n, .slice A N c] w fun e w' => e = .returned (.bool true) ∧ Below w.heap.size w w' := by
  have hz1 := (zero_of_info zero_pool_info).1
  have hz2 := (zero_of_info zero_rpool_info).1
  have HT := Lib.hid hT
  have HL := Lib.hid hl
  have HNn := Lib.hid hs
  have hN : (N : Int) ≤ 9223372036854775807 := by have := hl.1; have := hl.2.1; unfold maxLen at this; omega
  clear hl hT hs
  go_enter Tryd.func3, Tryd.ntmps3
  go_wp2_with fail
  refine (alive_any _ HT.out).mono ?_
  rintro e w1 ⟨rfl, hb1⟩
  have B1 := Lib.hid hb1
  clear hb1
  by_cases hbig : 120 < N
  · have hbig' : (120 : Int) < (N : Int) := by omega
    go_wp2
    go_ret
    exact ⟨rfl, B1.out⟩
  have hbig' : ¬ (120 : Int) < (N : Int) := by omega
  have hN120 : N ≤ 120 := by omega
  by_cases hn : 1 ≤ n ∧ n ≤ 32
  · have HN := Lib.hid hn
    go_wp2_with fail
    refine (pnew_yes n _ HN.out).mono ?_
    rintro e w2 ⟨rfl, hb2⟩
    have B2 := Lib.hid (B1.out.trans (hb2.mono B1.out.size))
    clear hb2
    go_wp2_with (refine wpList_letP rfl 31 (.tmp 5) (.tmp 22) rfl rfl w2 (Po.newP n) rfl rfl rfl pool_info ?_; intro w3 n3 hb3; have H3 := Lib.hid n3; have B3 := Lib.hid (B2.out.trans (hb3.mono B2.out.size)); clear n3 hb3)
    refine (prnew_yes n _ HN.out).mono ?_
    rintro e w4 ⟨rfl, hb4⟩
    have H4 := Lib.hid (H3.out.below hb4)
    have B4 := Lib.hid (B3.out.trans (hb4.mono B3.out.size))
    clear hb4
    go_wp2_with (refine wpList_letP rfl 38 (.tmp 7) (.tmp 27) rfl rfl w4 (Po.newP n) rfl rfl rfl rpool_info ?_; intro w5 n5 hb5; have H5 := Lib.hid (show AcSt (Po.newP n) w2.heap.size w4.heap.size w w5 from ⟨H4.out.below hb5, n5, B2.out.size, H4.out.lt, B4.out.trans (hb5.mono B4.out.size)⟩); clear n5 hb5)
    refine wp_region_noPanic ?_
    refine region_start (S := AcSt (Po.newP n) w2.heap.size w4.heap.size w) 9 rfl (by kernel_rfl) (H5.out.below (below_drew _)) (fun hHeld => ?_)
    refine take_at 0 29 (.bool true) rfl rfl (by kernel_rfl) (by kernel_rfl) (by kernel_rfl) (fun _ _ _ h => h) (Or.inl ⟨by rfl, by intro W hW; clear hW; go_simp⟩) hHeld ?_
    simp only [put_laws]
    refine take_at 1 30 (.bool true) rfl rfl (by kernel_rfl) (by kernel_rfl) (by kernel_rfl) (fun _ _ _ h => h) (Or.inl ⟨by rfl, by intro W hW; clear hW; go_simp⟩) hHeld ?_
    simp only [put_laws]
    refine take_at 2 31 (.bool false) rfl rfl (by kernel_rfl) (by kernel_rfl) (by kernel_rfl) (fun _ _ _ h => h) (Or.inl ⟨by rfl, by intro W hW; clear hW; go_simp⟩) hHeld ?_
    simp only [put_laws]
    refine take_at 3 32 (.bool false) rfl rfl (by kernel_rfl) (by kernel_rfl) (by kernel_rfl) (fun _ _ _ h => h) (Or.inl ⟨by rfl, by intro W hW; clear hW; go_simp⟩) hHeld ?_
    simp only [put_laws]
    refine take_at 4 33 (.agg (poolA (Po.newP n))) rfl rfl (by kernel_rfl) (by kernel_rfl) (by kernel_rfl) (fun _ _ _ h => h) (yields_pool (by rfl) 31 (.tmp 5) rfl (w2.heap.size) rfl 31 (Po.newP n) _ (fun W h => h.po) Tryd.underlying31 rfl pool_info) hHeld ?_
    simp only [put_laws]
    refine take_at 6 35 (.agg (poolA (Po.newP n))) rfl rfl (by kernel_rfl) (by kernel_rfl) (by kernel_rfl) (fun _ _ _ h => h) (yields_pool (by rfl) 38 (.tmp 7) rfl (w4.heap.size) rfl 38 (Po.newP n) _ (fun W h => h.pm) Tryd.underlying38 rfl rpool_info) hHeld ?_
    simp only [put_laws]
    refine wpAnyH_ready (rs := [5]) (by kernel_rfl) (by simp) ?_
    refine AllReadyH.cons rfl (fun K hK => ?_) AllReadyH.nil
    go_simp
    refine (pours_any (Po.newP n) _).mono ?_
    rintro e w6 ⟨rfl, hb6⟩
    try go_simp
    have hHeld := hHeld.below hb6
    refine hK.out _ _ hHeld (fun hHeld => ?_)
    clear hK K
    refine take_at 7 36 (.bool false) rfl rfl (by kernel_rfl) (by kernel_rfl) (by kernel_rfl) (fun _ _ _ h => h) (yields_ne (by rfl) 38 38 (.tmp 34) (.tmp 35) rfl (poolA (Po.newP n)) rfl rfl guard_rpool (eq_rpool (Po.newP n))) hHeld ?_
    simp only [put_laws]
    refine take_at 8 37 (.bool false) rfl rfl (by kernel_rfl) (by kernel_rfl) (by kernel_rfl) (fun _ _ _ h => h) (Or.inl ⟨by rfl, by intro W hW; clear hW; go_simp⟩) hHeld ?_
    simp only [put_laws]
    refine wpAnyH_done (by kernel_rfl) ?_ _
    refine NoPanic.normal ?_
    have H6 := Lib.hid hHeld
    clear H3 B3 H4 B4 H5 hHeld hb6
    go_wp2
    go_loopw [40] (AcRel n l N w2.heap.size w4.heap.size w) (fun i _ => N - (intOf i).toNat)
    case atStart => exact ⟨0, by omega, rfl, H6.out⟩
    case round =>
      obtain ⟨k, hk, rfl, hst⟩ := hrel
      have HS := Lib.hid hst
      clear hst
      by_cases hlt : k < N
      · obtain ⟨ad, rfl, hcs⟩ := HL.out.2.2 (by omega)
        obtain ⟨e0, e1, e2, k0, a0, b0⟩ := hcs k hlt
        generalize hx : l k = x at *
        have HX := Lib.hid hx
        have HA0 := Lib.hid a0
        have HB0 := Lib.hid b0
        have c0 := cell_keep e0 HS.out.bel (Nat.le_refl _)
        have c1 := act_second (cell_keep e1 HS.out.bel (Nat.le_refl _))
        have c2 := act_third (cell_keep e2 HS.out.bel (Nat.le_refl _))
        have hlt' : (k : Int) < (N : Int) := by omega
        clear hx e0 e1 e2 hcs a0 b0
        have HS7 := Lib.hid (HS.out.below (below_new wr (.cells (actA x) 43)))
        go_wp2_with (first
          | (refine load_pool rfl 31 (.tmp 5) rfl w2.heap.size _ 31 rfl _ HS7.out.po Tryd.underlying31 rfl pool_info ?_)
          | (refine load_pool rfl 38 (.tmp 7) rfl w4.heap.size _ 38 rfl _ HS7.out.pm Tryd.underlying38 rfl rpool_info ?_))
        refine (does_any (Po.run n l k) (Po.run n l k) x _ (acts_ask HN.out l (by omega) k0 HA0.out HB0.out (tab_keep HT.out HS7.out.bel))).mono ?_
        rintro e w8 ⟨b, rfl, hbt, hb8⟩
        obtain rfl : b = true := hbt rfl
        have HS8 := Lib.hid (HS7.out.below hb8)
        have HQS := Lib.hid (Po.run_sound HN.out l (k + 1))
        have HQok := Lib.hid (run_ok HN.out l (show k + 1 ≤ 120 by omega))
        clear hb8 HS HS7 c0 c1 c2 hbt
        rw [run_next HX.out]
        generalize hQ : Po.run n l (k + 1) = Q at *
        have HQ := Lib.hid hQ
        clear hQ
        go_wp2_with (refine wpList_letPP rfl rfl 31 38 (.tmp 11) (.tmp 51) (.tmp 12) (.tmp 52) rfl rfl rfl rfl w8 Q Q rfl rfl rfl rfl rfl pool_info rpool_info ?_; intro w9 n9 m9 hb9; have H9 := Lib.hid (show AcTwo Q w2.heap.size w4.heap.size w8.heap.size (w8.heap.size + 1) w w9 from ⟨⟨_, HS8.out.po.below hb9⟩, ⟨_, HS8.out.pm.below hb9⟩, n9, m9, HS8.out.ge, HS8.out.gh, HS8.out.pm.lt, by have := HS8.out.pm.lt; omega, HS8.out.bel.trans (hb9.mono HS8.out.bel.size)⟩); clear n9 m9 hb9)
        refine wp_region_noPanic ?_
        refine region_start (S := AcTwo Q w2.heap.size w4.heap.size w8.heap.size (w8.heap.size + 1) w) 4 rfl (by kernel_rfl) (H9.out.below (below_drew _)) (fun hHeld => ?_)
        refine take_at 0 54 (.agg (poolA Q)) rfl rfl (by kernel_rfl) (by kernel_rfl) (by kernel_rfl) (fun _ _ _ h => h) (yields_pool (by rfl) 31 (.tmp 11) rfl (w8.heap.size) rfl 31 (Q) _ (fun W h => h.n1) Tryd.underlying31 rfl pool_info) hHeld ?_
        simp only [put_laws]
        refine take_at 1 55 (.agg (poolA Q)) rfl rfl (by kernel_rfl) (by kernel_rfl) (by kernel_rfl) (fun _ _ _ h => h) (yields_pool (by rfl) 38 (.tmp 12) rfl (w8.heap.size + 1) rfl 38 (Q) _ (fun W h => h.n2) Tryd.underlying38 rfl rpool_info) hHeld ?_
        simp only [put_laws]
        refine wpAnyH_ready (rs := [2]) (by kernel_rfl) (by simp) ?_
        refine AllReadyH.cons rfl (fun K hK => ?_) AllReadyH.nil
        obtain ⟨old, hold⟩ := hHeld.po
        refine step_store_pool (by rfl) 31 (.tmp 5) (.tmp 54) (by rfl) (w2.heap.size) old Q 31 (by rfl) (by rfl) hold pool_info ?_
        clear hold old
        obtain ⟨hHeld, hA⟩ := hHeld.put0 Q
        refine hK.out _ _ hHeld (fun hHeld => ?_)
        clear hK K
        refine wpAnyH_ready (rs := [3]) (by kernel_rfl) (by simp) ?_
        refine AllReadyH.cons rfl (fun K hK => ?_) AllReadyH.nil
        obtain ⟨old, hold⟩ := hHeld.pm
        refine step_store_pool (by rfl) 38 (.tmp 7) (.tmp 55) (by rfl) (w4.heap.size) old Q 38 (by rfl) (by rfl) hold rpool_info ?_
        clear hold old
        have hA := hA.setRow (k := w4.heap.size) (poolA Q) (by have := hHeld.gh; omega)
        obtain ⟨hHeld, hB⟩ := hHeld.put1 Q
        refine hK.out _ _ hHeld (fun hHeld => ?_)
        clear hK K
        refine wpAnyH_done (by kernel_rfl) ?_ _
        refine NoPanic.normal ?_
        obtain ⟨W10, hW10⟩ : ∃ V, V = ((w9.drew).setRow w2.heap.size (poolA Q)).setRow w4.heap.size (poolA Q) := ⟨_, rfl⟩
        have H10 := Lib.hid (show AcSt Q w2.heap.size w4.heap.size w _ from ⟨hA, hB, hHeld.ge, hHeld.gh, hHeld.bel⟩)
        clear hA hB hHeld H9 HS8 hW10 W10
        go_wp2
        refine wp_region_noPanic ?_
        refine region_start (S := AcSt Q w2.heap.size w4.heap.size w) 13 rfl (by kernel_rfl) (H10.out.below (below_drew _)) (fun hHeld => ?_)
        refine take_at 0 56 (.bool true) rfl rfl (by kernel_rfl) (by kernel_rfl) (by kernel_rfl) (fun _ _ _ h => h) (Or.inl ⟨by rfl, by intro W hW; clear hW; go_simp⟩) hHeld ?_
        simp only [put_laws]
        refine take_at 1 57 (.bool false) rfl rfl (by kernel_rfl) (by kernel_rfl) (by kernel_rfl) (fun _ _ _ h => h) (Or.inl ⟨by rfl, by intro W hW; clear hW; go_simp⟩) hHeld ?_
        simp only [put_laws]
        refine take_at 2 58 (.bool false) rfl rfl (by kernel_rfl) (by kernel_rfl) (by kernel_rfl) (fun _ _ _ h => h) (Or.inl ⟨by rfl, by intro W hW; clear hW; go_simp⟩) hHeld ?_
        simp only [put_laws]
        refine take_at 3 59 (.agg (poolA Q)) rfl rfl (by kernel_rfl) (by kernel_rfl) (by kernel_rfl) (fun _ _ _ h => h) (yields_pool (by rfl) 31 (.tmp 5) rfl (w2.heap.size) rfl 31 (Q) _ (fun W h => h.po) Tryd.underlying31 rfl pool_info) hHeld ?_
        simp only [put_laws]
        refine take_at 5 61 (.agg (poolA Q)) rfl rfl (by kernel_rfl) (by kernel_rfl) (by kernel_rfl) (fun _ _ _ h => h) (yields_pool (by rfl) 38 (.tmp 7) rfl (w4.heap.size) rfl 38 (Q) _ (fun W h => h.pm) Tryd.underlying38 rfl rpool_info) hHeld ?_
        simp only [put_laws]
        refine wpAnyH_ready (rs := [4]) (by kernel_rfl) (by simp) ?_
        refine AllReadyH.cons rfl (fun K hK => ?_) AllReadyH.nil
        go_simp
        refine (pours_any Q _).mono ?_
        rintro e w11 ⟨rfl, hb11⟩
        try go_simp
        have hHeld := hHeld.below hb11
        refine hK.out _ _ hHeld (fun hHeld => ?_)
        clear hK K
        refine take_at 6 62 (.bool false) rfl rfl (by kernel_rfl) (by kernel_rfl) (by kernel_rfl) (fun _ _ _ h => h) (yields_ne (by rfl) 38 38 (.tmp 60) (.tmp 61) rfl (poolA Q) rfl rfl guard_rpool (eq_rpool Q)) hHeld ?_
        simp only [put_laws]
        refine take_at 7 63 (.bool false) rfl rfl (by kernel_rfl) (by kernel_rfl) (by kernel_rfl) (fun _ _ _ h => h) (Or.inl ⟨by rfl, by intro W hW; clear hW; go_simp⟩) hHeld ?_
        simp only [put_laws]
        refine take_at 8 64 (.bool false) rfl rfl (by kernel_rfl) (by kernel_rfl) (by kernel_rfl) (fun _ _ _ h => h) (Or.inl ⟨by rfl, by intro W hW; clear hW; go_simp⟩) hHeld ?_
        simp only [put_laws]
        refine take_at 9 65 (.agg (poolA Q)) rfl rfl (by kernel_rfl) (by kernel_rfl) (by kernel_rfl) (fun _ _ _ h => h) (yields_pool (by rfl) 38 (.tmp 7) rfl (w4.heap.size) rfl 38 (Q) _ (fun W h => h.pm) Tryd.underlying38 rfl rpool_info) hHeld ?_
        simp only [put_laws]
        refine wpAnyH_ready (rs := [10]) (by kernel_rfl) (by simp) ?_
        refine AllReadyH.cons rfl (fun K hK => ?_) AllReadyH.nil
        go_simp
        refine (sound_any Q _ HQS.out HQok.out).mono ?_
        rintro e w12 ⟨rfl, hb12⟩
        try go_simp
        have hHeld := hHeld.below hb12
        refine hK.out _ _ hHeld (fun hHeld => ?_)
        clear hK K
        refine take_at 11 67 (.bool false) rfl rfl (by kernel_rfl) (by kernel_rfl) (by kernel_rfl) (fun _ _ _ h => h) (Or.inl ⟨by rfl, by intro W hW; clear hW; go_simp⟩) hHeld ?_
        simp only [put_laws]
        refine take_at 12 68 (.bool false) rfl rfl (by kernel_rfl) (by kernel_rfl) (by kernel_rfl) (fun _ _ _ h => h) (Or.inl ⟨by rfl, by intro W hW; clear hW; go_simp⟩) hHeld ?_
        simp only [put_laws]
        refine wpAnyH_done (by kernel_rfl) ?_ _
        refine NoPanic.normal ?_
        have H11 := Lib.hid hHeld
        clear H10 hHeld hb11 hb12
        go_wp2
        exact ⟨⟨k + 1, by omega, by go_num, by rw [HQ.out]; exact H11.out⟩, by simp [intOf]; omega⟩
      · obtain rfl : k = N := by omega
        go_wp2
        go_ret
        exact ⟨rfl, HS.out.bel⟩
  · have HN := Lib.hid (show n < 1 ∨ 32 < n by omega)
    go_wp2_with fail
    refine (pnew_no n _ HN.out HNn.out.1 HNn.out.2).mono ?_
    rintro e w2 ⟨rfl, hb2⟩
    have B2 := Lib.hid (B1.out.trans (hb2.mono B1.out.size))
    clear hb2
    go_wp2_with (refine wpList_letP rfl 31 (.tmp 5) (.tmp 22) rfl rfl w2 (zeroP) rfl rfl rfl pool_info ?_; intro w3 n3 hb3; have H3 := Lib.hid n3; have B3 := Lib.hid (B2.out.trans (hb3.mono B2.out.size)); clear n3 hb3)
    refine (prnew_no n _ HN.out HNn.out.1 HNn.out.2).mono ?_
    rintro e w4 ⟨rfl, hb4⟩
    have H4 := Lib.hid (H3.out.below hb4)
    have B4 := Lib.hid (B3.out.trans (hb4.mono B3.out.size))
    clear hb4
    go_wp2_with (refine wpList_letP rfl 38 (.tmp 7) (.tmp 27) rfl rfl w4 (zeroP) rfl rfl rfl rpool_info ?_; intro w5 n5 hb5; have H5 := Lib.hid (show AcSt (zeroP) w2.heap.size w4.heap.size w w5 from ⟨H4.out.below hb5, n5, B2.out.size, H4.out.lt, B4.out.trans (hb5.mono B4.out.size)⟩); clear n5 hb5)
    refine wp_region_noPanic ?_
    refine region_start (S := AcSt (zeroP) w2.heap.size w4.heap.size w) 9 rfl (by kernel_rfl) (H5.out.below (below_drew _)) (fun hHeld => ?_)
    refine take_at 0 29 (.bool false) rfl rfl (by kernel_rfl) (by kernel_rfl) (by kernel_rfl) (fun _ _ _ h => h) (Or.inl ⟨by rfl, by intro W hW; clear hW; go_simp⟩) hHeld ?_
    simp only [put_laws]
    refine take_at 1 30 (.bool false) rfl rfl (by kernel_rfl) (by kernel_rfl) (by kernel_rfl) (fun _ _ _ h => h) (Or.inl ⟨by rfl, by intro W hW; clear hW; go_simp⟩) hHeld ?_
    simp only [put_laws]
    refine take_at 2 31 (.bool false) rfl rfl (by kernel_rfl) (by kernel_rfl) (by kernel_rfl) (fun _ _ _ h => h) (Or.inl ⟨by rfl, by intro W hW; clear hW; go_simp⟩) hHeld ?_
    simp only [put_laws]
    refine take_at 3 32 (.bool false) rfl rfl (by kernel_rfl) (by kernel_rfl) (by kernel_rfl) (fun _ _ _ h => h) (Or.inl ⟨by rfl, by intro W hW; clear hW; go_simp⟩) hHeld ?_
    simp only [put_laws]
    refine take_at 4 33 (.agg (poolA (zeroP))) rfl rfl (by kernel_rfl) (by kernel_rfl) (by kernel_rfl) (fun _ _ _ h => h) (yields_pool (by rfl) 31 (.tmp 5) rfl (w2.heap.size) rfl 31 (zeroP) _ (fun W h => h.po) Tryd.underlying31 rfl pool_info) hHeld ?_
    simp only [put_laws]
    refine take_at 6 35 (.agg (poolA (zeroP))) rfl rfl (by kernel_rfl) (by kernel_rfl) (by kernel_rfl) (fun _ _ _ h => h) (yields_pool (by rfl) 38 (.tmp 7) rfl (w4.heap.size) rfl 38 (zeroP) _ (fun W h => h.pm) Tryd.underlying38 rfl rpool_info) hHeld ?_
    simp only [put_laws]
    refine wpAnyH_ready (rs := [5]) (by kernel_rfl) (by simp) ?_
    refine AllReadyH.cons rfl (fun K hK => ?_) AllReadyH.nil
    go_simp
    refine (pours_any (zeroP) _).mono ?_
    rintro e w6 ⟨rfl, hb6⟩
    try go_simp
    have hHeld := hHeld.below hb6
    refine hK.out _ _ hHeld (fun hHeld => ?_)
    clear hK K
    refine take_at 7 36 (.bool false) rfl rfl (by kernel_rfl) (by kernel_rfl) (by kernel_rfl) (fun _ _ _ h => h) (yields_ne (by rfl) 38 38 (.tmp 34) (.tmp 35) rfl (poolA (zeroP)) rfl rfl guard_rpool (eq_rpool (zeroP))) hHeld ?_
    simp only [put_laws]
    refine take_at 8 37 (.bool false) rfl rfl (by kernel_rfl) (by kernel_rfl) (by kernel_rfl) (fun _ _ _ h => h) (Or.inl ⟨by rfl, by intro W hW; clear hW; go_simp⟩) hHeld ?_
    simp only [put_laws]
    refine wpAnyH_done (by kernel_rfl) ?_ _
    refine NoPanic.normal ?_
    have H6 := Lib.hid hHeld
    clear H3 B3 H4 B4 H5 hHeld hb6
    go_wp2
    go_loopw [40] (NoRel N w2.heap.size w4.heap.size w) (fun i _ => N - (intOf i).toNat)
    case atStart => exact ⟨0, by omega, rfl, H6.out⟩
    case round =>
      obtain ⟨k, hk, rfl, hst⟩ := hrel
      have HS := Lib.hid hst
      clear hst
      by_cases hlt : k < N
      · obtain ⟨ad, rfl, hcs⟩ := HL.out.2.2 (by omega)
        obtain ⟨e0, e1, e2, k0, a0, b0⟩ := hcs k hlt
        generalize hx : l k = x at *
        have c0 := cell_keep e0 HS.out.bel (Nat.le_refl _)
        have c1 := act_second (cell_keep e1 HS.out.bel (Nat.le_refl _))
        have c2 := act_third (cell_keep e2 HS.out.bel (Nat.le_refl _))
        have hlt' : (k : Int) < (N : Int) := by omega
        have HB7 := Lib.hid (HS.out.below (below_new wr (.cells (actA x) 43))).bel
        clear hx e0 e1 e2 hcs a0 b0
        go_wp2
        go_ret
        exact ⟨rfl, HB7.out⟩
      · obtain rfl : k = N := by omega
        go_wp2
        go_ret
        exact ⟨rfl, HS.out.bel⟩
end Go.Proofs.YtakoceablbgchaaDoor
