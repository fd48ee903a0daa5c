/-
  The walk of PoolTime.
-/
import Derived.Test.YtakoceablbgchaaDoorPoolRoom
namespace Go.Proofs.YtakoceablbgchaaDoor
open Go.RowKit
attribute [local go_sem ↓] Go.wp_at_zero Go.wp_at_succ
theorem count_val (x : Nat) (z : Int) (w : World) (h0 : x < 18446744073709551616) (h : ((Sm.count x : Nat) : Int) = z) : Calls Tryd.prog 21 #[.int .u64 x] w fun e w' => e = .returned (.int .i64 z) ∧ w = w' := by
  have := count_any x w h0
  rw [h] at this; exact this
theorem mhas_val (m : Mm.Gr) (a b : Nat) (v : Bool) (w : World) (hm : Mm.Ok m) (ha : a < 32) (h : (Mm.outs m a).testBit b = v) (hb : b < 32) :
    Calls Tryd.prog 22 #[.agg (matA m), .int .i64 (a : Nat), .int .i64 (b : Nat)] w fun e w' => e = .returned (.bool v) ∧ Below w.heap.size w w' := by
  have := mhas_in m a (b : Nat) w hm ha (by omega) (by omega)
  rw [← edge_in, Sm.has_nat b (by have := Mm.outs_lt m a; omega), h] at this
  exact this
theorem or64 {x y : Nat} (hx : x < 18446744073709551616) (hy : y < 18446744073709551616) : x ||| y < 18446744073709551616 := Nat.or_lt_two_pow (n := 64) hx hy
set_option maxHeartbeats 8000000 in
set_option maxRecDepth 100000 in
theorem poolTime_walk (s : Nat) (A : Option Addr) (N c : Nat) (l : Nat → Po.Act) (w : World) (hs : s < 256) (hl : ActsAt w A N c l) (hT : TabAt w) :
    Calls Tryd.prog 5 #[.int .u8 (s : Nat), .slice A N c] w fun e w' => e = .returned (.bool true) ∧ Below w.heap.size w w' := by
  have hz1 := (zero_of_info zero_pool_info).1
  have hz2 := (zero_of_info zero_rpool_info).1
  have hbn := rbuild_none
  have HT := Lib.hid hT
  have HL := Lib.hid hl
  have hN : (N : Int) ≤ 9223372036854775807 := by have := hl.1; have := hl.2.1; unfold maxLen at this; omega
  obtain ⟨r, hr, hr32⟩ := u8_mod s hs
  have hn : 1 ≤ (1 : Int) + (r : Nat) ∧ (1 : Int) + (r : Nat) ≤ 32 := by omega
  clear hl hT
  go_enter Tryd.func5, Tryd.ntmps5
  go_wp2_with fail
  refine (alive_any _ HT.out).mono ?_
  rintro e w1 ⟨rfl, hb1⟩
  have B1 := Lib.hid hb1
  clear hb1
  by_cases hbig : 120 < N
  · have hbig' : (120 : Int) < (N : Int) := by omega
    go_wp2
    go_ret
    exact ⟨rfl, B1.out⟩
  have hbig' : ¬ (120 : Int) < (N : Int) := by omega
  have hN120 : N ≤ 120 := by omega
  go_wp2_with fail
  refine (pnew_yes (1 + (r : Nat)) _ hn).mono ?_
  rintro e w2 ⟨rfl, hb2⟩
  have B2 := Lib.hid (B1.out.trans (hb2.mono B1.out.size))
  clear hb2
  go_wp2_with (refine wpList_letP rfl 31 (.tmp 5) (.tmp 25) rfl rfl w2 (Po.newP (1 + (r : Nat))) rfl rfl rfl pool_info ?_; intro w3 n3 hb3; have H3 := Lib.hid (show RunSt (1 + (r : Nat)) l w2.heap.size 0 w w3 from ⟨n3, B2.out.size, B2.out.trans (hb3.mono B2.out.size)⟩); clear n3 hb3)
  go_loopw [31] (ActRel (1 + (r : Nat)) l N w2.heap.size w) (fun i _ => N - (intOf i).toNat)
  case atStart => exact ⟨0, by omega, rfl, H3.out⟩
  case round =>
    obtain ⟨k, hk, rfl, hst⟩ := hrel
    have HS := Lib.hid hst
    clear hst
    by_cases hlt : k < N
    · obtain ⟨ad, rfl, hcs⟩ := HL.out.2.2 (by omega)
      obtain ⟨e0, e1, e2, k0, a0, b0⟩ := hcs k hlt
      generalize hx : l k = x at *
      have HX := Lib.hid hx
      have HA0 := Lib.hid a0
      have HB0 := Lib.hid b0
      have c0 := cell_keep e0 HS.out.bel (Nat.le_refl _)
      have c1 := act_second (cell_keep e1 HS.out.bel (Nat.le_refl _))
      have c2 := act_third (cell_keep e2 HS.out.bel (Nat.le_refl _))
      have hlt' : (k : Int) < (N : Int) := by omega
      clear hx e0 e1 e2 hcs a0 b0
      go_wp2_with (refine load_pool rfl 31 (.tmp 5) rfl w2.heap.size _ 31 rfl _ (HS.out.po.alloc _) Tryd.underlying31 rfl pool_info ?_)
      have HS4 := Lib.hid (HS.out.below (below_new wr (.cells (actA x) 43)))
      refine (does_any (Po.run (1 + (r : Nat)) l k) zeroP x _ (run_ask hn l (by omega) k0 HA0.out HB0.out (tab_keep HT.out HS4.out.bel))).mono ?_
      rintro e w5 ⟨b, rfl, _, hb5⟩
      have HS5 := Lib.hid (HS4.out.below hb5)
      clear hb5 HS HS4 c0 c1 c2
      rw [run_next HX.out]
      go_wp2_with (refine wpList_setP rfl 31 (.tmp 5) (.tmp 40) rfl rfl w2.heap.size _ (Po.run (1 + (r : Nat)) l (k + 1)) rfl rfl HS5.out.po pool_info ?_; intro w6 n6 b6 _; have HS6 := Lib.hid (show RunSt (1 + (r : Nat)) l w2.heap.size (k + 1) w w6 from ⟨n6, HS5.out.ge, b6 _ _ HS5.out.bel HS5.out.ge⟩); clear n6 b6)
      exact ⟨⟨k + 1, by omega, by go_num, HS6.out⟩, by simp [intOf]; omega⟩
    · obtain rfl : k = N := by omega
      generalize hP : Po.run (1 + (r : Nat)) l k = P at *
      have HP := Lib.hid (show Po.Sound P by rw [← hP]; exact Po.run_sound hn l k)
      have HC := Lib.hid (show P.count ≤ 120 by rw [← hP]; have := (Po.run_count hn l k).1; omega)
      have hPok : P.Ok := HP.out.ok (by have := HC.out; omega)
      have H6 := Lib.hid (show PoolAt wr w2.heap.size P 31 by rw [← hP]; exact HS.out.po)
      have HB6 := Lib.hid HS.out.bel
      have HG := Lib.hid HS.out.ge
      have HPok := Lib.hid hPok
      clear hP HS hPok
      cases hf : Po.ff P with
      | none =>
        have HFull := Lib.hid (Po.full_count HP.out hf)
        have HOr := Lib.hid (bits_or_u64_nat P.live P.done HP.out.live64 HP.out.done64)
        have HWr := Lib.hid (show IntKind.i64.wrap (P.count + 1) = P.count + 1 by have h0 := HP.out.count; have h1 := HC.out; rw [IntKind.wrap_i64]; omega)
        go_wp2_with (refine load_pool rfl 31 (.tmp 5) rfl w2.heap.size P 31 rfl _ H6.out Tryd.underlying31 rfl pool_info ?_)
        refine (begin_val P P 0 4 _ HPok.out (by have := HC.out; omega) (tab_keep HT.out HB6.out) (by unfold Po.begin; rw [hf])).mono ?_
        rintro e w7 ⟨rfl, hb7⟩
        have H7 := Lib.hid (H6.out.below hb7)
        have HB7 := Lib.hid (HB6.out.trans (hb7.mono HB6.out.size))
        clear hb7 H6 HB6 hf
        go_wp2_with (refine wpList_letP rfl 31 (.tmp 9) (.tmp 47) rfl rfl w7 P rfl rfl rfl pool_info ?_; intro w8 n8 hb8; have H8 := Lib.hid (show RoSt P P w2.heap.size w7.heap.size w w8 from ⟨H7.out.below hb8, n8, HG.out, H7.out.lt, HB7.out.trans (hb8.mono HB7.out.size)⟩); clear n8 hb8)
        refine wp_region_noPanic ?_
        refine region_start (S := RoSt P P w2.heap.size w7.heap.size w) 19 rfl (by kernel_rfl) (H8.out.below (below_drew _)) (fun hHeld => ?_)
        refine take_at 0 52 (.int .i64 4) rfl rfl (by kernel_rfl) (by kernel_rfl) (by kernel_rfl) (fun _ _ _ h => h) (Or.inl ⟨by rfl, by intro W hW; clear hW; go_simp⟩) hHeld ?_
        simp only [put_laws]
        refine take_at 1 53 (.bool true) rfl rfl (by kernel_rfl) (by kernel_rfl) (by kernel_rfl) (fun _ _ _ h => h) (Or.inl ⟨by rfl, by intro W hW; clear hW; go_simp⟩) hHeld ?_
        simp only [put_laws]
        refine take_at 2 54 (.bool true) rfl rfl (by kernel_rfl) (by kernel_rfl) (by kernel_rfl) (fun _ _ _ h => h) (Or.inl ⟨by rfl, by intro W hW; clear hW; go_simp⟩) hHeld ?_
        simp only [put_laws]
        refine take_at 3 55 (.pointer (some ⟨w2.heap.size, 65, none⟩)) rfl rfl (by kernel_rfl) (by kernel_rfl) (by kernel_rfl) (fun _ _ _ h => h) (Or.inl ⟨by rfl, by intro W hW; clear hW; go_simp; try (intro h; omega)⟩) hHeld ?_
        simp only [put_laws]
        refine take_at 4 56 (.int .u64 (P.live : Nat)) rfl rfl (by kernel_rfl) (by kernel_rfl) (by kernel_rfl) (fun _ _ _ h => h) (Or.inl ⟨by rfl, by intro W hW; have hc := hW.po.live_; clear hW; go_simp⟩) hHeld ?_
        simp only [put_laws]
        refine take_at 5 57 (.pointer (some ⟨w2.heap.size, 66, none⟩)) rfl rfl (by kernel_rfl) (by kernel_rfl) (by kernel_rfl) (fun _ _ _ h => h) (Or.inl ⟨by rfl, by intro W hW; clear hW; go_simp; try (intro h; omega)⟩) hHeld ?_
        simp only [put_laws]
        refine take_at 6 58 (.int .u64 (P.done : Nat)) rfl rfl (by kernel_rfl) (by kernel_rfl) (by kernel_rfl) (fun _ _ _ h => h) (Or.inl ⟨by rfl, by intro W hW; have hc := hW.po.done_; clear hW; go_simp⟩) hHeld ?_
        simp only [put_laws]
        refine take_at 7 59 (.int .u64 ((P.live ||| P.done : Nat) : Int)) rfl rfl (by kernel_rfl) (by kernel_rfl) (by kernel_rfl) (fun _ _ _ h => h) (Or.inl ⟨by rfl, by intro W hW; have hx := HOr.out; clear hW; go_simp⟩) hHeld ?_
        simp only [put_laws]
        refine take_at 9 61 (.pointer (some ⟨w2.heap.size, 0, none⟩)) rfl rfl (by kernel_rfl) (by kernel_rfl) (by kernel_rfl) (fun _ _ _ h => h) (Or.inl ⟨by rfl, by intro W hW; clear hW; go_simp; try (intro h; omega)⟩) hHeld ?_
        simp only [put_laws]
        refine take_at 10 62 (.int .i64 P.size) rfl rfl (by kernel_rfl) (by kernel_rfl) (by kernel_rfl) (fun _ _ _ h => h) (Or.inl ⟨by rfl, by intro W hW; have hc := hW.po.size_; clear hW; go_simp⟩) hHeld ?_
        simp only [put_laws]
        refine wpAnyH_ready (rs := [8]) (by kernel_rfl) (by simp) ?_
        refine AllReadyH.cons rfl (fun K hK => ?_) AllReadyH.nil
        go_simp
        refine (count_val _ P.size _ (or64 HP.out.live64 HP.out.done64) HFull.out).mono ?_
        rintro e w' ⟨rfl, rfl⟩
        try go_simp
        refine hK.out _ _ hHeld (fun hHeld => ?_)
        clear hK K
        refine take_at 11 63 (.bool true) rfl rfl (by kernel_rfl) (by kernel_rfl) (by kernel_rfl) (fun _ _ _ h => h) (Or.inl ⟨by rfl, by intro W hW; clear hW; go_simp⟩) hHeld ?_
        simp only [put_laws]
        refine take_at 12 64 (.bool true) rfl rfl (by kernel_rfl) (by kernel_rfl) (by kernel_rfl) (fun _ _ _ h => h) (Or.inl ⟨by rfl, by intro W hW; clear hW; go_simp⟩) hHeld ?_
        simp only [put_laws]
        refine take_at 13 65 (.bool true) rfl rfl (by kernel_rfl) (by kernel_rfl) (by kernel_rfl) (fun _ _ _ h => h) (Or.inl ⟨by rfl, by intro W hW; clear hW; go_simp⟩) hHeld ?_
        simp only [put_laws]
        refine take_at 14 66 (.agg (poolA P)) rfl rfl (by kernel_rfl) (by kernel_rfl) (by kernel_rfl) (fun _ _ _ h => h) (yields_pool (by rfl) 31 (.tmp 9) rfl (w7.heap.size) rfl 31 (P) _ (fun W h => h.pq) Tryd.underlying31 rfl pool_info) hHeld ?_
        simp only [put_laws]
        refine take_at 15 67 (.agg (poolA P)) rfl rfl (by kernel_rfl) (by kernel_rfl) (by kernel_rfl) (fun _ _ _ h => h) (yields_pool (by rfl) 31 (.tmp 5) rfl (w2.heap.size) rfl 31 (P) _ (fun W h => h.po) Tryd.underlying31 rfl pool_info) hHeld ?_
        simp only [put_laws]
        refine take_at 16 68 (.bool true) rfl rfl (by kernel_rfl) (by kernel_rfl) (by kernel_rfl) (fun _ _ _ h => h) (yields_eq (by rfl) 31 31 (.tmp 66) (.tmp 67) rfl (poolA P) rfl rfl guard_pool (eq_pool P)) hHeld ?_
        simp only [put_laws]
        refine take_at 17 69 (.bool true) rfl rfl (by kernel_rfl) (by kernel_rfl) (by kernel_rfl) (fun _ _ _ h => h) (Or.inl ⟨by rfl, by intro W hW; clear hW; go_simp⟩) hHeld ?_
        simp only [put_laws]
        refine take_at 18 4 (.bool true) rfl rfl (by kernel_rfl) (by kernel_rfl) (by kernel_rfl) (fun _ _ _ h => h) (Or.inl ⟨by rfl, by intro W hW; clear hW; go_simp⟩) hHeld ?_
        simp only [put_laws]
        refine wpAnyH_done (by kernel_rfl) ?_ _
        refine NoPanic.normal ?_
        clear H7 HB7 H8
        go_wp2
        go_ret
        exact ⟨rfl, hHeld.bel⟩
      | some s2 =>
        have hs := Po.ff_spec hf
        have hs32 := hs.1
        have hfa := Po.freeAt_tk hs.2.1
        have HFr := Lib.hid (show (P.live ||| P.done).testBit s2 = false by cases hb : (P.live ||| P.done).testBit s2; rfl; exact absurd (Po.tk_or.2 hb) hfa.2)
        have HOr := Lib.hid (bits_or_u64_nat P.live P.done HP.out.live64 HP.out.done64)
        have HWr := Lib.hid (show IntKind.i64.wrap (P.count + 1) = P.count + 1 by have h0 := HP.out.count; have h1 := HC.out; rw [IntKind.wrap_i64]; omega)
        have HQS := Lib.hid (Po.begun_sound HP.out hs32 hfa.1 hfa.2)
        have HBe := Lib.hid (fun i => Po.begun_behind HP.out hf (i := i))
        have HId := Lib.hid (show (Po.begun P s2).ids s2 = P.count + 1 by show Od.upd P.ids s2 (P.count + 1) s2 = _; simp [Od.upd])
        have HLv := Lib.hid (show (Po.begun P s2).live.testBit s2 = true by show (Sm.add P.live (s2 : Nat)).testBit s2 = true; rw [Sm.add_test]; simp; omega)
        go_wp2_with (refine load_pool rfl 31 (.tmp 5) rfl w2.heap.size P 31 rfl _ H6.out Tryd.underlying31 rfl pool_info ?_)
        refine (begin_val P (Po.begun P s2) (s2 : Nat) 0 _ HPok.out (by have := HC.out; omega) (tab_keep HT.out HB6.out) (by unfold Po.begin; rw [hf])).mono ?_
        rintro e w7 ⟨rfl, hb7⟩
        generalize hQ : Po.begun P s2 = Q at *
        have H7 := Lib.hid (H6.out.below hb7)
        have HB7 := Lib.hid (HB6.out.trans (hb7.mono HB6.out.size))
        clear hb7 H6 HB6 hf hs hfa hQ
        go_wp2_with (refine wpList_letP rfl 31 (.tmp 9) (.tmp 47) rfl rfl w7 Q rfl rfl rfl pool_info ?_; intro w8 n8 hb8; have H8 := Lib.hid (show RoSt P Q w2.heap.size w7.heap.size w w8 from ⟨H7.out.below hb8, n8, HG.out, H7.out.lt, HB7.out.trans (hb8.mono HB7.out.size)⟩); have d8 := H8.out.po.done_; clear n8 hb8)
        refine (items_any P.done _ HP.out.done64 (tab_keep HT.out H8.out.bel)).mono ?_
        rintro e w9 ⟨v9, rfl, ho9, hb9⟩
        have H9 := Lib.hid (show RoRow P Q w2.heap.size w7.heap.size w w8.heap.size v9 (Sm.items P.done) w9 from ⟨H8.out.below hb9, ho9, H8.out.pq.lt⟩)
        have hlen9 := Sm.items_len P.done
        obtain ⟨A2, d2, rfl, hc1, hc2⟩ := Own.shape H9.out.row
        clear ho9 hb9 d8 H7 HB7
        go_wp2
        go_loopw [74] (RoRel P Q w2.heap.size w7.heap.size w w8.heap.size (.slice A2 (Sm.items P.done).length d2) (Sm.items P.done)) (fun i _ => 64 - (intOf i).toNat)
        case atStart => exact ⟨0, by omega, rfl, H9.out⟩
        case round =>
          obtain ⟨t, ht, rfl, hst⟩ := hrel
          have HR := Lib.hid hst
          by_cases htl : t < (Sm.items P.done).length
          · obtain ⟨ga, rfl, hc⟩ := hst.row.at_ htl
            have hmem0 := List.getElem_mem htl
            generalize (Sm.items P.done)[t] = i at *
            have hi32 := HP.out.tk32 (.inr (Sm.items_mem.1 hmem0).2)
            have HE := Lib.hid ((Mm.outs_test _ _ _).2 (HBe.out i hmem0).1)
            have HO := Lib.hid (show ¬ Q.o s2 ≤ Q.o i by have := (HBe.out i hmem0).2; omega)
            clear hst hmem0
            go_wp2
            refine wp_region_noPanic ?_
            refine region_start (S := RoRow P Q w2.heap.size w7.heap.size w w8.heap.size (.slice (some ⟨ga, 0, none⟩) (Sm.items P.done).length d2) (Sm.items P.done)) 17 rfl (by kernel_rfl) (HR.out.below (below_drew _)) (fun hHeld => ?_)
            refine take_at 0 78 (.pointer (some ⟨w7.heap.size, 1, none⟩)) rfl rfl (by kernel_rfl) (by kernel_rfl) (by kernel_rfl) (fun _ _ _ h => h) (Or.inl ⟨by rfl, by intro W hW; clear hW; go_simp; try (intro h; omega)⟩) hHeld ?_
            simp only [put_laws]
            refine take_at 1 79 (.agg (matA Q.m)) rfl rfl (by kernel_rfl) (by kernel_rfl) (by kernel_rfl) (fun _ _ _ h => h) (yields_mid (by rfl) 27 (.tmp 78) rfl (w7.heap.size) 1 rfl (matA Q.m) _ (fun W h => h.st.pq.range_m) Tryd.underlying27 rfl (matInfo _)) hHeld ?_
            simp only [put_laws]
            refine take_at 2 80 (.int .i64 (i : Nat)) rfl rfl (by kernel_rfl) (by kernel_rfl) (by kernel_rfl) (fun _ _ _ h => h) (Or.inl ⟨by rfl, by intro W hW; clear hW; go_simp⟩) hHeld ?_
            simp only [put_laws]
            refine take_at 3 81 (.int .i64 (s2 : Nat)) rfl rfl (by kernel_rfl) (by kernel_rfl) (by kernel_rfl) (fun _ _ _ h => h) (Or.inl ⟨by rfl, by intro W hW; clear hW; go_simp⟩) hHeld ?_
            simp only [put_laws]
            refine wpAnyH_ready (rs := [4]) (by kernel_rfl) (by simp) ?_
            refine AllReadyH.cons rfl (fun K hK => ?_) AllReadyH.nil
            go_simp
            refine (mhas_val Q.m i s2 true _ HQS.out.mok hi32 HE.out hs32).mono ?_
            rintro e w10 ⟨rfl, hb10⟩
            try go_simp
            have hHeld := hHeld.below hb10
            refine hK.out _ _ hHeld (fun hHeld => ?_)
            clear hK K
            refine take_at 5 83 (.bool false) rfl rfl (by kernel_rfl) (by kernel_rfl) (by kernel_rfl) (fun _ _ _ h => h) (Or.inl ⟨by rfl, by intro W hW; clear hW; go_simp⟩) hHeld ?_
            simp only [put_laws]
            refine take_at 6 84 (.bool false) rfl rfl (by kernel_rfl) (by kernel_rfl) (by kernel_rfl) (fun _ _ _ h => h) (Or.inl ⟨by rfl, by intro W hW; clear hW; go_simp⟩) hHeld ?_
            simp only [put_laws]
            refine take_at 7 85 (.int .i64 (i : Nat)) rfl rfl (by kernel_rfl) (by kernel_rfl) (by kernel_rfl) (fun _ _ _ h => h) (Or.inl ⟨by rfl, by intro W hW; clear hW; go_simp⟩) hHeld ?_
            simp only [put_laws]
            refine take_at 8 86 (.pointer (some ⟨w7.heap.size, 33, none⟩)) rfl rfl (by kernel_rfl) (by kernel_rfl) (by kernel_rfl) (fun _ _ _ h => h) (Or.inl ⟨by rfl, by intro W hW; clear hW; go_simp; try (intro h; omega)⟩) hHeld ?_
            simp only [put_laws]
            refine take_at 9 87 (.pointer (some ⟨w7.heap.size, 33 + i, none⟩)) rfl rfl (by kernel_rfl) (by kernel_rfl) (by kernel_rfl) (fun _ _ _ h => h) (Or.inl ⟨by rfl, by intro W hW; clear hW; go_simp; try (intro h; omega)⟩) hHeld ?_
            simp only [put_laws]
            refine take_at 10 88 (.int .i64 (Q.o i)) rfl rfl (by kernel_rfl) (by kernel_rfl) (by kernel_rfl) (fun _ _ _ h => h) (Or.inl ⟨by rfl, by intro W hW; have hc := hW.st.pq.cell (33 + i) (by omega); rw [cell_o Q i hi32] at hc; clear hW; go_simp⟩) hHeld ?_
            simp only [put_laws]
            refine take_at 11 89 (.int .i64 (s2 : Nat)) rfl rfl (by kernel_rfl) (by kernel_rfl) (by kernel_rfl) (fun _ _ _ h => h) (Or.inl ⟨by rfl, by intro W hW; clear hW; go_simp⟩) hHeld ?_
            simp only [put_laws]
            refine take_at 12 90 (.pointer (some ⟨w7.heap.size, 33, none⟩)) rfl rfl (by kernel_rfl) (by kernel_rfl) (by kernel_rfl) (fun _ _ _ h => h) (Or.inl ⟨by rfl, by intro W hW; clear hW; go_simp; try (intro h; omega)⟩) hHeld ?_
            simp only [put_laws]
            refine take_at 13 91 (.pointer (some ⟨w7.heap.size, 33 + s2, none⟩)) rfl rfl (by kernel_rfl) (by kernel_rfl) (by kernel_rfl) (fun _ _ _ h => h) (Or.inl ⟨by rfl, by intro W hW; clear hW; go_simp; try (intro h; omega)⟩) hHeld ?_
            simp only [put_laws]
            refine take_at 14 92 (.int .i64 (Q.o s2)) rfl rfl (by kernel_rfl) (by kernel_rfl) (by kernel_rfl) (fun _ _ _ h => h) (Or.inl ⟨by rfl, by intro W hW; have hc := hW.st.pq.cell (33 + s2) (by omega); rw [cell_o Q s2 hs32] at hc; clear hW; go_simp⟩) hHeld ?_
            simp only [put_laws]
            refine take_at 15 93 (.bool false) rfl rfl (by kernel_rfl) (by kernel_rfl) (by kernel_rfl) (fun _ _ _ h => h) (Or.inl ⟨by rfl, by intro W hW; have hx := HO.out; clear hW; go_simp⟩) hHeld ?_
            simp only [put_laws]
            refine take_at 16 94 (.bool false) rfl rfl (by kernel_rfl) (by kernel_rfl) (by kernel_rfl) (fun _ _ _ h => h) (Or.inl ⟨by rfl, by intro W hW; clear hW; go_simp⟩) hHeld ?_
            simp only [put_laws]
            refine wpAnyH_done (by kernel_rfl) ?_ _
            refine NoPanic.normal ?_
            clear hc
            go_wp2
            exact ⟨⟨t + 1, by omega, by go_num, hHeld⟩, by simp [intOf]; omega⟩
          · obtain rfl : t = (Sm.items P.done).length := by omega
            have HR1 := Lib.hid hst.st
            clear hst HR H8 H9
            go_wp2
            refine wp_region_noPanic ?_
            refine region_start (S := RoSt P Q w2.heap.size w7.heap.size w) 25 rfl (by kernel_rfl) (HR1.out.below (below_drew _)) (fun hHeld => ?_)
            refine take_at 0 96 (.pointer (some ⟨w7.heap.size, 65, none⟩)) rfl rfl (by kernel_rfl) (by kernel_rfl) (by kernel_rfl) (fun _ _ _ h => h) (Or.inl ⟨by rfl, by intro W hW; clear hW; go_simp; try (intro h; omega)⟩) hHeld ?_
            simp only [put_laws]
            refine take_at 1 97 (.int .u64 (Q.live : Nat)) rfl rfl (by kernel_rfl) (by kernel_rfl) (by kernel_rfl) (fun _ _ _ h => h) (Or.inl ⟨by rfl, by intro W hW; have hc := hW.pq.live_; clear hW; go_simp⟩) hHeld ?_
            simp only [put_laws]
            refine take_at 2 98 (.int .i64 (s2 : Nat)) rfl rfl (by kernel_rfl) (by kernel_rfl) (by kernel_rfl) (fun _ _ _ h => h) (Or.inl ⟨by rfl, by intro W hW; clear hW; go_simp⟩) hHeld ?_
            simp only [put_laws]
            refine wpAnyH_ready (rs := [3]) (by kernel_rfl) (by simp) ?_
            refine AllReadyH.cons rfl (fun K hK => ?_) AllReadyH.nil
            go_simp
            refine (has_nat_val Q.live s2 true _ HQS.out.live64 (by omega) HLv.out).mono ?_
            rintro e w' ⟨rfl, rfl⟩
            try go_simp
            refine hK.out _ _ hHeld (fun hHeld => ?_)
            clear hK K
            refine take_at 4 100 (.bool true) rfl rfl (by kernel_rfl) (by kernel_rfl) (by kernel_rfl) (fun _ _ _ h => h) (Or.inl ⟨by rfl, by intro W hW; clear hW; go_simp⟩) hHeld ?_
            simp only [put_laws]
            refine take_at 5 101 (.int .i64 (s2 : Nat)) rfl rfl (by kernel_rfl) (by kernel_rfl) (by kernel_rfl) (fun _ _ _ h => h) (Or.inl ⟨by rfl, by intro W hW; clear hW; go_simp⟩) hHeld ?_
            simp only [put_laws]
            refine take_at 6 102 (.pointer (some ⟨w7.heap.size, 67, none⟩)) rfl rfl (by kernel_rfl) (by kernel_rfl) (by kernel_rfl) (fun _ _ _ h => h) (Or.inl ⟨by rfl, by intro W hW; clear hW; go_simp; try (intro h; omega)⟩) hHeld ?_
            simp only [put_laws]
            refine take_at 7 103 (.pointer (some ⟨w7.heap.size, 67 + s2, none⟩)) rfl rfl (by kernel_rfl) (by kernel_rfl) (by kernel_rfl) (fun _ _ _ h => h) (Or.inl ⟨by rfl, by intro W hW; clear hW; go_simp; try (intro h; omega)⟩) hHeld ?_
            simp only [put_laws]
            refine take_at 8 104 (.int .i64 (P.count + 1)) rfl rfl (by kernel_rfl) (by kernel_rfl) (by kernel_rfl) (fun _ _ _ h => h) (Or.inl ⟨by rfl, by intro W hW; have hc := hW.pq.id_ s2 hs32; rw [HId.out] at hc; clear hW; go_simp⟩) hHeld ?_
            simp only [put_laws]
            refine take_at 9 105 (.pointer (some ⟨w2.heap.size, 99, none⟩)) rfl rfl (by kernel_rfl) (by kernel_rfl) (by kernel_rfl) (fun _ _ _ h => h) (Or.inl ⟨by rfl, by intro W hW; clear hW; go_simp; try (intro h; omega)⟩) hHeld ?_
            simp only [put_laws]
            refine take_at 10 106 (.int .i64 P.count) rfl rfl (by kernel_rfl) (by kernel_rfl) (by kernel_rfl) (fun _ _ _ h => h) (Or.inl ⟨by rfl, by intro W hW; have hc := hW.po.count_; clear hW; go_simp⟩) hHeld ?_
            simp only [put_laws]
            refine take_at 11 107 (.int .i64 (P.count + 1)) rfl rfl (by kernel_rfl) (by kernel_rfl) (by kernel_rfl) (fun _ _ _ h => h) (Or.inl ⟨by rfl, by intro W hW; have hx := HWr.out; clear hW; go_simp⟩) hHeld ?_
            simp only [put_laws]
            refine take_at 12 108 (.bool true) rfl rfl (by kernel_rfl) (by kernel_rfl) (by kernel_rfl) (fun _ _ _ h => h) (Or.inl ⟨by rfl, by intro W hW; clear hW; go_simp⟩) hHeld ?_
            simp only [put_laws]
            refine take_at 13 109 (.bool true) rfl rfl (by kernel_rfl) (by kernel_rfl) (by kernel_rfl) (fun _ _ _ h => h) (Or.inl ⟨by rfl, by intro W hW; clear hW; go_simp⟩) hHeld ?_
            simp only [put_laws]
            refine take_at 14 110 (.bool true) rfl rfl (by kernel_rfl) (by kernel_rfl) (by kernel_rfl) (fun _ _ _ h => h) (Or.inl ⟨by rfl, by intro W hW; clear hW; go_simp⟩) hHeld ?_
            simp only [put_laws]
            refine take_at 15 111 (.pointer (some ⟨w2.heap.size, 65, none⟩)) rfl rfl (by kernel_rfl) (by kernel_rfl) (by kernel_rfl) (fun _ _ _ h => h) (Or.inl ⟨by rfl, by intro W hW; clear hW; go_simp; try (intro h; omega)⟩) hHeld ?_
            simp only [put_laws]
            refine take_at 16 112 (.int .u64 (P.live : Nat)) rfl rfl (by kernel_rfl) (by kernel_rfl) (by kernel_rfl) (fun _ _ _ h => h) (Or.inl ⟨by rfl, by intro W hW; have hc := hW.po.live_; clear hW; go_simp⟩) hHeld ?_
            simp only [put_laws]
            refine take_at 17 113 (.pointer (some ⟨w2.heap.size, 66, none⟩)) rfl rfl (by kernel_rfl) (by kernel_rfl) (by kernel_rfl) (fun _ _ _ h => h) (Or.inl ⟨by rfl, by intro W hW; clear hW; go_simp; try (intro h; omega)⟩) hHeld ?_
            simp only [put_laws]
            refine take_at 18 114 (.int .u64 (P.done : Nat)) rfl rfl (by kernel_rfl) (by kernel_rfl) (by kernel_rfl) (fun _ _ _ h => h) (Or.inl ⟨by rfl, by intro W hW; have hc := hW.po.done_; clear hW; go_simp⟩) hHeld ?_
            simp only [put_laws]
            refine take_at 19 115 (.int .u64 ((P.live ||| P.done : Nat) : Int)) rfl rfl (by kernel_rfl) (by kernel_rfl) (by kernel_rfl) (fun _ _ _ h => h) (Or.inl ⟨by rfl, by intro W hW; have hx := HOr.out; clear hW; go_simp⟩) hHeld ?_
            simp only [put_laws]
            refine take_at 20 116 (.int .i64 (s2 : Nat)) rfl rfl (by kernel_rfl) (by kernel_rfl) (by kernel_rfl) (fun _ _ _ h => h) (Or.inl ⟨by rfl, by intro W hW; clear hW; go_simp⟩) hHeld ?_
            simp only [put_laws]
            refine wpAnyH_ready (rs := [21]) (by kernel_rfl) (by simp) ?_
            refine AllReadyH.cons rfl (fun K hK => ?_) AllReadyH.nil
            go_simp
            refine (has_nat_val (P.live ||| P.done) s2 false _ (or64 HP.out.live64 HP.out.done64) (by omega) HFr.out).mono ?_
            rintro e w' ⟨rfl, rfl⟩
            try go_simp
            refine hK.out _ _ hHeld (fun hHeld => ?_)
            clear hK K
            refine take_at 22 118 (.bool true) rfl rfl (by kernel_rfl) (by kernel_rfl) (by kernel_rfl) (fun _ _ _ h => h) (Or.inl ⟨by rfl, by intro W hW; clear hW; go_simp⟩) hHeld ?_
            simp only [put_laws]
            refine take_at 23 119 (.bool true) rfl rfl (by kernel_rfl) (by kernel_rfl) (by kernel_rfl) (fun _ _ _ h => h) (Or.inl ⟨by rfl, by intro W hW; clear hW; go_simp⟩) hHeld ?_
            simp only [put_laws]
            refine take_at 24 4 (.bool true) rfl rfl (by kernel_rfl) (by kernel_rfl) (by kernel_rfl) (fun _ _ _ h => h) (Or.inl ⟨by rfl, by intro W hW; clear hW; go_simp⟩) hHeld ?_
            simp only [put_laws]
            refine wpAnyH_done (by kernel_rfl) ?_ _
            refine NoPanic.normal ?_
            clear HR1
            go_wp2
            go_ret
            exact ⟨rfl, hHeld.bel⟩
end Go.Proofs.YtakoceablbgchaaDoor
