/-
  The walk of PoolNumbers.
-/
import Derived.Test.YtakoceablbgchaaDoorPoolTwo
namespace Go.Proofs.YtakoceablbgchaaDoor
open Go.RowKit
attribute [local go_sem ↓] Go.wp_at_zero Go.wp_at_succ
def NumRel (n : Int) (l : Nat → Po.Act) (N g : Nat) (w : World) (c i : Value) (wr : World) : Prop := ∃ k : Nat, k ≤ N ∧ i = .int .i64 k ∧ c = .int .i64 (Po.run n l k).count ∧ RunSt n l g k w wr
theorem first_val (x s : Nat) (w : World) (hx : x < 18446744073709551616) (h0 : x ≠ 0) (hT : TabAt w) (h : Sm.first x = s) :
    Calls Tryd.prog 25 #[.int .u64 x] w fun e w' => e = .returned (.int .i64 (s : Nat)) ∧ w = w' := by
  have := first_any x w hx h0 hT
  rw [h] at this; exact this
theorem and_right_lt (x y : Nat) : x &&& (18446744073709551615 - y) < 18446744073709551616 := Nat.lt_of_le_of_lt Nat.and_le_right (by omega)
set_option maxHeartbeats 8000000 in
set_option maxRecDepth 100000 in
theorem poolNumbers_walk (s : Nat) (A : Option Addr) (N c : Nat) (l : Nat → Po.Act) (w : World) (hs : s < 256) (hl : ActsAt w A N c l) (hT : TabAt w) :
    Calls Tryd.prog 7 #[.int .u8 (s : Nat), .slice A N c] w fun e w' => e = .returned (.bool true) ∧ Below w.heap.size w w' := by
  have hz1 := (zero_of_info zero_pool_info).1
  have hz2 := (zero_of_info zero_rpool_info).1
  have hbn := rbuild_none
  have HT := Lib.hid hT
  have HL := Lib.hid hl
  have hN : (N : Int) ≤ 9223372036854775807 := by have := hl.1; have := hl.2.1; unfold maxLen at this; omega
  obtain ⟨r, hr, hr32⟩ := u8_mod s hs
  have hn : 1 ≤ (1 : Int) + (r : Nat) ∧ (1 : Int) + (r : Nat) ≤ 32 := by omega
  clear hl hT
  go_enter Tryd.func7, Tryd.ntmps7
  go_wp2_with fail
  refine (alive_any _ HT.out).mono ?_
  rintro e w1 ⟨rfl, hb1⟩
  have B1 := Lib.hid hb1
  clear hb1
  by_cases hbig : 120 < N
  · have hbig' : (120 : Int) < (N : Int) := by omega
    go_wp2
    go_ret
    exact ⟨rfl, B1.out⟩
  have hbig' : ¬ (120 : Int) < (N : Int) := by omega
  have hN120 : N ≤ 120 := by omega
  go_wp2_with fail
  refine (pnew_yes (1 + (r : Nat)) _ hn).mono ?_
  rintro e w2 ⟨rfl, hb2⟩
  have B2 := Lib.hid (B1.out.trans (hb2.mono B1.out.size))
  clear hb2
  go_wp2_with (refine wpList_letP rfl 31 (.tmp 5) (.tmp 25) rfl rfl w2 (Po.newP (1 + (r : Nat))) rfl rfl rfl pool_info ?_; intro w3 n3 hb3; have H3 := Lib.hid (show RunSt (1 + (r : Nat)) l w2.heap.size 0 w w3 from ⟨n3, B2.out.size, B2.out.trans (hb3.mono B2.out.size)⟩); clear n3 hb3)
  go_wp2
  go_loopw [7, 31] (NumRel (1 + (r : Nat)) l N w2.heap.size w) (fun _ i _ => N - (intOf i).toNat)
  case atStart => exact ⟨0, by omega, rfl, rfl, H3.out⟩
  case round =>
    obtain ⟨k, hk, rfl, rfl, hst⟩ := hrel
    have HS := Lib.hid hst
    clear hst
    by_cases hlt : k < N
    · obtain ⟨ad, rfl, hcs⟩ := HL.out.2.2 (by omega)
      obtain ⟨e0, e1, e2, k0, a0, b0⟩ := hcs k hlt
      generalize hx : l k = x at *
      have HX := Lib.hid hx
      have HA0 := Lib.hid a0
      have HB0 := Lib.hid b0
      have c0 := cell_keep e0 HS.out.bel (Nat.le_refl _)
      have c1 := act_second (cell_keep e1 HS.out.bel (Nat.le_refl _))
      have c2 := act_third (cell_keep e2 HS.out.bel (Nat.le_refl _))
      have hlt' : (k : Int) < (N : Int) := by omega
      clear hx e0 e1 e2 hcs a0 b0
      go_wp2_with (refine load_pool rfl 31 (.tmp 5) rfl w2.heap.size _ 31 rfl _ (HS.out.po.alloc _) Tryd.underlying31 rfl pool_info ?_)
      have HS4 := Lib.hid (HS.out.below (below_new wr (.cells (actA x) 43)))
      refine (does_any (Po.run (1 + (r : Nat)) l k) zeroP x _ (run_ask hn l (by omega) k0 HA0.out HB0.out (tab_keep HT.out HS4.out.bel))).mono ?_
      rintro e w5 ⟨b, rfl, _, hb5⟩
      have HS5 := Lib.hid (HS4.out.below hb5)
      clear hb5 HS HS4 c0 c1 c2
      have HQ := Lib.hid (run_next (n := 1 + (r : Nat)) HX.out)
      have HP := Lib.hid (Po.run_sound hn l k)
      have HC := Lib.hid (Po.run_count hn l k)
      have HC2 := Lib.hid (Po.run_count hn l (k + 1))
      have H5 := Lib.hid HS5.out.po
      have HG := Lib.hid HS5.out.ge
      have HB5 := Lib.hid HS5.out.bel
      rw [HQ.out]
      generalize Po.act zeroP x = Z
      generalize hPP : Po.run (1 + (r : Nat)) l k = P at *
      generalize hQQ : Po.run (1 + (r : Nat)) l (k + 1) = Q at *
      have HQQ := Lib.hid hQQ
      clear hPP hQQ HS5
      by_cases hc : Q.count = P.count
      · go_wp2_with (first
          | (refine wpList_letPP rfl rfl 31 38 (.tmp 10) (.tmp 40) (.tmp 11) (.tmp 41) rfl rfl rfl rfl w5 Q Z rfl rfl rfl rfl rfl pool_info rpool_info ?_; intro w6 n6 _ hb6; have HR := Lib.hid (show RoSt P Q w2.heap.size w5.heap.size w w6 from ⟨H5.out.below hb6, n6, HG.out, H5.out.lt, HB5.out.trans (hb6.mono HB5.out.size)⟩); have q1 := HR.out.po.count_; have q2 := HR.out.pq.count_; rw [hc] at q2; clear n6 hb6)
          | (refine load_pool rfl 31 (.tmp 10) rfl w5.heap.size Q 31 rfl _ HR.out.pq Tryd.underlying31 rfl pool_info ?_)
          | (refine wpList_setP rfl 31 (.tmp 5) (.tmp 80) rfl rfl w2.heap.size _ Q rfl rfl HR.out.po pool_info ?_; intro w7 n7 b7 _; have H7 := Lib.hid (show RunSt (1 + (r : Nat)) l w2.heap.size (k + 1) w w7 from ⟨by rw [HQQ.out]; exact n7, HG.out, b7 _ _ HR.out.bel HG.out⟩); clear n7 b7))
        exact ⟨⟨k + 1, by omega, by go_num, by rw [HQQ.out, hc], H7.out⟩, by simp [intOf]; omega⟩
      · obtain ⟨s2, hf, hB⟩ := Po.act_more HP.out x (by rw [HQ.out]; exact hc)
        rw [HQ.out] at hB
        have hcn : Q.count = P.count + 1 := by rw [hB]; rfl
        have hs := Po.ff_spec hf
        have hs32 := hs.1
        obtain ⟨z, hz⟩ := Int.eq_ofNat_of_zero_le (show 0 ≤ P.size by have := HP.out.size; omega)
        have hz32 : z ≤ 32 := by have := HP.out.size; omega
        have HF := Lib.hid (Po.free_first HP.out z hz hf)
        have HOr := Lib.hid (bits_or_u64_nat P.live P.done HP.out.live64 HP.out.done64)
        have hzp : 2 ^ z ≤ 4294967296 := Nat.pow_le_pow_right (n := 2) (by decide) hz32
        have hz1 := Nat.one_le_two_pow (n := z)
        have he2 : ((2 : Int) ^ z) = ((2 ^ z : Nat) : Int) := by simp
        have HSh := Lib.hid (show IntKind.u64.wrap (2 ^ z) = 2 ^ z by rw [he2, IntKind.wrap_u64]; omega)
        have HSb := Lib.hid (show IntKind.u64.wrap (2 ^ z - 1) = ((2 ^ z - 1 : Nat) : Int) by rw [he2, IntKind.wrap_u64]; omega)
        clear he2
        have HAn := Lib.hid (u64_andNot_nat (2 ^ z - 1) (P.live ||| P.done) (by omega) (or64 HP.out.live64 HP.out.done64))
        have HId := Lib.hid (show Q.ids s2 = P.count + 1 by rw [hB]; show Od.upd P.ids s2 (P.count + 1) s2 = _; simp [Od.upd])
        have HLv := Lib.hid (show Q.live.testBit s2 = true by rw [hB]; show (Sm.add P.live (s2 : Nat)).testBit s2 = true; rw [Sm.add_test]; simp; omega)
        have HQ64 := Lib.hid (show Q.live < 18446744073709551616 by rw [hB]; exact (Po.begun_sound HP.out hs32 (Po.freeAt_tk hs.2.1).1 (Po.freeAt_tk hs.2.1).2).live64)
        have hp0 := HP.out.count
        have hp1 := HC.out.1
        have hne : (P.count + 1 == P.count) = false := by rw [beq_eq_false_iff_ne]; omega
        clear hf hs hB hc
        go_wp2_with (refine wpList_letPP rfl rfl 31 38 (.tmp 10) (.tmp 40) (.tmp 11) (.tmp 41) rfl rfl rfl rfl w5 Q Z rfl rfl rfl rfl rfl pool_info rpool_info ?_; intro w6 n6 _ hb6; have HR := Lib.hid (show RoSt P Q w2.heap.size w5.heap.size w w6 from ⟨H5.out.below hb6, n6, HG.out, H5.out.lt, HB5.out.trans (hb6.mono HB5.out.size)⟩); have q1 := HR.out.po.count_; have q2 := HR.out.pq.count_; rw [hcn] at q2; have q3 := HR.out.pq.id_ s2 hs32; rw [HId.out] at q3; have q4 := HR.out.pq.live_; clear n6 hb6)
        refine wp_region_noPanic ?_
        refine region_start (S := RoSt P Q w2.heap.size w5.heap.size w) 12 rfl (by kernel_rfl) (HR.out.below (below_drew _)) (fun hHeld => ?_)
        refine take_at 0 50 (.pointer (some ⟨w2.heap.size, 0, none⟩)) rfl rfl (by kernel_rfl) (by kernel_rfl) (by kernel_rfl) (fun _ _ _ h => h) (Or.inl ⟨by rfl, by intro W hW; clear hW; go_simp; try (intro h; omega)⟩) hHeld ?_
        simp only [put_laws]
        refine take_at 1 51 (.int .i64 (z : Nat)) rfl rfl (by kernel_rfl) (by kernel_rfl) (by kernel_rfl) (fun _ _ _ h => h) (Or.inl ⟨by rfl, by intro W hW; have hc := hW.po.size_; rw [hz] at hc; clear hW; go_simp⟩) hHeld ?_
        simp only [put_laws]
        refine take_at 2 52 (.int .u64 ((2 ^ z : Nat) : Int)) rfl rfl (by kernel_rfl) (by kernel_rfl) (by kernel_rfl) (fun _ _ _ h => h) (Or.inl ⟨by rfl, by intro W hW; have hx := HSh.out; clear hW; go_simp⟩) hHeld ?_
        simp only [put_laws]
        refine take_at 3 53 (.int .u64 ((2 ^ z - 1 : Nat) : Int)) rfl rfl (by kernel_rfl) (by kernel_rfl) (by kernel_rfl) (fun _ _ _ h => h) (Or.inl ⟨by rfl, by intro W hW; have hx := HSb.out; clear hW; go_simp⟩) hHeld ?_
        simp only [put_laws]
        refine take_at 4 54 (.pointer (some ⟨w2.heap.size, 65, none⟩)) rfl rfl (by kernel_rfl) (by kernel_rfl) (by kernel_rfl) (fun _ _ _ h => h) (Or.inl ⟨by rfl, by intro W hW; clear hW; go_simp; try (intro h; omega)⟩) hHeld ?_
        simp only [put_laws]
        refine take_at 5 55 (.int .u64 (P.live : Nat)) rfl rfl (by kernel_rfl) (by kernel_rfl) (by kernel_rfl) (fun _ _ _ h => h) (Or.inl ⟨by rfl, by intro W hW; have hc := hW.po.live_; clear hW; go_simp⟩) hHeld ?_
        simp only [put_laws]
        refine take_at 6 56 (.pointer (some ⟨w2.heap.size, 66, none⟩)) rfl rfl (by kernel_rfl) (by kernel_rfl) (by kernel_rfl) (fun _ _ _ h => h) (Or.inl ⟨by rfl, by intro W hW; clear hW; go_simp; try (intro h; omega)⟩) hHeld ?_
        simp only [put_laws]
        refine take_at 7 57 (.int .u64 (P.done : Nat)) rfl rfl (by kernel_rfl) (by kernel_rfl) (by kernel_rfl) (fun _ _ _ h => h) (Or.inl ⟨by rfl, by intro W hW; have hc := hW.po.done_; clear hW; go_simp⟩) hHeld ?_
        simp only [put_laws]
        refine take_at 8 58 (.int .u64 ((P.live ||| P.done : Nat) : Int)) rfl rfl (by kernel_rfl) (by kernel_rfl) (by kernel_rfl) (fun _ _ _ h => h) (Or.inl ⟨by rfl, by intro W hW; have hx := HOr.out; clear hW; go_simp⟩) hHeld ?_
        simp only [put_laws]
        refine take_at 9 59 (.int .u64 (((2 ^ z - 1) &&& (18446744073709551615 - (P.live ||| P.done)) : Nat) : Int)) rfl rfl (by kernel_rfl) (by kernel_rfl) (by kernel_rfl) (fun _ _ _ h => h) (Or.inl ⟨by rfl, by intro W hW; have hx := HAn.out; clear hW; go_simp⟩) hHeld ?_
        simp only [put_laws]
        refine wpAnyH_ready (rs := [10]) (by kernel_rfl) (by simp) ?_
        refine AllReadyH.cons rfl (fun K hK => ?_) AllReadyH.nil
        go_simp
        refine (first_val _ s2 _ (and_right_lt _ _) HF.out.1 (tab_keep HT.out hHeld.bel) HF.out.2).mono ?_
        rintro e w' ⟨rfl, rfl⟩
        try go_simp
        refine hK.out _ _ hHeld (fun hHeld => ?_)
        clear hK K
        refine take_at 11 13 (.int .i64 (s2 : Nat)) rfl rfl (by kernel_rfl) (by kernel_rfl) (by kernel_rfl) (fun _ _ _ h => h) (Or.inl ⟨by rfl, by intro W hW; clear hW; go_simp⟩) hHeld ?_
        simp only [put_laws]
        refine wpAnyH_done (by kernel_rfl) ?_ _
        refine NoPanic.normal ?_
        have HRe := Lib.hid hHeld
        have r2 := hHeld.pq.count_
        have r3 := hHeld.pq.id_ s2 hs32
        have r4 := hHeld.pq.live_
        rw [hcn] at r2
        rw [HId.out] at r3
        clear q1 q2 q3 q4 HR hHeld
        go_wp2_with fail
        refine (has_nat_val Q.live s2 true _ HQ64.out (by omega) HLv.out).mono ?_
        rintro e w' ⟨rfl, rfl⟩
        go_wp2_with (first
          | (refine load_pool rfl 31 (.tmp 10) rfl w5.heap.size Q 31 rfl _ HRe.out.pq Tryd.underlying31 rfl pool_info ?_)
          | (refine wpList_setP rfl 31 (.tmp 5) (.tmp 80) rfl rfl w2.heap.size _ Q rfl rfl HRe.out.po pool_info ?_; intro w7 n7 b7 _; have H7 := Lib.hid (show RunSt (1 + (r : Nat)) l w2.heap.size (k + 1) w w7 from ⟨by rw [HQQ.out]; exact n7, HG.out, b7 _ _ HRe.out.bel HG.out⟩); clear n7 b7))
        exact ⟨⟨k + 1, by omega, by go_num, by rw [HQQ.out, hcn], H7.out⟩, by simp [intOf]; omega⟩
    · obtain rfl : k = N := by omega
      have q := HS.out.po.count_
      go_wp2
      go_ret
      exact ⟨rfl, HS.out.bel⟩
end Go.Proofs.YtakoceablbgchaaDoor
