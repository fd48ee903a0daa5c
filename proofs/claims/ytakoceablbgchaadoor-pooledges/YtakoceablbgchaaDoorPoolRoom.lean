/-
  The walk of PoolRoom.
-/
import Derived.Test.YtakoceablbgchaaDoorJDoes
namespace Go.Proofs.YtakoceablbgchaaDoor
open Go.RowKit
attribute [local go_sem ↓] Go.wp_at_zero Go.wp_at_succ
/-- the pool, and what is left of it. -/
structure RoSt (P Q : Pl) (g h : Nat) (w W : World) : Prop where
  po : PoolAt W g P 31
  pq : PoolAt W h Q 31
  ge : w.heap.size ≤ g
  gh : g < h
  bel : Below w.heap.size w W
theorem RoSt.below {P Q : Pl} {g h : Nat} {w W W' : World} (s : RoSt P Q g h w W) (hb : Below W.heap.size W W') : RoSt P Q g h w W' := ⟨s.po.below hb, s.pq.below hb, s.ge, s.gh, s.bel.trans (hb.mono s.bel.size)⟩
structure RoRow (P Q : Pl) (g h : Nat) (w : World) (base : Nat) (v : Value) (L : List Nat) (W : World) : Prop where
  st : RoSt P Q g h w W
  row : Own W base v L
  lt : h < base
theorem RoRow.below {P Q : Pl} {g h : Nat} {w W W' : World} {base : Nat} {v : Value} {L : List Nat} (s : RoRow P Q g h w base v L W) (hb : Below W.heap.size W W') : RoRow P Q g h w base v L W' := ⟨s.st.below hb, s.row.below hb (Nat.le_refl _), s.lt⟩
def RoRel (P Q : Pl) (g h : Nat) (w : World) (base : Nat) (v : Value) (L : List Nat) (i : Value) (wr : World) : Prop := ∃ k : Nat, k ≤ L.length ∧ i = .int .i64 k ∧ RoRow P Q g h w base v L wr
def RoEnd (P Q : Pl) (g h : Nat) (w : World) (base : Nat) (v : Value) (L : List Nat) (i : Value) (wr : World) : Prop := ∃ k : Nat, k ≤ L.length ∧ i = .int .i64 k ∧ RoRow P (Po.endTo Q (L.take k)) g h w base v L wr
theorem andNot_lt {x y : Nat} (hx : x < 18446744073709551616) : x &&& (18446744073709551615 - y) < 18446744073709551616 := Nat.lt_of_le_of_lt Nat.and_le_left hx
theorem Own.setP {W W' : World} {g base : Nat} {v : Value} {L : List Nat} (h : Own W base v L) (hg : g < base) (hk : ∀ k, k ≠ g → W'.heap[k]? = W.heap[k]?) : Own W' base v L := by
  refine ⟨h.1, ?_⟩
  rcases h.2 with hn | ⟨g', cap, cur, hv, hbase, hg', rest⟩
  · exact .inl hn
  · exact .inr ⟨g', cap, cur, hv, hbase, (hk g' (by omega)).trans hg', rest⟩
theorem back_val (m : Mm.Gr) (a R : Nat) (w : World) (hm : Mm.Ok m) (ha : a < 32) (hT : TabAt w) (h : Mm.ways (fun i j => Mm.E m j i) a = R) :
    Calls Tryd.prog 18 #[.agg (matA m), .int .i64 (a : Nat)] w fun e w' => e = .returned (.int .u64 (R : Nat)) ∧ Below w.heap.size w w' := by
  have := back_in m a w hm ha hT
  rw [h] at this; exact this
theorem left_item {P : Pl} (hs : Po.Sound P) {i : Nat} (hi : i ∈ Sm.items (P.done &&& (18446744073709551615 - (Po.collect P).1.done))) : P.done.testBit i = true ∧ (Po.collect P).1.done.testBit i = false := by
  have h := (Sm.items_mem.1 hi).2
  have hq := (Po.collect_sound hs).done64
  rw [Mm.less_all hq hs.done64, Bool.and_eq_true] at h
  exact ⟨h.1, by simpa using h.2⟩
theorem ins_pos {m : Mm.Gr} {i : Nat} (h : ∃ j, Mm.E m j i) : ((Mm.ins m i : Nat) == (0 : Nat)) = false := by
  obtain ⟨j, hj⟩ := h
  have := (Mm.ins_test m i j).2 hj
  cases hb : ((Mm.ins m i : Nat) == (0 : Nat))
  · rfl
  · rw [beq_iff_eq] at hb
    rw [hb] at this; simp at this
theorem endTo_ok {q : Pl} (h : Po.Sound q) (hc : q.count ≤ 9223372036854775807) (l : List Nat) : (Po.endTo q l).Ok := (Po.endTo_sound h l).ok (by rw [(Po.endTo_keeps q l).2.2.1]; exact hc)
set_option maxHeartbeats 8000000 in
set_option maxRecDepth 100000 in
theorem poolRoom_walk (s : Nat) (A : Option Addr) (N c : Nat) (l : Nat → Po.Act) (w : World) (hs : s < 256) (hl : ActsAt w A N c l) (hT : TabAt w) :
    Calls Tryd.prog 4 #[.int .u8 (s : Nat), .slice A N c] w fun e w' => e = .returned (.bool true) ∧ Below w.heap.size w w' := by
  have hz1 := (zero_of_info zero_pool_info).1
  have hz2 := (zero_of_info zero_rpool_info).1
  have hbn := rbuild_none
  have HT := Lib.hid hT
  have HL := Lib.hid hl
  have hN : (N : Int) ≤ 9223372036854775807 := by have := hl.1; have := hl.2.1; unfold maxLen at this; omega
  obtain ⟨r, hr, hr32⟩ := u8_mod s hs
  have hn : 1 ≤ (1 : Int) + (r : Nat) ∧ (1 : Int) + (r : Nat) ≤ 32 := by omega
  clear hl hT
  go_enter Tryd.func4, Tryd.ntmps4
  go_wp2_with fail
  refine (alive_any _ HT.out).mono ?_
  rintro e w1 ⟨rfl, hb1⟩
  have B1 := Lib.hid hb1
  clear hb1
  by_cases hbig : 120 < N
  · have hbig' : (120 : Int) < (N : Int) := by omega
    go_wp2
    go_ret
    exact ⟨rfl, B1.out⟩
  have hbig' : ¬ (120 : Int) < (N : Int) := by omega
  have hN120 : N ≤ 120 := by omega
  go_wp2_with fail
  refine (pnew_yes (1 + (r : Nat)) _ hn).mono ?_
  rintro e w2 ⟨rfl, hb2⟩
  have B2 := Lib.hid (B1.out.trans (hb2.mono B1.out.size))
  clear hb2
  go_wp2_with (refine wpList_letP rfl 31 (.tmp 5) (.tmp 28) rfl rfl w2 (Po.newP (1 + (r : Nat))) rfl rfl rfl pool_info ?_; intro w3 n3 hb3; have H3 := Lib.hid (show RunSt (1 + (r : Nat)) l w2.heap.size 0 w w3 from ⟨n3, B2.out.size, B2.out.trans (hb3.mono B2.out.size)⟩); clear n3 hb3)
  go_loopw [34] (ActRel (1 + (r : Nat)) l N w2.heap.size w) (fun i _ => N - (intOf i).toNat)
  case atStart => exact ⟨0, by omega, rfl, H3.out⟩
  case round =>
    obtain ⟨k, hk, rfl, hst⟩ := hrel
    have HS := Lib.hid hst
    clear hst
    by_cases hlt : k < N
    · obtain ⟨ad, rfl, hcs⟩ := HL.out.2.2 (by omega)
      obtain ⟨e0, e1, e2, k0, a0, b0⟩ := hcs k hlt
      generalize hx : l k = x at *
      have HX := Lib.hid hx
      have HA0 := Lib.hid a0
      have HB0 := Lib.hid b0
      have c0 := cell_keep e0 HS.out.bel (Nat.le_refl _)
      have c1 := act_second (cell_keep e1 HS.out.bel (Nat.le_refl _))
      have c2 := act_third (cell_keep e2 HS.out.bel (Nat.le_refl _))
      have hlt' : (k : Int) < (N : Int) := by omega
      clear hx e0 e1 e2 hcs a0 b0
      go_wp2_with (refine load_pool rfl 31 (.tmp 5) rfl w2.heap.size _ 31 rfl _ (HS.out.po.alloc _) Tryd.underlying31 rfl pool_info ?_)
      have HS4 := Lib.hid (HS.out.below (below_new wr (.cells (actA x) 43)))
      refine (does_any (Po.run (1 + (r : Nat)) l k) zeroP x _ (run_ask hn l (by omega) k0 HA0.out HB0.out (tab_keep HT.out HS4.out.bel))).mono ?_
      rintro e w5 ⟨b, rfl, _, hb5⟩
      have HS5 := Lib.hid (HS4.out.below hb5)
      clear hb5 HS HS4 c0 c1 c2
      rw [run_next HX.out]
      go_wp2_with (refine wpList_setP rfl 31 (.tmp 5) (.tmp 43) rfl rfl w2.heap.size _ (Po.run (1 + (r : Nat)) l (k + 1)) rfl rfl HS5.out.po pool_info ?_; intro w6 n6 b6 _; have HS6 := Lib.hid (show RunSt (1 + (r : Nat)) l w2.heap.size (k + 1) w w6 from ⟨n6, HS5.out.ge, b6 _ _ HS5.out.bel HS5.out.ge⟩); clear n6 b6)
      exact ⟨⟨k + 1, by omega, by go_num, HS6.out⟩, by simp [intOf]; omega⟩
    · obtain rfl : k = N := by omega
      generalize hP : Po.run (1 + (r : Nat)) l k = P at *
      have HP := Lib.hid (show Po.Sound P by rw [← hP]; exact Po.run_sound hn l k)
      have HC := Lib.hid (show P.count ≤ 120 by rw [← hP]; have := (Po.run_count hn l k).1; omega)
      have hPok : P.Ok := HP.out.ok (by have := HC.out; omega)
      have H6 := Lib.hid (show PoolAt wr w2.heap.size P 31 by rw [← hP]; exact HS.out.po)
      have HB6 := Lib.hid HS.out.bel
      have HG := Lib.hid HS.out.ge
      have HPok := Lib.hid hPok
      clear hP HS hPok
      go_wp2_with (refine load_pool rfl 31 (.tmp 5) rfl w2.heap.size P 31 rfl _ H6.out Tryd.underlying31 rfl pool_info ?_)
      refine (collect_any P _ HPok.out).mono ?_
      rintro e w7 ⟨v7, rfl, ho7, hb7⟩
      generalize hQ : (Po.collect P).1 = Q at *
      have HQ := Lib.hid hQ
      have HQS := Lib.hid (show Po.Sound Q by rw [← hQ]; exact Po.collect_sound HP.out)
      have HQC := Lib.hid (show Q.count ≤ 120 by rw [← hQ, (Po.collect_keeps P HP.out.done64).2.2]; exact HC.out)
      have HQN := Lib.hid (show Po.next Q = none by rw [← hQ]; exact Po.collect_next HP.out.done64)
      clear hQ
      have H7 := Lib.hid (H6.out.below hb7)
      have HB7 := Lib.hid (HB6.out.trans (hb7.mono HB6.out.size))
      clear ho7 hb7 H6 HB6
      go_wp2_with (refine wpList_letP rfl 31 (.tmp 9) (.tmp 50) rfl rfl w7 Q rfl rfl rfl pool_info ?_; intro w8 n8 hb8; have H8 := Lib.hid (show RoSt P Q w2.heap.size w7.heap.size w w8 from ⟨H7.out.below hb8, n8, HG.out, H7.out.lt, HB7.out.trans (hb8.mono HB7.out.size)⟩); have d8 := n8.done_; clear n8 hb8)
      refine (items_any Q.done _ HQS.out.done64 (tab_keep HT.out H8.out.bel)).mono ?_
      rintro e w9 ⟨v9, rfl, ho9, hb9⟩
      have H9 := Lib.hid (show RoRow P Q w2.heap.size w7.heap.size w w8.heap.size v9 (Sm.items Q.done) w9 from ⟨H8.out.below hb9, ho9, H8.out.pq.lt⟩)
      have hlen9 := Sm.items_len Q.done
      obtain ⟨A2, d2, rfl, hc1, hc2⟩ := Own.shape H9.out.row
      clear ho9 hb9 d8
      go_wp2
      go_loopw [56] (RoRel P Q w2.heap.size w7.heap.size w w8.heap.size (.slice A2 (Sm.items Q.done).length d2) (Sm.items Q.done)) (fun i _ => 64 - (intOf i).toNat)
      case atStart => exact ⟨0, by omega, rfl, H9.out⟩
      case round =>
        obtain ⟨t, ht, rfl, hst⟩ := hrel
        have HR := Lib.hid hst
        by_cases htl : t < (Sm.items Q.done).length
        · obtain ⟨ga, rfl, hc⟩ := hst.row.at_ htl
          have hmem := Sm.items_mem.1 (List.getElem_mem htl)
          generalize (Sm.items Q.done)[t] = i at *
          have hi32 := HQS.out.tk32 (.inr hmem.2)
          have HI := Lib.hid (ins_pos (Po.next_none HQN.out hi32 hmem.2))
          have hne : (((Mm.ins Q.m i : Nat) : Int) == 0) = false := by
            have := HI.out
            rw [beq_eq_false_iff_ne] at this ⊢
            omega
          clear hst hmem
          go_wp2_with (refine load_m rfl 27 (.tmp 60) rfl w7.heap.size Q 31 rfl _ HR.out.st.pq Tryd.underlying27 rfl mat_info ?_)
          refine (ins_val Q.m i _ _ HQS.out.mok hi32 rfl).mono ?_
          rintro e w10 ⟨rfl, hb10⟩
          have HR2 := Lib.hid (HR.out.below hb10)
          clear hb10 HR hc
          go_wp2
          exact ⟨⟨t + 1, by omega, by go_num, HR2.out⟩, by simp [intOf]; omega⟩
        · obtain rfl : t = (Sm.items Q.done).length := by omega
          have HR1 := Lib.hid hst.st
          have p1 := hst.st.po.done_
          have p2 := hst.st.pq.done_
          have hand := u64_andNot_nat P.done Q.done HP.out.done64 HQS.out.done64
          clear hst HR H8 H9
          go_wp2_with fail
          refine (items_any _ _ (andNot_lt HP.out.done64) (tab_keep HT.out HR1.out.bel)).mono ?_
          rintro e w10 ⟨v10, rfl, ho10, hb10⟩
          obtain ⟨L3, hL3⟩ : ∃ L, Sm.items (P.done &&& (18446744073709551615 - Q.done)) = L := ⟨_, rfl⟩
          have HL3 := Lib.hid hL3
          have hl3 : L3.length ≤ 64 := by rw [← hL3]; exact Sm.items_len _
          obtain ⟨wq, hwq⟩ : ∃ n, wr.heap.size = n := ⟨_, rfl⟩
          have H10 := Lib.hid (show RoRow P Q w2.heap.size w7.heap.size w wq v10 L3 w10 from ⟨HR1.out.below hb10, by rw [← hL3, ← hwq]; exact ho10, by rw [← hwq]; exact HR1.out.pq.lt⟩)
          obtain ⟨A3, d3, rfl, hc1, hc2⟩ := Own.shape H10.out.row
          clear ho10 hb10 p1 p2 hand hL3 HR1 hwq
          go_wp2
          go_loopw [73] (RoRel P Q w2.heap.size w7.heap.size w wq (.slice A3 L3.length d3) L3) (fun i _ => 64 - (intOf i).toNat)
          case atStart => exact ⟨0, by omega, rfl, H10.out⟩
          case round =>
            obtain ⟨t, ht, rfl, hst⟩ := hrel
            have HR := Lib.hid hst
            by_cases htl : t < L3.length
            · obtain ⟨ga, rfl, hc⟩ := hst.row.at_ htl
              have hmem := List.getElem_mem htl
              generalize L3[t] = i at *
              have hit := left_item HP.out (by rw [HQ.out, HL3.out]; exact hmem)
              have hi32 := HP.out.tk32 (.inr hit.1)
              have HAnd := Lib.hid (show bits .and .u64 ((Mm.ways (fun a b => Mm.E P.m b a) i : Nat) : Int) ((P.live : Nat) : Int) = 0 by rw [bits_and_u64_nat _ _ (Mm.ways_lt _ _) HP.out.live64, Po.back_live HP.out hit.1 hit.2]; rfl)
              clear hst hmem hit
              go_wp2
              refine wp_region_noPanic ?_
              refine region_start (S := RoRow P Q w2.heap.size w7.heap.size w wq (.slice (some ⟨ga, 0, none⟩) L3.length d3) L3) 8 rfl (by kernel_rfl) (HR.out.below (below_drew _)) (fun hHeld => ?_)
              refine take_at 0 77 (.pointer (some ⟨w2.heap.size, 1, none⟩)) rfl rfl (by kernel_rfl) (by kernel_rfl) (by kernel_rfl) (fun _ _ _ h => h) (Or.inl ⟨by rfl, by intro W hW; clear hW; go_simp; try (intro h; omega)⟩) hHeld ?_
              simp only [put_laws]
              refine take_at 1 78 (.agg (matA P.m)) rfl rfl (by kernel_rfl) (by kernel_rfl) (by kernel_rfl) (fun _ _ _ h => h) (yields_mid (by rfl) 27 (.tmp 77) rfl (w2.heap.size) 1 rfl (matA P.m) _ (fun W h => h.st.po.range_m) Tryd.underlying27 rfl (matInfo _)) hHeld ?_
              simp only [put_laws]
              refine take_at 2 79 (.int .i64 (i : Nat)) rfl rfl (by kernel_rfl) (by kernel_rfl) (by kernel_rfl) (fun _ _ _ h => h) (Or.inl ⟨by rfl, by intro W hW; clear hW; go_simp⟩) hHeld ?_
              simp only [put_laws]
              refine take_at 4 81 (.pointer (some ⟨w2.heap.size, 65, none⟩)) rfl rfl (by kernel_rfl) (by kernel_rfl) (by kernel_rfl) (fun _ _ _ h => h) (Or.inl ⟨by rfl, by intro W hW; clear hW; go_simp; try (intro h; omega)⟩) hHeld ?_
              simp only [put_laws]
              refine take_at 5 82 (.int .u64 (P.live : Nat)) rfl rfl (by kernel_rfl) (by kernel_rfl) (by kernel_rfl) (fun _ _ _ h => h) (Or.inl ⟨by rfl, by intro W hW; have hc := hW.st.po.live_; clear hW; go_simp⟩) hHeld ?_
              simp only [put_laws]
              refine wpAnyH_ready (rs := [3]) (by kernel_rfl) (by simp) ?_
              refine AllReadyH.cons rfl (fun K hK => ?_) AllReadyH.nil
              go_simp
              refine (back_val P.m i _ _ HP.out.mok hi32 (tab_keep HT.out hHeld.st.bel) rfl).mono ?_
              rintro e w10 ⟨rfl, hb10⟩
              try go_simp
              have hHeld := hHeld.below hb10
              refine hK.out _ _ hHeld (fun hHeld => ?_)
              clear hK K
              refine take_at 6 83 (.int .u64 0) rfl rfl (by kernel_rfl) (by kernel_rfl) (by kernel_rfl) (fun _ _ _ h => h) (Or.inl ⟨by rfl, by intro W hW; have hx := HAnd.out; clear hW; go_simp⟩) hHeld ?_
              simp only [put_laws]
              refine take_at 7 84 (.bool false) rfl rfl (by kernel_rfl) (by kernel_rfl) (by kernel_rfl) (fun _ _ _ h => h) (Or.inl ⟨by rfl, by intro W hW; clear hW; go_simp⟩) hHeld ?_
              simp only [put_laws]
              refine wpAnyH_done (by kernel_rfl) ?_ _
              refine NoPanic.normal ?_
              clear hc
              go_wp2
              exact ⟨⟨t + 1, by omega, by go_num, hHeld⟩, by simp [intOf]; omega⟩
            · obtain rfl : t = L3.length := by omega
              have HR1 := Lib.hid hst.st
              have p1 := hst.st.pq.live_
              clear hst HR H10
              go_wp2_with fail
              refine (items_any Q.live _ HQS.out.live64 (tab_keep HT.out HR1.out.bel)).mono ?_
              rintro e w11 ⟨v11, rfl, ho11, hb11⟩
              obtain ⟨L4, hL4⟩ : ∃ L, Sm.items Q.live = L := ⟨_, rfl⟩
              have HL4 := Lib.hid hL4
              have hl4 : L4.length ≤ 64 := by rw [← hL4]; exact Sm.items_len _
              have h4i : ∀ i, i ∈ L4 → i < 64 := fun i hi => by rw [← hL4] at hi; exact Sm.items_lt hi
              have HI4 := Lib.hid h4i
              obtain ⟨wz, hwz⟩ : ∃ n, wr.heap.size = n := ⟨_, rfl⟩
              have H11 := Lib.hid (show RoRow P (Po.endTo Q (L4.take 0)) w2.heap.size w7.heap.size w wz v11 L4 w11 from ⟨HR1.out.below hb11, by rw [← hL4, ← hwz]; exact ho11, by rw [← hwz]; exact HR1.out.pq.lt⟩)
              obtain ⟨A4, d4, rfl, hc1, hc2⟩ := Own.shape H11.out.row
              clear ho11 hb11 p1 hL4 HR1 hwz h4i
              go_wp2
              go_loopw [90] (RoEnd P Q w2.heap.size w7.heap.size w wz (.slice A4 L4.length d4) L4) (fun i _ => 64 - (intOf i).toNat)
              case atStart => exact ⟨0, by omega, rfl, H11.out⟩
              case round =>
                obtain ⟨t, ht, rfl, hst⟩ := hrel
                have HR := Lib.hid hst
                by_cases htl : t < L4.length
                · obtain ⟨ga, rfl, hc⟩ := hst.row.at_ htl
                  have hi64 := HI4.out _ (List.getElem_mem htl)
                  have HSt := Lib.hid (show Po.endTo Q (L4.take (t + 1)) = (Po.endP (Po.endTo Q (L4.take t)) ((L4[t] : Nat) : Int)).1 by rw [List.take_succ_eq_append_getElem htl, Po.endTo_snoc])
                  generalize L4[t] = i at *
                  clear hst
                  go_wp2_with (refine load_pool rfl 31 (.tmp 9) rfl w7.heap.size _ 31 rfl _ HR.out.st.pq Tryd.underlying31 rfl pool_info ?_)
                  refine (end_any _ (i : Nat) _ (endTo_ok HQS.out (by have := HQC.out; omega) _) (by omega) (by omega)).mono ?_
                  rintro e w12 ⟨rfl, hb12⟩
                  have HR2 := Lib.hid (HR.out.below hb12)
                  clear hb12 HR hc
                  rw [← HSt.out]
                  generalize (Po.endP (Po.endTo Q (L4.take t)) ((i : Nat) : Int)).2 = ee
                  go_wp2_with (refine wpList_setP rfl 31 (.tmp 9) (.tmp 98) rfl rfl w7.heap.size _ _ rfl rfl HR2.out.st.pq pool_info ?_; intro w13 n13 b13 k13; have HR3 := Lib.hid (show RoRow P (Po.endTo Q (L4.take (t + 1))) w2.heap.size w7.heap.size w wz (.slice (some ⟨ga, 0, none⟩) L4.length d4) L4 w13 from ⟨⟨(k13 _ (by have := HR2.out.st.gh; omega)).trans HR2.out.st.po, n13, HR2.out.st.ge, HR2.out.st.gh, b13 _ _ HR2.out.st.bel (by have := HR2.out.st.gh; have := HR2.out.st.ge; omega)⟩, HR2.out.row.setP HR2.out.lt k13, HR2.out.lt⟩); clear n13 b13 k13)
                  exact ⟨⟨t + 1, by omega, by go_num, HR3.out⟩, by simp [intOf]; omega⟩
                · obtain rfl : t = L4.length := by omega
                  have hE : L4.take L4.length = Sm.items Q.live := by rw [List.take_length, HL4.out]
                  rw [hE] at hst
                  generalize hZ : Po.endTo Q (Sm.items Q.live) = Z at *
                  have HZS := Lib.hid (show Po.Sound Z by rw [← hZ]; exact Po.endTo_sound HQS.out _)
                  have HZL := Lib.hid (show Z.live = 0 by rw [← hZ]; exact Po.endAll_live HQS.out)
                  have HZC := Lib.hid (show Z.count ≤ 120 by rw [← hZ, (Po.endTo_keeps Q _).2.2.1]; exact HQC.out)
                  have HR1 := Lib.hid hst.st
                  clear hst HR H11 hE hZ
                  go_wp2_with (refine load_pool rfl 31 (.tmp 9) rfl w7.heap.size Z 31 rfl _ HR1.out.pq Tryd.underlying31 rfl pool_info ?_)
                  refine (collect_any Z _ (HZS.out.ok (by have := HZC.out; omega))).mono ?_
                  rintro e w14 ⟨v14, rfl, ho14, hb14⟩
                  have HRm := Lib.hid (Po.room HZS.out HZL.out)
                  have HR2 := Lib.hid (HR1.out.below hb14)
                  clear ho14 hb14 HR1
                  generalize (Po.collect Z).1 = Y at *
                  have hbz := build_zeroM
                  go_wp2_with (first
                    | (refine wpList_setP rfl 31 (.tmp 9) (.tmp 104) rfl rfl w7.heap.size _ Y rfl rfl HR2.out.pq pool_info ?_; intro w15 n15 b15 k15; have N15 := Lib.hid (show PoolAt w15 w7.heap.size { Y with m := zeroM } 31 from n15.ext ⟨rfl, fun i hi => HRm.out.2.2 i hi, fun _ _ => rfl, rfl, rfl, fun _ _ => rfl, rfl⟩); have BL := Lib.hid (b15 _ _ HR2.out.bel (by have := HR2.out.gh; have := HR2.out.ge; omega)); have y1 := n15.done_; have y2 := n15.live_; rw [HRm.out.1] at y1; rw [HRm.out.2.1] at y2; clear n15 b15 k15)
                    | (refine load_m rfl 27 (.tmp 115) rfl w7.heap.size { Y with m := zeroM } 31 rfl _ N15.out Tryd.underlying27 rfl mat_info ?_)
                    | (refine wpList_eq rfl 27 27 (.tmp 116) (.tmp 117) rfl (matA zeroM) rfl rfl guard_mat (eq_mat zeroM zeroM true (sameM_self _) _) ?_))
                  go_ret
                  exact ⟨rfl, BL.out⟩
end Go.Proofs.YtakoceablbgchaaDoor
