/-
  The walk of PoolEdges.
-/
import Derived.Test.YtakoceablbgchaaDoorPoolTwo
namespace Go.Proofs.YtakoceablbgchaaDoor
open Go.RowKit
attribute [local go_sem ↓] Go.wp_at_zero Go.wp_at_succ
structure EBox (s : Nat) (A : Option Addr) (N c : Nat) (a b : Int) (w W : World) : Prop where
  c0 : W.cell? ⟨w.heap.size, 0, none⟩ = some (.int .u8 (s : Nat))
  c1 : W.cell? ⟨w.heap.size, 1, none⟩ = some (.slice A N c)
  c2 : W.cell? ⟨w.heap.size, 2, none⟩ = some (.int .i64 a)
  c3 : W.cell? ⟨w.heap.size, 3, none⟩ = some (.int .i64 b)
  bel : Below w.heap.size w W
theorem EBox.below {s : Nat} {A : Option Addr} {N c : Nat} {a b : Int} {w W W' : World} (h : EBox s A N c a b w W) (hb : Below W.heap.size W W') : EBox s A N c a b w W' :=
  ⟨cell_keep h.c0 hb (Nat.le_refl _), cell_keep h.c1 hb (Nat.le_refl _), cell_keep h.c2 hb (Nat.le_refl _), cell_keep h.c3 hb (Nat.le_refl _), h.bel.trans (hb.mono h.bel.size)⟩
theorem ebox_first (s : Nat) (A : Option Addr) (N c : Nat) (a b : Int) (w : World) : EBox s A N c a b w (w.alloc (.cells #[.int .u8 (s : Nat), .slice A N c, .int .i64 a, .int .i64 b] 64)) := by
  have h := heap_alloc_new w (.cells #[.int .u8 (s : Nat), .slice A N c, .int .i64 a, .int .i64 b] 64)
  exact ⟨by rw [cell_of_row _ _ _ _ _ _ h]; rfl, by rw [cell_of_row _ _ _ _ _ _ h]; rfl, by rw [cell_of_row _ _ _ _ _ _ h]; rfl, by rw [cell_of_row _ _ _ _ _ _ h]; rfl, (Below.refl _ _).alloc (Nat.le_refl _) _⟩
theorem free_val (m : Mm.Gr) (b : Bool) (w : World) (hm : Mm.Ok m) (hT : TabAt w) (h : Mm.free m = b) :
    Calls Tryd.prog 28 #[.agg (matA m)] w fun e w' => e = .returned (.bool b) ∧ Below w.heap.size w w' := by
  have := free_any m w hm hT
  rw [h] at this; exact this
/-- the pool, the other one, and a graph. -/
structure EdSt (P Q : Pl) (M : Mm.Gr) (g h gm : Nat) (w W : World) : Prop where
  st : RoSt P Q g h w W
  gr : MatAt W gm M 27
theorem EdSt.below {P Q : Pl} {M : Mm.Gr} {g h gm : Nat} {w W W' : World} (s : EdSt P Q M g h gm w W) (hb : Below W.heap.size W W') : EdSt P Q M g h gm w W' := ⟨s.st.below hb, s.gr.below hb⟩
namespace Po
theorem taken_nat {p : Pl} (h : Sound p) {a : Int} (ha : taken p a = true) : ∃ x : Nat, a = (x : Int) ∧ x < 32 := by
  unfold taken at ha
  have hlt : p.live ||| p.done < 18446744073709551616 := or64 h.live64 h.done64
  have h0 : 0 ≤ a := by
    rcases Int.lt_or_le a 0 with h | h
    · rw [Sm.has_neg h] at ha; cases ha
    · exact h
  obtain ⟨x, rfl⟩ := Int.eq_ofNat_of_zero_le h0
  rw [Sm.has_nat _ hlt] at ha
  exact ⟨x, rfl, h.tk32 (tk_or.2 ha)⟩
theorem edge_eq (p : Pl) (a : Int) : edge p a a = (p, 2) := by unfold edge; rw [if_pos rfl]
theorem edge_none {p : Pl} {a b : Int} (hab : a ≠ b) (h : taken p a = false ∨ taken p b = false) : edge p a b = (p, 3) := by unfold edge; rw [if_neg hab, if_pos h]
theorem edge_yes {p : Pl} {x y : Nat} {q : Od.O} (hab : ((x : Nat) : Int) ≠ ((y : Nat) : Int)) (h1 : taken p (x : Nat) = true) (h2 : taken p (y : Nat) = true) (h : Od.insert p.m p.o (x : Nat) (y : Nat) = (Mm.put p.m x y, q, true)) : edge p (x : Nat) (y : Nat) = (over p (Mm.put p.m x y, q), 0) := by
  unfold edge; rw [if_neg hab, if_neg (by rw [h1, h2]; simp), h]; simp
theorem edge_no {p : Pl} {x y : Nat} (hab : ((x : Nat) : Int) ≠ ((y : Nat) : Int)) (h1 : taken p (x : Nat) = true) (h2 : taken p (y : Nat) = true) (h : Od.insert p.m p.o (x : Nat) (y : Nat) = (p.m, p.o, false)) : edge p (x : Nat) (y : Nat) = (p, 5) := by
  unfold edge; rw [if_neg hab, if_neg (by rw [h1, h2]; simp), h]; simp
end Po
theorem put_ever (m : Mm.Gr) (a b : Int) (hm : Mm.Ok m) (ha : -9223372036854775808 ≤ a ∧ a ≤ 9223372036854775807) (hb : -9223372036854775808 ≤ b ∧ b ≤ 9223372036854775807) :
    ∃ M : Mm.Gr × Bool, ∀ w, Calls Tryd.prog 27 #[.agg (matA m), .int .i64 a, .int .i64 b] w fun e w' => e = .returned (.tuple #[.agg (matA M.1), .bool M.2]) ∧ Below w.heap.size w w' := by
  by_cases h : Od.May a b
  · obtain ⟨⟨a0, a1⟩, ⟨b0, b1⟩, hne⟩ := h
    obtain ⟨x, rfl⟩ := Int.eq_ofNat_of_zero_le a0
    obtain ⟨y, rfl⟩ := Int.eq_ofNat_of_zero_le b0
    exact ⟨(Mm.put m x y, true), fun w => put_yes m x y w hm (by omega) (by omega) (by omega)⟩
  · exact ⟨(m, false), fun w => put_not m a b w ha hb h⟩
set_option maxHeartbeats 8000000 in
set_option maxRecDepth 100000 in
theorem poolEdges_walk (s : Nat) (A : Option Addr) (N c : Nat) (l : Nat → Po.Act) (a b : Int) (w : World) (hs : s < 256) (hl : ActsAt w A N c l) (hT : TabAt w) (ha : i64p a) (hb : i64p b) :
    Calls Tryd.prog 8 #[.agg #[.int .u8 (s : Nat), .slice A N c, .int .i64 a, .int .i64 b]] w fun e w' => e = .returned (.bool true) ∧ Below w.heap.size w w' := by
  have hz1 := (zero_of_info zero_pool_info).1
  have hz2 := (zero_of_info zero_rpool_info).1
  have hbn := rbuild_none
  have HT := Lib.hid hT
  have HL := Lib.hid hl
  have hN : (N : Int) ≤ 9223372036854775807 := by have := hl.1; have := hl.2.1; unfold maxLen at this; omega
  obtain ⟨r, hr, hr32⟩ := u8_mod s hs
  have hn : 1 ≤ (1 : Int) + (r : Nat) ∧ (1 : Int) + (r : Nat) ≤ 32 := by omega
  clear hl hT
  go_enter Tryd.func8, Tryd.ntmps8
  go_wp2_with fail
  refine (alive_any _ (tabAt_new HT.out _)).mono ?_
  rintro e w1 ⟨rfl, hb1⟩
  have HBx := Lib.hid ((ebox_first s A N c a b w).below hb1)
  clear hb1
  go_wp2
  refine wp_region_noPanic ?_
  refine region_start (S := EBox s A N c a b w) 12 rfl (by kernel_rfl) (HBx.out.below (below_drew _)) (fun hHeld => ?_)
  refine take_at 0 18 (.pointer (some ⟨w.heap.size, 0, none⟩)) rfl rfl (by kernel_rfl) (by kernel_rfl) (by kernel_rfl) (fun _ _ _ h => h) (Or.inl ⟨by rfl, by intro W hW; clear hW; go_simp; try (intro h; omega)⟩) hHeld ?_
  simp only [put_laws]
  refine take_at 1 19 (.int .u8 (s : Nat)) rfl rfl (by kernel_rfl) (by kernel_rfl) (by kernel_rfl) (fun _ _ _ h => h) (Or.inl ⟨by rfl, by intro W hW; have hc := hW.c0; clear hW; go_simp⟩) hHeld ?_
  simp only [put_laws]
  refine take_at 2 20 (.pointer (some ⟨w.heap.size, 1, none⟩)) rfl rfl (by kernel_rfl) (by kernel_rfl) (by kernel_rfl) (fun _ _ _ h => h) (Or.inl ⟨by rfl, by intro W hW; clear hW; go_simp; try (intro h; omega)⟩) hHeld ?_
  simp only [put_laws]
  refine take_at 3 21 (.slice A N c) rfl rfl (by kernel_rfl) (by kernel_rfl) (by kernel_rfl) (fun _ _ _ h => h) (Or.inl ⟨by rfl, by intro W hW; have hc := hW.c1; clear hW; go_simp⟩) hHeld ?_
  simp only [put_laws]
  refine take_at 4 22 (.pointer (some ⟨w.heap.size, 2, none⟩)) rfl rfl (by kernel_rfl) (by kernel_rfl) (by kernel_rfl) (fun _ _ _ h => h) (Or.inl ⟨by rfl, by intro W hW; clear hW; go_simp; try (intro h; omega)⟩) hHeld ?_
  simp only [put_laws]
  refine take_at 5 23 (.int .i64 a) rfl rfl (by kernel_rfl) (by kernel_rfl) (by kernel_rfl) (fun _ _ _ h => h) (Or.inl ⟨by rfl, by intro W hW; have hc := hW.c2; clear hW; go_simp⟩) hHeld ?_
  simp only [put_laws]
  refine take_at 6 24 (.pointer (some ⟨w.heap.size, 3, none⟩)) rfl rfl (by kernel_rfl) (by kernel_rfl) (by kernel_rfl) (fun _ _ _ h => h) (Or.inl ⟨by rfl, by intro W hW; clear hW; go_simp; try (intro h; omega)⟩) hHeld ?_
  simp only [put_laws]
  refine take_at 7 25 (.int .i64 b) rfl rfl (by kernel_rfl) (by kernel_rfl) (by kernel_rfl) (fun _ _ _ h => h) (Or.inl ⟨by rfl, by intro W hW; have hc := hW.c3; clear hW; go_simp⟩) hHeld ?_
  simp only [put_laws]
  refine take_at 8 3 (.int .u8 (s : Nat)) rfl rfl (by kernel_rfl) (by kernel_rfl) (by kernel_rfl) (fun _ _ _ h => h) (Or.inl ⟨by rfl, by intro W hW; clear hW; go_simp⟩) hHeld ?_
  simp only [put_laws]
  refine take_at 9 4 (.slice A N c) rfl rfl (by kernel_rfl) (by kernel_rfl) (by kernel_rfl) (fun _ _ _ h => h) (Or.inl ⟨by rfl, by intro W hW; clear hW; go_simp⟩) hHeld ?_
  simp only [put_laws]
  refine take_at 10 5 (.int .i64 a) rfl rfl (by kernel_rfl) (by kernel_rfl) (by kernel_rfl) (fun _ _ _ h => h) (Or.inl ⟨by rfl, by intro W hW; clear hW; go_simp⟩) hHeld ?_
  simp only [put_laws]
  refine take_at 11 6 (.int .i64 b) rfl rfl (by kernel_rfl) (by kernel_rfl) (by kernel_rfl) (fun _ _ _ h => h) (Or.inl ⟨by rfl, by intro W hW; clear hW; go_simp⟩) hHeld ?_
  simp only [put_laws]
  refine wpAnyH_done (by kernel_rfl) ?_ _
  refine NoPanic.normal ?_
  have B1 := Lib.hid hHeld.bel
  clear HBx hHeld
  by_cases hbig : 120 < N
  · have hbig' : (120 : Int) < (N : Int) := by omega
    go_wp2
    go_ret
    exact ⟨rfl, B1.out⟩
  have hbig' : ¬ (120 : Int) < (N : Int) := by omega
  have hN120 : N ≤ 120 := by omega
  go_wp2_with fail
  refine (pnew_yes (1 + (r : Nat)) _ hn).mono ?_
  rintro e w2 ⟨rfl, hb2⟩
  have B2 := Lib.hid (B1.out.trans (hb2.mono B1.out.size))
  clear hb2
  go_wp2_with (refine wpList_letP rfl 31 (.tmp 7) (.tmp 35) rfl rfl w2 (Po.newP (1 + (r : Nat))) rfl rfl rfl pool_info ?_; intro w3 n3 hb3; have H3 := Lib.hid (show RunSt (1 + (r : Nat)) l w2.heap.size 0 w w3 from ⟨n3, B2.out.size, B2.out.trans (hb3.mono B2.out.size)⟩); clear n3 hb3)
  go_loopw [41] (ActRel (1 + (r : Nat)) l N w2.heap.size w) (fun i _ => N - (intOf i).toNat)
  case atStart => exact ⟨0, by omega, rfl, H3.out⟩
  case round =>
    obtain ⟨k, hk, rfl, hst⟩ := hrel
    have HS := Lib.hid hst
    clear hst
    by_cases hlt : k < N
    · obtain ⟨ad, rfl, hcs⟩ := HL.out.2.2 (by omega)
      obtain ⟨e0, e1, e2, k0, a0, b0⟩ := hcs k hlt
      generalize hx : l k = x at *
      have HX := Lib.hid hx
      have HA0 := Lib.hid a0
      have HB0 := Lib.hid b0
      have c0 := cell_keep e0 HS.out.bel (Nat.le_refl _)
      have c1 := act_second (cell_keep e1 HS.out.bel (Nat.le_refl _))
      have c2 := act_third (cell_keep e2 HS.out.bel (Nat.le_refl _))
      have hlt' : (k : Int) < (N : Int) := by omega
      clear hx e0 e1 e2 hcs a0 b0
      go_wp2_with (refine load_pool rfl 31 (.tmp 7) rfl w2.heap.size _ 31 rfl _ (HS.out.po.alloc _) Tryd.underlying31 rfl pool_info ?_)
      have HS4 := Lib.hid (HS.out.below (below_new wr (.cells (actA x) 43)))
      refine (does_any (Po.run (1 + (r : Nat)) l k) zeroP x _ (run_ask hn l (by omega) k0 HA0.out HB0.out (tab_keep HT.out HS4.out.bel))).mono ?_
      rintro e w5 ⟨b, rfl, _, hb5⟩
      have HS5 := Lib.hid (HS4.out.below hb5)
      clear hb5 HS HS4 c0 c1 c2
      rw [run_next HX.out]
      go_wp2_with (refine wpList_setP rfl 31 (.tmp 7) (.tmp 50) rfl rfl w2.heap.size _ (Po.run (1 + (r : Nat)) l (k + 1)) rfl rfl HS5.out.po pool_info ?_; intro w6 n6 b6 _; have HS6 := Lib.hid (show RunSt (1 + (r : Nat)) l w2.heap.size (k + 1) w w6 from ⟨n6, HS5.out.ge, b6 _ _ HS5.out.bel HS5.out.ge⟩); clear n6 b6)
      exact ⟨⟨k + 1, by omega, by go_num, HS6.out⟩, by simp [intOf]; omega⟩
    · obtain rfl : k = N := by omega
      generalize hP : Po.run (1 + (r : Nat)) l k = P at *
      have HP := Lib.hid (show Po.Sound P by rw [← hP]; exact Po.run_sound hn l k)
      have HC := Lib.hid (show P.count ≤ 120 by rw [← hP]; have := (Po.run_count hn l k).1; omega)
      have hPok : P.Ok := HP.out.ok (by have := HC.out; omega)
      have H6 := Lib.hid (show PoolAt wr w2.heap.size P 31 by rw [← hP]; exact HS.out.po)
      have HB6 := Lib.hid HS.out.bel
      have HG := Lib.hid HS.out.ge
      have HPok := Lib.hid hPok
      clear hP HS hPok
      have hor := bits_or_u64_nat P.live P.done HP.out.live64 HP.out.done64
      have HAb := Lib.hid ha
      have HBb := Lib.hid hb
      clear ha hb
      by_cases hab : a = b
      · subst hab
        cases hta : Sm.has (P.live ||| P.done) a
        · have HTa := Lib.hid hta
          clear hta
          go_wp2_with (refine load_pool rfl 31 (.tmp 7) rfl w2.heap.size P 31 rfl _ H6.out Tryd.underlying31 rfl pool_info ?_)
          refine (edge_pval P (P) _ _ 2 _ HPok.out HAb.out HBb.out (tab_keep HT.out HB6.out) (Po.edge_eq P a)).mono ?_
          rintro e w7 ⟨rfl, hb7⟩
          have H7 := Lib.hid (H6.out.below hb7)
          have HB7 := Lib.hid (HB6.out.trans (hb7.mono HB6.out.size))
          clear hb7 H6 HB6
          go_wp2_with (refine wpList_letP rfl 31 (.tmp 11) (.tmp 59) rfl rfl w7 P rfl rfl rfl pool_info ?_; intro w8 n8 hb8; have H8 := Lib.hid (show RoSt P P w2.heap.size w7.heap.size w w8 from ⟨H7.out.below hb8, n8, HG.out, H7.out.lt, HB7.out.trans (hb8.mono HB7.out.size)⟩); have p1 := H8.out.po.live_; have p2 := H8.out.po.done_; clear n8 hb8)
          refine (hasI_val (P.live ||| P.done) _ false _ (or64 HP.out.live64 HP.out.done64) HAb.out.1 HAb.out.2 HTa.out).mono ?_
          rintro e w' ⟨rfl, rfl⟩
          go_wp2_with (refine load_m rfl 27 (.tmp 78) rfl w2.heap.size P 31 rfl _ H8.out.po Tryd.underlying27 rfl mat_info ?_)
          refine (put_not P.m a a _ HAb.out HBb.out (fun h => h.2.2 rfl)).mono ?_
          rintro e w9 ⟨rfl, hb9⟩
          have H9 := Lib.hid (H8.out.below hb9)
          clear hb9 H8 p1 p2
          generalize hM : P.m = M at *
          have H10 := Lib.hid (show EdSt P P M w2.heap.size w7.heap.size w9.heap.size w (w9.alloc (.cells (matA M) 27)) from ⟨H9.out.below (below_new _ _), matAt_new _ _ _⟩)
          go_wp2_with (first
            | (refine wpList_store_row rfl 27 (.tmp 14) (.tmp 83) rfl w9.heap.size (matA M) rfl rfl 27 _ (heap_alloc_new _ _) (matInfo _) (by rw [matA_size]; rfl) (matA_one _) ?_; rw [World.setRow_alloc_new])
            | (refine load_pool rfl 31 (.tmp 11) rfl w7.heap.size P 31 rfl _ H10.out.st.pq Tryd.underlying31 rfl pool_info ?_)
            | (refine load_pool rfl 31 (.tmp 7) rfl w2.heap.size P 31 rfl _ H10.out.st.po Tryd.underlying31 rfl pool_info ?_)
            | (refine wpList_eq rfl 31 31 (.tmp 92) (.tmp 93) rfl (poolA P) rfl rfl guard_pool (eq_pool P _) ?_))
          go_ret
          exact ⟨rfl, H10.out.st.bel⟩
        · have HTa := Lib.hid hta
          have HTb := Lib.hid hta
          clear hta
          go_wp2_with (refine load_pool rfl 31 (.tmp 7) rfl w2.heap.size P 31 rfl _ H6.out Tryd.underlying31 rfl pool_info ?_)
          refine (edge_pval P (P) _ _ 2 _ HPok.out HAb.out HBb.out (tab_keep HT.out HB6.out) (Po.edge_eq P a)).mono ?_
          rintro e w7 ⟨rfl, hb7⟩
          have H7 := Lib.hid (H6.out.below hb7)
          have HB7 := Lib.hid (HB6.out.trans (hb7.mono HB6.out.size))
          clear hb7 H6 HB6
          go_wp2_with (refine wpList_letP rfl 31 (.tmp 11) (.tmp 59) rfl rfl w7 P rfl rfl rfl pool_info ?_; intro w8 n8 hb8; have H8 := Lib.hid (show RoSt P P w2.heap.size w7.heap.size w w8 from ⟨H7.out.below hb8, n8, HG.out, H7.out.lt, HB7.out.trans (hb8.mono HB7.out.size)⟩); have p1 := H8.out.po.live_; have p2 := H8.out.po.done_; clear n8 hb8)
          refine (hasI_val (P.live ||| P.done) _ true _ (or64 HP.out.live64 HP.out.done64) HAb.out.1 HAb.out.2 HTa.out).mono ?_
          rintro e w' ⟨rfl, rfl⟩
          go_wp2_with fail
          refine (hasI_val (P.live ||| P.done) _ true _ (or64 HP.out.live64 HP.out.done64) HBb.out.1 HBb.out.2 HTb.out).mono ?_
          rintro e w' ⟨rfl, rfl⟩
          go_wp2_with (refine load_m rfl 27 (.tmp 78) rfl w2.heap.size P 31 rfl _ H8.out.po Tryd.underlying27 rfl mat_info ?_)
          refine (put_not P.m a a _ HAb.out HBb.out (fun h => h.2.2 rfl)).mono ?_
          rintro e w9 ⟨rfl, hb9⟩
          have H9 := Lib.hid (H8.out.below hb9)
          clear hb9 H8 p1 p2
          generalize hM : P.m = M at *
          have H10 := Lib.hid (show EdSt P P M w2.heap.size w7.heap.size w9.heap.size w (w9.alloc (.cells (matA M) 27)) from ⟨H9.out.below (below_new _ _), matAt_new _ _ _⟩)
          go_wp2_with (first
            | (refine wpList_store_row rfl 27 (.tmp 14) (.tmp 83) rfl w9.heap.size (matA M) rfl rfl 27 _ (heap_alloc_new _ _) (matInfo _) (by rw [matA_size]; rfl) (matA_one _) ?_; rw [World.setRow_alloc_new])
            | (refine load_pool rfl 31 (.tmp 11) rfl w7.heap.size P 31 rfl _ H10.out.st.pq Tryd.underlying31 rfl pool_info ?_)
            | (refine load_pool rfl 31 (.tmp 7) rfl w2.heap.size P 31 rfl _ H10.out.st.po Tryd.underlying31 rfl pool_info ?_)
            | (refine wpList_eq rfl 31 31 (.tmp 92) (.tmp 93) rfl (poolA P) rfl rfl guard_pool (eq_pool P _) ?_))
          go_ret
          exact ⟨rfl, H10.out.st.bel⟩
      · have hne : (a == b) = false := by rw [beq_eq_false_iff_ne]; exact hab
        cases hta : Sm.has (P.live ||| P.done) a
        · have HTa := Lib.hid hta
          have HE := Lib.hid (Po.edge_none hab (.inl hta))
          clear hta
          obtain ⟨MM, HPut⟩ := put_ever P.m a b HP.out.mok HAb.out HBb.out
          have HPut := Lib.hid HPut
          go_wp2_with (refine load_pool rfl 31 (.tmp 7) rfl w2.heap.size P 31 rfl _ H6.out Tryd.underlying31 rfl pool_info ?_)
          refine (edge_pval P (P) _ _ 3 _ HPok.out HAb.out HBb.out (tab_keep HT.out HB6.out) HE.out).mono ?_
          rintro e w7 ⟨rfl, hb7⟩
          have H7 := Lib.hid (H6.out.below hb7)
          have HB7 := Lib.hid (HB6.out.trans (hb7.mono HB6.out.size))
          clear hb7 H6 HB6
          go_wp2_with (refine wpList_letP rfl 31 (.tmp 11) (.tmp 59) rfl rfl w7 P rfl rfl rfl pool_info ?_; intro w8 n8 hb8; have H8 := Lib.hid (show RoSt P P w2.heap.size w7.heap.size w w8 from ⟨H7.out.below hb8, n8, HG.out, H7.out.lt, HB7.out.trans (hb8.mono HB7.out.size)⟩); have p1 := H8.out.po.live_; have p2 := H8.out.po.done_; clear n8 hb8)
          refine (hasI_val (P.live ||| P.done) _ false _ (or64 HP.out.live64 HP.out.done64) HAb.out.1 HAb.out.2 HTa.out).mono ?_
          rintro e w' ⟨rfl, rfl⟩
          go_wp2_with (refine load_m rfl 27 (.tmp 78) rfl w2.heap.size P 31 rfl _ H8.out.po Tryd.underlying27 rfl mat_info ?_)
          refine (HPut.out _).mono ?_
          rintro e w9 ⟨rfl, hb9⟩
          have H9 := Lib.hid (H8.out.below hb9)
          clear hb9 H8 p1 p2
          generalize hM : MM.1 = M at *
          have H10 := Lib.hid (show EdSt P P M w2.heap.size w7.heap.size w9.heap.size w (w9.alloc (.cells (matA M) 27)) from ⟨H9.out.below (below_new _ _), matAt_new _ _ _⟩)
          go_wp2_with (first
            | (refine wpList_store_row rfl 27 (.tmp 14) (.tmp 83) rfl w9.heap.size (matA M) rfl rfl 27 _ (heap_alloc_new _ _) (matInfo _) (by rw [matA_size]; rfl) (matA_one _) ?_; rw [World.setRow_alloc_new])
            | (refine load_pool rfl 31 (.tmp 11) rfl w7.heap.size P 31 rfl _ H10.out.st.pq Tryd.underlying31 rfl pool_info ?_)
            | (refine load_pool rfl 31 (.tmp 7) rfl w2.heap.size P 31 rfl _ H10.out.st.po Tryd.underlying31 rfl pool_info ?_)
            | (refine wpList_eq rfl 31 31 (.tmp 102) (.tmp 103) rfl (poolA P) rfl rfl guard_pool (eq_pool P _) ?_))
          go_ret
          exact ⟨rfl, H10.out.st.bel⟩
        · cases htb : Sm.has (P.live ||| P.done) b
          · have HTa := Lib.hid hta
            have HTb := Lib.hid htb
            have HE := Lib.hid (Po.edge_none hab (.inr htb))
            clear hta htb
            obtain ⟨MM, HPut⟩ := put_ever P.m a b HP.out.mok HAb.out HBb.out
            have HPut := Lib.hid HPut
            go_wp2_with (refine load_pool rfl 31 (.tmp 7) rfl w2.heap.size P 31 rfl _ H6.out Tryd.underlying31 rfl pool_info ?_)
            refine (edge_pval P (P) _ _ 3 _ HPok.out HAb.out HBb.out (tab_keep HT.out HB6.out) HE.out).mono ?_
            rintro e w7 ⟨rfl, hb7⟩
            have H7 := Lib.hid (H6.out.below hb7)
            have HB7 := Lib.hid (HB6.out.trans (hb7.mono HB6.out.size))
            clear hb7 H6 HB6
            go_wp2_with (refine wpList_letP rfl 31 (.tmp 11) (.tmp 59) rfl rfl w7 P rfl rfl rfl pool_info ?_; intro w8 n8 hb8; have H8 := Lib.hid (show RoSt P P w2.heap.size w7.heap.size w w8 from ⟨H7.out.below hb8, n8, HG.out, H7.out.lt, HB7.out.trans (hb8.mono HB7.out.size)⟩); have p1 := H8.out.po.live_; have p2 := H8.out.po.done_; clear n8 hb8)
            refine (hasI_val (P.live ||| P.done) _ true _ (or64 HP.out.live64 HP.out.done64) HAb.out.1 HAb.out.2 HTa.out).mono ?_
            rintro e w' ⟨rfl, rfl⟩
            go_wp2_with fail
            refine (hasI_val (P.live ||| P.done) _ false _ (or64 HP.out.live64 HP.out.done64) HBb.out.1 HBb.out.2 HTb.out).mono ?_
            rintro e w' ⟨rfl, rfl⟩
            go_wp2_with (refine load_m rfl 27 (.tmp 78) rfl w2.heap.size P 31 rfl _ H8.out.po Tryd.underlying27 rfl mat_info ?_)
            refine (HPut.out _).mono ?_
            rintro e w9 ⟨rfl, hb9⟩
            have H9 := Lib.hid (H8.out.below hb9)
            clear hb9 H8 p1 p2
            generalize hM : MM.1 = M at *
            have H10 := Lib.hid (show EdSt P P M w2.heap.size w7.heap.size w9.heap.size w (w9.alloc (.cells (matA M) 27)) from ⟨H9.out.below (below_new _ _), matAt_new _ _ _⟩)
            go_wp2_with (first
              | (refine wpList_store_row rfl 27 (.tmp 14) (.tmp 83) rfl w9.heap.size (matA M) rfl rfl 27 _ (heap_alloc_new _ _) (matInfo _) (by rw [matA_size]; rfl) (matA_one _) ?_; rw [World.setRow_alloc_new])
              | (refine load_pool rfl 31 (.tmp 11) rfl w7.heap.size P 31 rfl _ H10.out.st.pq Tryd.underlying31 rfl pool_info ?_)
              | (refine load_pool rfl 31 (.tmp 7) rfl w2.heap.size P 31 rfl _ H10.out.st.po Tryd.underlying31 rfl pool_info ?_)
              | (refine wpList_eq rfl 31 31 (.tmp 102) (.tmp 103) rfl (poolA P) rfl rfl guard_pool (eq_pool P _) ?_))
            go_ret
            exact ⟨rfl, H10.out.st.bel⟩
          · obtain ⟨x, rfl, hx⟩ := Po.taken_nat HP.out hta
            obtain ⟨y, rfl, hy⟩ := Po.taken_nat HP.out htb
            have HTa := Lib.hid hta
            have HTb := Lib.hid htb
            have hxy : x ≠ y := fun e => hab (by rw [e])
            rcases Po.ins_may hx hy hxy HP.out.sorted with ⟨q, hi, _, hf⟩ | ⟨hi, hf⟩
            · have HE := Lib.hid (Po.edge_yes hab hta htb hi)
              have HFr := Lib.hid hf
              have HMok := Lib.hid (Mm.put_ok x y HP.out.mok)
              clear hta htb hi hf
              go_wp2_with (refine load_pool rfl 31 (.tmp 7) rfl w2.heap.size P 31 rfl _ H6.out Tryd.underlying31 rfl pool_info ?_)
              refine (edge_pval P (Po.over P (Mm.put P.m x y, q)) _ _ 0 _ HPok.out HAb.out HBb.out (tab_keep HT.out HB6.out) HE.out).mono ?_
              rintro e w7 ⟨rfl, hb7⟩
              have H7 := Lib.hid (H6.out.below hb7)
              have HB7 := Lib.hid (HB6.out.trans (hb7.mono HB6.out.size))
              clear hb7 H6 HB6
              generalize hQ : Po.over P (Mm.put P.m x y, q) = Q at *
              go_wp2_with (refine wpList_letP rfl 31 (.tmp 11) (.tmp 59) rfl rfl w7 Q rfl rfl rfl pool_info ?_; intro w8 n8 hb8; have H8 := Lib.hid (show RoSt P Q w2.heap.size w7.heap.size w w8 from ⟨H7.out.below hb8, n8, HG.out, H7.out.lt, HB7.out.trans (hb8.mono HB7.out.size)⟩); have p1 := H8.out.po.live_; have p2 := H8.out.po.done_; clear n8 hb8)
              refine (hasI_val (P.live ||| P.done) _ true _ (or64 HP.out.live64 HP.out.done64) HAb.out.1 HAb.out.2 HTa.out).mono ?_
              rintro e w' ⟨rfl, rfl⟩
              go_wp2_with fail
              refine (hasI_val (P.live ||| P.done) _ true _ (or64 HP.out.live64 HP.out.done64) HBb.out.1 HBb.out.2 HTb.out).mono ?_
              rintro e w' ⟨rfl, rfl⟩
              go_wp2_with (refine load_m rfl 27 (.tmp 78) rfl w2.heap.size P 31 rfl _ H8.out.po Tryd.underlying27 rfl mat_info ?_)
              refine (put_yes P.m x y _ HP.out.mok hx hy hxy).mono ?_
              rintro e w9 ⟨rfl, hb9⟩
              have H9 := Lib.hid (H8.out.below hb9)
              clear hb9 H8 p1 p2
              generalize hM : Mm.put P.m x y = M at *
              have H10 := Lib.hid (show EdSt P Q M w2.heap.size w7.heap.size w9.heap.size w (w9.alloc (.cells (matA M) 27)) from ⟨H9.out.below (below_new _ _), matAt_new _ _ _⟩)
              go_wp2_with (first
                | (refine wpList_store_row rfl 27 (.tmp 14) (.tmp 83) rfl w9.heap.size (matA M) rfl rfl 27 _ (heap_alloc_new _ _) (matInfo _) (by rw [matA_size]; rfl) (matA_one _) ?_; rw [World.setRow_alloc_new])
                | (refine wpList_load_row rfl 27 (.tmp 14) rfl w9.heap.size rfl 27 (matA M) (0, 0) _ H10.out.gr Tryd.underlying27 rfl (matInfo M) ?_))
              refine (free_val M true _ HMok.out (tab_keep HT.out H10.out.st.bel) HFr.out).mono ?_
              rintro e w11 ⟨rfl, hb11⟩
              have H11 := Lib.hid (H10.out.below hb11)
              clear hb11 H10 H9
              have g1 := H11.out.st.po.live_
              have g2 := H11.out.st.po.done_
              have g3 := H11.out.st.pq.live_
              have g4 := H11.out.st.pq.done_
              rw [show Q.live = P.live by rw [← hQ]; rfl] at g3
              rw [show Q.done = P.done by rw [← hQ]; rfl] at g4
              have HQm := Lib.hid (show Q.m = M by rw [← hQ, ← hM]; rfl)
              clear hQ hM
              go_wp2_with (first
                | (refine load_m rfl 27 (.tmp 120) rfl w7.heap.size Q 31 rfl _ H11.out.st.pq Tryd.underlying27 rfl mat_info ?_; rw [HQm.out])
                | (refine wpList_load_want rfl 27 (.tmp 14) rfl w9.heap.size rfl 27 (matA M) (0, 0) _ _ H11.out.gr Tryd.underlying27 (matInfo M) ?_)
                | (refine wpList_eq rfl 27 27 (.tmp 121) (.tmp 122) rfl (matA M) rfl rfl guard_mat (eq_mat M M true (sameM_self _) _) ?_))
              go_ret
              exact ⟨rfl, H11.out.st.bel⟩
            · have HE := Lib.hid (Po.edge_no hab hta htb hi)
              have HFr := Lib.hid hf
              have HMok := Lib.hid (Mm.put_ok x y HP.out.mok)
              clear hta htb hi hf
              go_wp2_with (refine load_pool rfl 31 (.tmp 7) rfl w2.heap.size P 31 rfl _ H6.out Tryd.underlying31 rfl pool_info ?_)
              refine (edge_pval P (P) _ _ 5 _ HPok.out HAb.out HBb.out (tab_keep HT.out HB6.out) HE.out).mono ?_
              rintro e w7 ⟨rfl, hb7⟩
              have H7 := Lib.hid (H6.out.below hb7)
              have HB7 := Lib.hid (HB6.out.trans (hb7.mono HB6.out.size))
              clear hb7 H6 HB6
              go_wp2_with (refine wpList_letP rfl 31 (.tmp 11) (.tmp 59) rfl rfl w7 P rfl rfl rfl pool_info ?_; intro w8 n8 hb8; have H8 := Lib.hid (show RoSt P P w2.heap.size w7.heap.size w w8 from ⟨H7.out.below hb8, n8, HG.out, H7.out.lt, HB7.out.trans (hb8.mono HB7.out.size)⟩); have p1 := H8.out.po.live_; have p2 := H8.out.po.done_; clear n8 hb8)
              refine (hasI_val (P.live ||| P.done) _ true _ (or64 HP.out.live64 HP.out.done64) HAb.out.1 HAb.out.2 HTa.out).mono ?_
              rintro e w' ⟨rfl, rfl⟩
              go_wp2_with fail
              refine (hasI_val (P.live ||| P.done) _ true _ (or64 HP.out.live64 HP.out.done64) HBb.out.1 HBb.out.2 HTb.out).mono ?_
              rintro e w' ⟨rfl, rfl⟩
              go_wp2_with (refine load_m rfl 27 (.tmp 78) rfl w2.heap.size P 31 rfl _ H8.out.po Tryd.underlying27 rfl mat_info ?_)
              refine (put_yes P.m x y _ HP.out.mok hx hy hxy).mono ?_
              rintro e w9 ⟨rfl, hb9⟩
              have H9 := Lib.hid (H8.out.below hb9)
              clear hb9 H8 p1 p2
              generalize hM : Mm.put P.m x y = M at *
              have H10 := Lib.hid (show EdSt P P M w2.heap.size w7.heap.size w9.heap.size w (w9.alloc (.cells (matA M) 27)) from ⟨H9.out.below (below_new _ _), matAt_new _ _ _⟩)
              go_wp2_with (first
                | (refine wpList_store_row rfl 27 (.tmp 14) (.tmp 83) rfl w9.heap.size (matA M) rfl rfl 27 _ (heap_alloc_new _ _) (matInfo _) (by rw [matA_size]; rfl) (matA_one _) ?_; rw [World.setRow_alloc_new])
                | (refine wpList_load_row rfl 27 (.tmp 14) rfl w9.heap.size rfl 27 (matA M) (0, 0) _ H10.out.gr Tryd.underlying27 rfl (matInfo M) ?_))
              refine (free_val M false _ HMok.out (tab_keep HT.out H10.out.st.bel) HFr.out).mono ?_
              rintro e w11 ⟨rfl, hb11⟩
              have H11 := Lib.hid (H10.out.below hb11)
              clear hb11 H10 H9
              go_wp2_with (first
                | (refine load_pool rfl 31 (.tmp 11) rfl w7.heap.size P 31 rfl _ H11.out.st.pq Tryd.underlying31 rfl pool_info ?_)
                | (refine load_pool rfl 31 (.tmp 7) rfl w2.heap.size P 31 rfl _ H11.out.st.po Tryd.underlying31 rfl pool_info ?_)
                | (refine wpList_eq rfl 31 31 (.tmp 113) (.tmp 114) rfl (poolA P) rfl rfl guard_pool (eq_pool P _) ?_))
              go_ret
              exact ⟨rfl, H11.out.st.bel⟩
end Go.Proofs.YtakoceablbgchaaDoor
