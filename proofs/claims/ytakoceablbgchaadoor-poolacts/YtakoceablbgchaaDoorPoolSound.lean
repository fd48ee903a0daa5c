/-
  The document's Sound, of a pool that is sound.
-/
import Derived.Test.YtakoceablbgchaaDoorPoolTwo
namespace Go.Proofs.YtakoceablbgchaaDoor
open Go.RowKit
attribute [local go_sem ↓] Go.wp_at_zero Go.wp_at_succ
theorem guard_rmat : Tryd.prog.eqGuardType Tryd.prog.depth 35 = false := by kernel_rfl
theorem rcut_val (m n : Mm.Gr) (a : Nat) (w : World) (hm : Mm.Ok m) (ha : a < 32) (h : ∀ i, i < 32 → Mm.cut m a i = n i) :
    Calls Tryd.prog 40 #[.agg (matA m), .int .i64 (a : Nat)] w fun e w' => e = .returned (.agg (matA n)) ∧ Below w.heap.size w w' := by
  have := rcut_in m a w hm ha
  rw [matA_ext h] at this; exact this
theorem taken_at (p : Pl) (hl : p.live < 18446744073709551616) (hd : p.done < 18446744073709551616) (k : Nat) : Po.taken p (k : Nat) = (p.live.testBit k || p.done.testBit k) := by
  unfold Po.taken; rw [Sm.has_nat _ (or64 hl hd), Nat.testBit_or]
def SoRel (p : Pl) (w : World) (i : Value) (wr : World) : Prop := ∃ k : Nat, k ≤ 64 ∧ i = .int .i64 k ∧ PSt p 38 w wr
set_option maxHeartbeats 4000000 in
set_option maxRecDepth 100000 in
theorem sound_any (p : Pl) (w : World) (hs : Po.Sound p) (hp : p.Ok) :
    Calls Tryd.prog 14 #[.agg (poolA p)] w fun e w' => e = .returned (.bool true) ∧ Below w.heap.size w w' := by
  have H0 := Lib.hid (pst_first p 38 w)
  have HP := Lib.hid hp
  have HSd := Lib.hid hs
  have c0 := H0.out.po.size_
  have c6 := H0.out.po.count_
  have s1 : ¬ p.size < 1 := by have := hs.size; omega
  have s2 : ¬ 32 < p.size := by have := hs.size; omega
  have s3 : ¬ p.count < 0 := by have := hs.count; omega
  clear hs hp
  go_enter Tryd.func14, Tryd.ntmps14
  go_wp2_with (first
    | (refine load_m rfl 35 (.tmp 18) rfl w.heap.size p 38 rfl _ H0.out.po Tryd.underlying35 rfl rmat_info ?_)
    | (refine load_o rfl 36 (.tmp 20) rfl w.heap.size p 38 rfl _ H0.out.po Tryd.underlying36 rfl rord_info ?_))
  refine (rsorted_val p.m p.o true _ HP.out.m (Od.sortedB_yes HSd.out.sorted)).mono ?_
  rintro e w1 ⟨rfl, hb1⟩
  have H1 := Lib.hid (H0.out.below hb1)
  clear hb1 H0 c0 c6 s1 s2 s3
  go_wp2
  go_loopw [3] (SoRel p w) (fun i _ => 64 - (intOf i).toNat)
  case atStart => exact ⟨0, by omega, rfl, H1.out⟩
  case round =>
    obtain ⟨k, hk, rfl, hst⟩ := hrel
    have HS := Lib.hid hst
    clear hst
    by_cases hlt : k < 64
    · have hlt' : (k : Int) < 64 := by omega
      have c0 := HS.out.po.size_
      have c3 := HS.out.po.live_
      have c4 := HS.out.po.done_
      have htk := taken_at p HP.out.live HP.out.done k
      by_cases hge : (k : Int) < p.size
      · have hk32 : k < 32 := by have := HSd.out.size; omega
        have hk32' : (k : Int) < 32 := by omega
        have hge' : ¬ p.size ≤ (k : Int) := by omega
        cases hlv : p.live.testBit k
        · cases hdn : p.done.testBit k
          · have HCut := Lib.hid (Po.cut_free HSd.out hk32 (by rintro (h | h); (rw [hlv] at h; cases h); (rw [hdn] at h; cases h)))
            have HTk := Lib.hid (show Po.taken p (k : Nat) = false by rw [htk, hlv, hdn]; rfl)
            have HLv := Lib.hid hlv
            clear htk hlv hdn
            have HS1 := Lib.hid HS.out
            go_wp2_with fail
            refine (rhas_nat_val p.live k false _ HP.out.live hlt HLv.out).mono ?_
            rintro e w' ⟨rfl, rfl⟩
            have HS2 := Lib.hid HS1.out
            clear HS HS1 c0 c3 c4
            go_wp2
            refine wp_region_noPanic ?_
            refine region_start (S := PSt p 38 w) 16 rfl (by kernel_rfl) (HS2.out.below (below_drew _)) (fun hHeld => ?_)
            refine take_at 0 51 (.int .i64 (k : Nat)) rfl rfl (by kernel_rfl) (by kernel_rfl) (by kernel_rfl) (fun _ _ _ h => h) (Or.inl ⟨by rfl, by intro W hW; clear hW; go_simp⟩) hHeld ?_
            simp only [put_laws]
            refine take_at 1 52 (.bool true) rfl rfl (by kernel_rfl) (by kernel_rfl) (by kernel_rfl) (fun _ _ _ h => h) (Or.inl ⟨by rfl, by intro W hW; clear hW; go_simp⟩) hHeld ?_
            simp only [put_laws]
            refine take_at 2 53 (.bool true) rfl rfl (by kernel_rfl) (by kernel_rfl) (by kernel_rfl) (fun _ _ _ h => h) (Or.inl ⟨by rfl, by intro W hW; clear hW; go_simp⟩) hHeld ?_
            simp only [put_laws]
            refine take_at 3 54 (.agg (poolA p)) rfl rfl (by kernel_rfl) (by kernel_rfl) (by kernel_rfl) (fun _ _ _ h => h) (yields_pool (by rfl) 38 (.tmp 1) rfl (w.heap.size) rfl 38 (p) _ (fun W h => h.po) Tryd.underlying38 rfl rpool_info) hHeld ?_
            simp only [put_laws]
            refine take_at 4 55 (.int .i64 (k : Nat)) rfl rfl (by kernel_rfl) (by kernel_rfl) (by kernel_rfl) (fun _ _ _ h => h) (Or.inl ⟨by rfl, by intro W hW; clear hW; go_simp⟩) hHeld ?_
            simp only [put_laws]
            refine wpAnyH_ready (rs := [5]) (by kernel_rfl) (by simp) ?_
            refine AllReadyH.cons rfl (fun K hK => ?_) AllReadyH.nil
            go_simp
            refine (rfree_pval p (k : Nat) false _ HP.out (by omega) (by omega) HTk.out).mono ?_
            rintro e w5 ⟨rfl, hb5⟩
            try go_simp
            have hHeld := hHeld.below hb5
            refine hK.out _ _ hHeld (fun hHeld => ?_)
            clear hK K
            refine take_at 6 57 (.bool true) rfl rfl (by kernel_rfl) (by kernel_rfl) (by kernel_rfl) (fun _ _ _ h => h) (Or.inl ⟨by rfl, by intro W hW; clear hW; go_simp⟩) hHeld ?_
            simp only [put_laws]
            refine take_at 7 58 (.bool true) rfl rfl (by kernel_rfl) (by kernel_rfl) (by kernel_rfl) (fun _ _ _ h => h) (Or.inl ⟨by rfl, by intro W hW; clear hW; go_simp⟩) hHeld ?_
            simp only [put_laws]
            refine take_at 8 59 (.pointer (some ⟨w.heap.size, 1, none⟩)) rfl rfl (by kernel_rfl) (by kernel_rfl) (by kernel_rfl) (fun _ _ _ h => h) (Or.inl ⟨by rfl, by intro W hW; clear hW; go_simp; try (intro h; omega)⟩) hHeld ?_
            simp only [put_laws]
            refine take_at 9 60 (.agg (matA p.m)) rfl rfl (by kernel_rfl) (by kernel_rfl) (by kernel_rfl) (fun _ _ _ h => h) (yields_mid (by rfl) 35 (.tmp 59) rfl (w.heap.size) 1 rfl (matA p.m) _ (fun W h => h.po.range_m) Tryd.underlying35 rfl (rmatInfo _)) hHeld ?_
            simp only [put_laws]
            refine take_at 10 61 (.int .i64 (k : Nat)) rfl rfl (by kernel_rfl) (by kernel_rfl) (by kernel_rfl) (fun _ _ _ h => h) (Or.inl ⟨by rfl, by intro W hW; clear hW; go_simp⟩) hHeld ?_
            simp only [put_laws]
            refine take_at 12 63 (.pointer (some ⟨w.heap.size, 1, none⟩)) rfl rfl (by kernel_rfl) (by kernel_rfl) (by kernel_rfl) (fun _ _ _ h => h) (Or.inl ⟨by rfl, by intro W hW; clear hW; go_simp; try (intro h; omega)⟩) hHeld ?_
            simp only [put_laws]
            refine take_at 13 64 (.agg (matA p.m)) rfl rfl (by kernel_rfl) (by kernel_rfl) (by kernel_rfl) (fun _ _ _ h => h) (yields_mid (by rfl) 35 (.tmp 63) rfl (w.heap.size) 1 rfl (matA p.m) _ (fun W h => h.po.range_m) Tryd.underlying35 rfl (rmatInfo _)) hHeld ?_
            simp only [put_laws]
            refine wpAnyH_ready (rs := [11]) (by kernel_rfl) (by simp) ?_
            refine AllReadyH.cons rfl (fun K hK => ?_) AllReadyH.nil
            go_simp
            refine (rcut_val p.m (p.m) k _ HP.out.m hk32 HCut.out).mono ?_
            rintro e w6 ⟨rfl, hb6⟩
            try go_simp
            have hHeld := hHeld.below hb6
            refine hK.out _ _ hHeld (fun hHeld => ?_)
            clear hK K
            refine take_at 14 65 (.bool false) rfl rfl (by kernel_rfl) (by kernel_rfl) (by kernel_rfl) (fun _ _ _ h => h) (yields_ne (by rfl) 35 35 (.tmp 62) (.tmp 64) rfl (matA p.m) rfl rfl guard_rmat (eq_rmat p.m p.m true (sameM_self _))) hHeld ?_
            simp only [put_laws]
            refine take_at 15 66 (.bool false) rfl rfl (by kernel_rfl) (by kernel_rfl) (by kernel_rfl) (fun _ _ _ h => h) (Or.inl ⟨by rfl, by intro W hW; clear hW; go_simp⟩) hHeld ?_
            simp only [put_laws]
            refine wpAnyH_done (by kernel_rfl) ?_ _
            refine NoPanic.normal ?_
            go_wp2
            exact ⟨⟨k + 1, by omega, by go_num, hHeld⟩, by simp [intOf]; omega⟩
          · have HCut := Lib.hid (show True from trivial)
            have HTk := Lib.hid (show Po.taken p (k : Nat) = true by rw [htk, hlv, hdn]; rfl)
            have HLv := Lib.hid hlv
            clear htk hlv hdn
            have HS1 := Lib.hid HS.out
            go_wp2_with fail
            refine (rhas_nat_val p.live k false _ HP.out.live hlt HLv.out).mono ?_
            rintro e w' ⟨rfl, rfl⟩
            have HS2 := Lib.hid HS1.out
            clear HS HS1 c0 c3 c4
            go_wp2
            refine wp_region_noPanic ?_
            refine region_start (S := PSt p 38 w) 16 rfl (by kernel_rfl) (HS2.out.below (below_drew _)) (fun hHeld => ?_)
            refine take_at 0 51 (.int .i64 (k : Nat)) rfl rfl (by kernel_rfl) (by kernel_rfl) (by kernel_rfl) (fun _ _ _ h => h) (Or.inl ⟨by rfl, by intro W hW; clear hW; go_simp⟩) hHeld ?_
            simp only [put_laws]
            refine take_at 1 52 (.bool true) rfl rfl (by kernel_rfl) (by kernel_rfl) (by kernel_rfl) (fun _ _ _ h => h) (Or.inl ⟨by rfl, by intro W hW; clear hW; go_simp⟩) hHeld ?_
            simp only [put_laws]
            refine take_at 2 53 (.bool true) rfl rfl (by kernel_rfl) (by kernel_rfl) (by kernel_rfl) (fun _ _ _ h => h) (Or.inl ⟨by rfl, by intro W hW; clear hW; go_simp⟩) hHeld ?_
            simp only [put_laws]
            refine take_at 3 54 (.agg (poolA p)) rfl rfl (by kernel_rfl) (by kernel_rfl) (by kernel_rfl) (fun _ _ _ h => h) (yields_pool (by rfl) 38 (.tmp 1) rfl (w.heap.size) rfl 38 (p) _ (fun W h => h.po) Tryd.underlying38 rfl rpool_info) hHeld ?_
            simp only [put_laws]
            refine take_at 4 55 (.int .i64 (k : Nat)) rfl rfl (by kernel_rfl) (by kernel_rfl) (by kernel_rfl) (fun _ _ _ h => h) (Or.inl ⟨by rfl, by intro W hW; clear hW; go_simp⟩) hHeld ?_
            simp only [put_laws]
            refine wpAnyH_ready (rs := [5]) (by kernel_rfl) (by simp) ?_
            refine AllReadyH.cons rfl (fun K hK => ?_) AllReadyH.nil
            go_simp
            refine (rfree_pval p (k : Nat) true _ HP.out (by omega) (by omega) HTk.out).mono ?_
            rintro e w5 ⟨rfl, hb5⟩
            try go_simp
            have hHeld := hHeld.below hb5
            refine hK.out _ _ hHeld (fun hHeld => ?_)
            clear hK K
            refine take_at 6 57 (.bool false) rfl rfl (by kernel_rfl) (by kernel_rfl) (by kernel_rfl) (fun _ _ _ h => h) (Or.inl ⟨by rfl, by intro W hW; clear hW; go_simp⟩) hHeld ?_
            simp only [put_laws]
            refine take_at 7 58 (.bool false) rfl rfl (by kernel_rfl) (by kernel_rfl) (by kernel_rfl) (fun _ _ _ h => h) (Or.inl ⟨by rfl, by intro W hW; clear hW; go_simp⟩) hHeld ?_
            simp only [put_laws]
            refine take_at 8 59 undef rfl rfl (by kernel_rfl) (by kernel_rfl) (by kernel_rfl) (fun _ _ _ h => h) (Or.inr ⟨by rfl, rfl⟩) hHeld ?_
            simp only [put_laws]
            refine take_at 9 60 undef rfl rfl (by kernel_rfl) (by kernel_rfl) (by kernel_rfl) (fun _ _ _ h => h) (Or.inr ⟨by rfl, rfl⟩) hHeld ?_
            simp only [put_laws]
            refine take_at 10 61 undef rfl rfl (by kernel_rfl) (by kernel_rfl) (by kernel_rfl) (fun _ _ _ h => h) (Or.inr ⟨by rfl, rfl⟩) hHeld ?_
            simp only [put_laws]
            refine take_at 11 62 undef rfl rfl (by kernel_rfl) (by kernel_rfl) (by kernel_rfl) (fun _ _ _ h => h) (Or.inr ⟨by rfl, rfl⟩) hHeld ?_
            simp only [put_laws]
            refine take_at 12 63 undef rfl rfl (by kernel_rfl) (by kernel_rfl) (by kernel_rfl) (fun _ _ _ h => h) (Or.inr ⟨by rfl, rfl⟩) hHeld ?_
            simp only [put_laws]
            refine take_at 13 64 undef rfl rfl (by kernel_rfl) (by kernel_rfl) (by kernel_rfl) (fun _ _ _ h => h) (Or.inr ⟨by rfl, rfl⟩) hHeld ?_
            simp only [put_laws]
            refine take_at 14 65 undef rfl rfl (by kernel_rfl) (by kernel_rfl) (by kernel_rfl) (fun _ _ _ h => h) (Or.inr ⟨by rfl, rfl⟩) hHeld ?_
            simp only [put_laws]
            refine take_at 15 66 (.bool false) rfl rfl (by kernel_rfl) (by kernel_rfl) (by kernel_rfl) (fun _ _ _ h => h) (Or.inl ⟨by rfl, by intro W hW; clear hW; go_simp⟩) hHeld ?_
            simp only [put_laws]
            refine wpAnyH_done (by kernel_rfl) ?_ _
            refine NoPanic.normal ?_
            go_wp2
            exact ⟨⟨k + 1, by omega, by go_num, hHeld⟩, by simp [intOf]; omega⟩
        · have hdn : p.done.testBit k = false := by cases h : p.done.testBit k; rfl; exact (HSd.out.apart k hlv h).elim
          have HTk := Lib.hid (show Po.taken p (k : Nat) = true by rw [htk, hlv]; rfl)
          have HLv := Lib.hid hlv
          have HDn := Lib.hid hdn
          clear htk hlv hdn
          have HS1 := Lib.hid HS.out
          go_wp2_with fail
          refine (rhas_nat_val p.live k true _ HP.out.live hlt HLv.out).mono ?_
          rintro e w' ⟨rfl, rfl⟩
          go_wp2_with fail
          refine (rhas_nat_val p.done k false _ HP.out.done hlt HDn.out).mono ?_
          rintro e w' ⟨rfl, rfl⟩
          have HS2 := Lib.hid HS1.out
          clear HS HS1 c0 c3 c4
          go_wp2
          refine wp_region_noPanic ?_
          refine region_start (S := PSt p 38 w) 16 rfl (by kernel_rfl) (HS2.out.below (below_drew _)) (fun hHeld => ?_)
          refine take_at 0 51 (.int .i64 (k : Nat)) rfl rfl (by kernel_rfl) (by kernel_rfl) (by kernel_rfl) (fun _ _ _ h => h) (Or.inl ⟨by rfl, by intro W hW; clear hW; go_simp⟩) hHeld ?_
          simp only [put_laws]
          refine take_at 1 52 (.bool true) rfl rfl (by kernel_rfl) (by kernel_rfl) (by kernel_rfl) (fun _ _ _ h => h) (Or.inl ⟨by rfl, by intro W hW; clear hW; go_simp⟩) hHeld ?_
          simp only [put_laws]
          refine take_at 2 53 (.bool true) rfl rfl (by kernel_rfl) (by kernel_rfl) (by kernel_rfl) (fun _ _ _ h => h) (Or.inl ⟨by rfl, by intro W hW; clear hW; go_simp⟩) hHeld ?_
          simp only [put_laws]
          refine take_at 3 54 (.agg (poolA p)) rfl rfl (by kernel_rfl) (by kernel_rfl) (by kernel_rfl) (fun _ _ _ h => h) (yields_pool (by rfl) 38 (.tmp 1) rfl (w.heap.size) rfl 38 (p) _ (fun W h => h.po) Tryd.underlying38 rfl rpool_info) hHeld ?_
          simp only [put_laws]
          refine take_at 4 55 (.int .i64 (k : Nat)) rfl rfl (by kernel_rfl) (by kernel_rfl) (by kernel_rfl) (fun _ _ _ h => h) (Or.inl ⟨by rfl, by intro W hW; clear hW; go_simp⟩) hHeld ?_
          simp only [put_laws]
          refine wpAnyH_ready (rs := [5]) (by kernel_rfl) (by simp) ?_
          refine AllReadyH.cons rfl (fun K hK => ?_) AllReadyH.nil
          go_simp
          refine (rfree_pval p (k : Nat) true _ HP.out (by omega) (by omega) HTk.out).mono ?_
          rintro e w5 ⟨rfl, hb5⟩
          try go_simp
          have hHeld := hHeld.below hb5
          refine hK.out _ _ hHeld (fun hHeld => ?_)
          clear hK K
          refine take_at 6 57 (.bool false) rfl rfl (by kernel_rfl) (by kernel_rfl) (by kernel_rfl) (fun _ _ _ h => h) (Or.inl ⟨by rfl, by intro W hW; clear hW; go_simp⟩) hHeld ?_
          simp only [put_laws]
          refine take_at 7 58 (.bool false) rfl rfl (by kernel_rfl) (by kernel_rfl) (by kernel_rfl) (fun _ _ _ h => h) (Or.inl ⟨by rfl, by intro W hW; clear hW; go_simp⟩) hHeld ?_
          simp only [put_laws]
          refine take_at 8 59 undef rfl rfl (by kernel_rfl) (by kernel_rfl) (by kernel_rfl) (fun _ _ _ h => h) (Or.inr ⟨by rfl, rfl⟩) hHeld ?_
          simp only [put_laws]
          refine take_at 9 60 undef rfl rfl (by kernel_rfl) (by kernel_rfl) (by kernel_rfl) (fun _ _ _ h => h) (Or.inr ⟨by rfl, rfl⟩) hHeld ?_
          simp only [put_laws]
          refine take_at 10 61 undef rfl rfl (by kernel_rfl) (by kernel_rfl) (by kernel_rfl) (fun _ _ _ h => h) (Or.inr ⟨by rfl, rfl⟩) hHeld ?_
          simp only [put_laws]
          refine take_at 11 62 undef rfl rfl (by kernel_rfl) (by kernel_rfl) (by kernel_rfl) (fun _ _ _ h => h) (Or.inr ⟨by rfl, rfl⟩) hHeld ?_
          simp only [put_laws]
          refine take_at 12 63 undef rfl rfl (by kernel_rfl) (by kernel_rfl) (by kernel_rfl) (fun _ _ _ h => h) (Or.inr ⟨by rfl, rfl⟩) hHeld ?_
          simp only [put_laws]
          refine take_at 13 64 undef rfl rfl (by kernel_rfl) (by kernel_rfl) (by kernel_rfl) (fun _ _ _ h => h) (Or.inr ⟨by rfl, rfl⟩) hHeld ?_
          simp only [put_laws]
          refine take_at 14 65 undef rfl rfl (by kernel_rfl) (by kernel_rfl) (by kernel_rfl) (fun _ _ _ h => h) (Or.inr ⟨by rfl, rfl⟩) hHeld ?_
          simp only [put_laws]
          refine take_at 15 66 (.bool false) rfl rfl (by kernel_rfl) (by kernel_rfl) (by kernel_rfl) (fun _ _ _ h => h) (Or.inl ⟨by rfl, by intro W hW; clear hW; go_simp⟩) hHeld ?_
          simp only [put_laws]
          refine wpAnyH_done (by kernel_rfl) ?_ _
          refine NoPanic.normal ?_
          go_wp2
          exact ⟨⟨k + 1, by omega, by go_num, hHeld⟩, by simp [intOf]; omega⟩
      · have hge' : p.size ≤ (k : Int) := by omega
        have hnt : ¬ Po.tk p k := fun h => hge (HSd.out.inn k h)
        have hlv : p.live.testBit k = false := by cases h : p.live.testBit k; rfl; exact (hnt (.inl h)).elim
        have hdn : p.done.testBit k = false := by cases h : p.done.testBit k; rfl; exact (hnt (.inr h)).elim
        by_cases hk32 : k < 32
        · have hk32' : (k : Int) < 32 := by omega
          have HCut := Lib.hid (Po.cut_free HSd.out hk32 hnt)
          clear hnt
          have HTk := Lib.hid (show Po.taken p (k : Nat) = false by rw [htk, hlv, hdn]; rfl)
          have HLv := Lib.hid hlv
          clear htk hlv hdn
          go_wp2_with (refine load_pool rfl 38 (.tmp 1) rfl w.heap.size p 38 rfl _ HS.out.po Tryd.underlying38 rfl rpool_info ?_)
          refine (rfree_pval p (k : Nat) false _ HP.out (by omega) (by omega) HTk.out).mono ?_
          rintro e w2 ⟨rfl, hb2⟩
          have HS1 := Lib.hid (HS.out.below hb2)
          have d3 := HS1.out.po.live_
          clear hb2 c0 c3 c4
          go_wp2_with fail
          refine (rhas_nat_val p.live k false _ HP.out.live hlt HLv.out).mono ?_
          rintro e w' ⟨rfl, rfl⟩
          have HS2 := Lib.hid HS1.out
          clear HS HS1 d3
          go_wp2
          refine wp_region_noPanic ?_
          refine region_start (S := PSt p 38 w) 16 rfl (by kernel_rfl) (HS2.out.below (below_drew _)) (fun hHeld => ?_)
          refine take_at 0 51 (.int .i64 (k : Nat)) rfl rfl (by kernel_rfl) (by kernel_rfl) (by kernel_rfl) (fun _ _ _ h => h) (Or.inl ⟨by rfl, by intro W hW; clear hW; go_simp⟩) hHeld ?_
          simp only [put_laws]
          refine take_at 1 52 (.bool true) rfl rfl (by kernel_rfl) (by kernel_rfl) (by kernel_rfl) (fun _ _ _ h => h) (Or.inl ⟨by rfl, by intro W hW; clear hW; go_simp⟩) hHeld ?_
          simp only [put_laws]
          refine take_at 2 53 (.bool true) rfl rfl (by kernel_rfl) (by kernel_rfl) (by kernel_rfl) (fun _ _ _ h => h) (Or.inl ⟨by rfl, by intro W hW; clear hW; go_simp⟩) hHeld ?_
          simp only [put_laws]
          refine take_at 3 54 (.agg (poolA p)) rfl rfl (by kernel_rfl) (by kernel_rfl) (by kernel_rfl) (fun _ _ _ h => h) (yields_pool (by rfl) 38 (.tmp 1) rfl (w.heap.size) rfl 38 (p) _ (fun W h => h.po) Tryd.underlying38 rfl rpool_info) hHeld ?_
          simp only [put_laws]
          refine take_at 4 55 (.int .i64 (k : Nat)) rfl rfl (by kernel_rfl) (by kernel_rfl) (by kernel_rfl) (fun _ _ _ h => h) (Or.inl ⟨by rfl, by intro W hW; clear hW; go_simp⟩) hHeld ?_
          simp only [put_laws]
          refine wpAnyH_ready (rs := [5]) (by kernel_rfl) (by simp) ?_
          refine AllReadyH.cons rfl (fun K hK => ?_) AllReadyH.nil
          go_simp
          refine (rfree_pval p (k : Nat) false _ HP.out (by omega) (by omega) HTk.out).mono ?_
          rintro e w5 ⟨rfl, hb5⟩
          try go_simp
          have hHeld := hHeld.below hb5
          refine hK.out _ _ hHeld (fun hHeld => ?_)
          clear hK K
          refine take_at 6 57 (.bool true) rfl rfl (by kernel_rfl) (by kernel_rfl) (by kernel_rfl) (fun _ _ _ h => h) (Or.inl ⟨by rfl, by intro W hW; clear hW; go_simp⟩) hHeld ?_
          simp only [put_laws]
          refine take_at 7 58 (.bool true) rfl rfl (by kernel_rfl) (by kernel_rfl) (by kernel_rfl) (fun _ _ _ h => h) (Or.inl ⟨by rfl, by intro W hW; clear hW; go_simp⟩) hHeld ?_
          simp only [put_laws]
          refine take_at 8 59 (.pointer (some ⟨w.heap.size, 1, none⟩)) rfl rfl (by kernel_rfl) (by kernel_rfl) (by kernel_rfl) (fun _ _ _ h => h) (Or.inl ⟨by rfl, by intro W hW; clear hW; go_simp; try (intro h; omega)⟩) hHeld ?_
          simp only [put_laws]
          refine take_at 9 60 (.agg (matA p.m)) rfl rfl (by kernel_rfl) (by kernel_rfl) (by kernel_rfl) (fun _ _ _ h => h) (yields_mid (by rfl) 35 (.tmp 59) rfl (w.heap.size) 1 rfl (matA p.m) _ (fun W h => h.po.range_m) Tryd.underlying35 rfl (rmatInfo _)) hHeld ?_
          simp only [put_laws]
          refine take_at 10 61 (.int .i64 (k : Nat)) rfl rfl (by kernel_rfl) (by kernel_rfl) (by kernel_rfl) (fun _ _ _ h => h) (Or.inl ⟨by rfl, by intro W hW; clear hW; go_simp⟩) hHeld ?_
          simp only [put_laws]
          refine take_at 12 63 (.pointer (some ⟨w.heap.size, 1, none⟩)) rfl rfl (by kernel_rfl) (by kernel_rfl) (by kernel_rfl) (fun _ _ _ h => h) (Or.inl ⟨by rfl, by intro W hW; clear hW; go_simp; try (intro h; omega)⟩) hHeld ?_
          simp only [put_laws]
          refine take_at 13 64 (.agg (matA p.m)) rfl rfl (by kernel_rfl) (by kernel_rfl) (by kernel_rfl) (fun _ _ _ h => h) (yields_mid (by rfl) 35 (.tmp 63) rfl (w.heap.size) 1 rfl (matA p.m) _ (fun W h => h.po.range_m) Tryd.underlying35 rfl (rmatInfo _)) hHeld ?_
          simp only [put_laws]
          refine wpAnyH_ready (rs := [11]) (by kernel_rfl) (by simp) ?_
          refine AllReadyH.cons rfl (fun K hK => ?_) AllReadyH.nil
          go_simp
          refine (rcut_val p.m (p.m) k _ HP.out.m hk32 HCut.out).mono ?_
          rintro e w6 ⟨rfl, hb6⟩
          try go_simp
          have hHeld := hHeld.below hb6
          refine hK.out _ _ hHeld (fun hHeld => ?_)
          clear hK K
          refine take_at 14 65 (.bool false) rfl rfl (by kernel_rfl) (by kernel_rfl) (by kernel_rfl) (fun _ _ _ h => h) (yields_ne (by rfl) 35 35 (.tmp 62) (.tmp 64) rfl (matA p.m) rfl rfl guard_rmat (eq_rmat p.m p.m true (sameM_self _))) hHeld ?_
          simp only [put_laws]
          refine take_at 15 66 (.bool false) rfl rfl (by kernel_rfl) (by kernel_rfl) (by kernel_rfl) (fun _ _ _ h => h) (Or.inl ⟨by rfl, by intro W hW; clear hW; go_simp⟩) hHeld ?_
          simp only [put_laws]
          refine wpAnyH_done (by kernel_rfl) ?_ _
          refine NoPanic.normal ?_
          go_wp2
          exact ⟨⟨k + 1, by omega, by go_num, hHeld⟩, by simp [intOf]; omega⟩
        · have hk32' : ¬ (k : Int) < 32 := by omega
          clear hnt
          have HTk := Lib.hid (show Po.taken p (k : Nat) = false by rw [htk, hlv, hdn]; rfl)
          have HLv := Lib.hid hlv
          clear htk hlv hdn
          go_wp2_with (refine load_pool rfl 38 (.tmp 1) rfl w.heap.size p 38 rfl _ HS.out.po Tryd.underlying38 rfl rpool_info ?_)
          refine (rfree_pval p (k : Nat) false _ HP.out (by omega) (by omega) HTk.out).mono ?_
          rintro e w2 ⟨rfl, hb2⟩
          have HS1 := Lib.hid (HS.out.below hb2)
          have d3 := HS1.out.po.live_
          clear hb2 c0 c3 c4
          go_wp2_with fail
          refine (rhas_nat_val p.live k false _ HP.out.live hlt HLv.out).mono ?_
          rintro e w' ⟨rfl, rfl⟩
          have HS2 := Lib.hid HS1.out
          clear HS HS1 d3
          go_wp2
          refine wp_region_noPanic ?_
          refine region_start (S := PSt p 38 w) 16 rfl (by kernel_rfl) (HS2.out.below (below_drew _)) (fun hHeld => ?_)
          refine take_at 0 51 (.int .i64 (k : Nat)) rfl rfl (by kernel_rfl) (by kernel_rfl) (by kernel_rfl) (fun _ _ _ h => h) (Or.inl ⟨by rfl, by intro W hW; clear hW; go_simp⟩) hHeld ?_
          simp only [put_laws]
          refine take_at 1 52 (.bool false) rfl rfl (by kernel_rfl) (by kernel_rfl) (by kernel_rfl) (fun _ _ _ h => h) (Or.inl ⟨by rfl, by intro W hW; clear hW; go_simp⟩) hHeld ?_
          simp only [put_laws]
          refine take_at 2 53 (.bool false) rfl rfl (by kernel_rfl) (by kernel_rfl) (by kernel_rfl) (fun _ _ _ h => h) (Or.inl ⟨by rfl, by intro W hW; clear hW; go_simp⟩) hHeld ?_
          simp only [put_laws]
          refine take_at 3 54 undef rfl rfl (by kernel_rfl) (by kernel_rfl) (by kernel_rfl) (fun _ _ _ h => h) (Or.inr ⟨by rfl, rfl⟩) hHeld ?_
          simp only [put_laws]
          refine take_at 4 55 undef rfl rfl (by kernel_rfl) (by kernel_rfl) (by kernel_rfl) (fun _ _ _ h => h) (Or.inr ⟨by rfl, rfl⟩) hHeld ?_
          simp only [put_laws]
          refine take_at 5 56 undef rfl rfl (by kernel_rfl) (by kernel_rfl) (by kernel_rfl) (fun _ _ _ h => h) (Or.inr ⟨by rfl, rfl⟩) hHeld ?_
          simp only [put_laws]
          refine take_at 6 57 (.bool false) rfl rfl (by kernel_rfl) (by kernel_rfl) (by kernel_rfl) (fun _ _ _ h => h) (Or.inl ⟨by rfl, by intro W hW; clear hW; go_simp⟩) hHeld ?_
          simp only [put_laws]
          refine take_at 7 58 (.bool false) rfl rfl (by kernel_rfl) (by kernel_rfl) (by kernel_rfl) (fun _ _ _ h => h) (Or.inl ⟨by rfl, by intro W hW; clear hW; go_simp⟩) hHeld ?_
          simp only [put_laws]
          refine take_at 8 59 undef rfl rfl (by kernel_rfl) (by kernel_rfl) (by kernel_rfl) (fun _ _ _ h => h) (Or.inr ⟨by rfl, rfl⟩) hHeld ?_
          simp only [put_laws]
          refine take_at 9 60 undef rfl rfl (by kernel_rfl) (by kernel_rfl) (by kernel_rfl) (fun _ _ _ h => h) (Or.inr ⟨by rfl, rfl⟩) hHeld ?_
          simp only [put_laws]
          refine take_at 10 61 undef rfl rfl (by kernel_rfl) (by kernel_rfl) (by kernel_rfl) (fun _ _ _ h => h) (Or.inr ⟨by rfl, rfl⟩) hHeld ?_
          simp only [put_laws]
          refine take_at 11 62 undef rfl rfl (by kernel_rfl) (by kernel_rfl) (by kernel_rfl) (fun _ _ _ h => h) (Or.inr ⟨by rfl, rfl⟩) hHeld ?_
          simp only [put_laws]
          refine take_at 12 63 undef rfl rfl (by kernel_rfl) (by kernel_rfl) (by kernel_rfl) (fun _ _ _ h => h) (Or.inr ⟨by rfl, rfl⟩) hHeld ?_
          simp only [put_laws]
          refine take_at 13 64 undef rfl rfl (by kernel_rfl) (by kernel_rfl) (by kernel_rfl) (fun _ _ _ h => h) (Or.inr ⟨by rfl, rfl⟩) hHeld ?_
          simp only [put_laws]
          refine take_at 14 65 undef rfl rfl (by kernel_rfl) (by kernel_rfl) (by kernel_rfl) (fun _ _ _ h => h) (Or.inr ⟨by rfl, rfl⟩) hHeld ?_
          simp only [put_laws]
          refine take_at 15 66 (.bool false) rfl rfl (by kernel_rfl) (by kernel_rfl) (by kernel_rfl) (fun _ _ _ h => h) (Or.inl ⟨by rfl, by intro W hW; clear hW; go_simp⟩) hHeld ?_
          simp only [put_laws]
          refine wpAnyH_done (by kernel_rfl) ?_ _
          refine NoPanic.normal ?_
          go_wp2
          exact ⟨⟨k + 1, by omega, by go_num, hHeld⟩, by simp [intOf]; omega⟩
    · obtain rfl : k = 64 := by omega
      go_wp2
      go_ret
      exact ⟨rfl, HS.out.bel⟩
end Go.Proofs.YtakoceablbgchaaDoor
