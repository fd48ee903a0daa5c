/-
  Contracts of lacks, denies, the library's IndexFunc and ContainsFunc at these, and of do.
-/
import Derived.Test.YtfdfiiocccafkaaGreatDoorRepBase
import Derived.Test.YtfdfiiocccafkaaGreatDoorAnyZ
import Derived.Deep.QuietTactic
import Derived.BigQuiet
import Derived.Deep.RegionHeld3
import Derived.Deep.DeepCutAuto
import Derived.Laws.StructEq
namespace Go.Proofs.YtfdfiiocccafkaaGreatDoor.Rp
open Go.RowKit Tx Az
set_option maxHeartbeats 1000000 in
theorem lacks_any (A : Option Addr) (c : Nat) (S : List Vp) (s : Sp) (w : World) :
    Calls Tryz.prog 77 #[.slice A S.length c, .agg #[.int .i64 s.x, .int .i64 s.k, .int .i64 s.n, .bool s.wr]] w fun e w' => e = .returned (.bool (lacks S s)) ∧ Below w.heap.size w w' := by
  unfold lacks has
  by_cases h0 : s.x < 0
  · have d0 : decide (0 ≤ s.x) = false := by simpa using h0
    rw [d0]
    go_enter Tryz.func77, Tryz.ntmps77
    go_wp2
    go_ret
    exact ⟨rfl, below_new _ _⟩
  · have d0 : decide (0 ≤ s.x) = true := by simpa using h0
    rw [d0]
    by_cases h1 : s.x < (S.length : Int)
    · have d1 : decide (s.x < (S.length : Int)) = true := by simpa using h1
      have d2 : decide (s.x ≥ (S.length : Int)) = false := by simpa using h1
      rw [d1]
      go_enter Tryz.func77, Tryz.ntmps77
      go_wp2
      go_ret
      exact ⟨rfl, below_new _ _⟩
    · have d1 : decide (s.x < (S.length : Int)) = false := by simpa using h1
      have d2 : decide (s.x ≥ (S.length : Int)) = true := by simpa using h1
      rw [d1]
      go_enter Tryz.func77, Tryz.ntmps77
      go_wp2
      go_ret
      exact ⟨rfl, below_new _ _⟩
/-- the box of a step, and what lay there. -/
structure Den (b : Nat) (s : Sp) (w W : World) : Prop where
  c0 : W.cell? ⟨b, 0, none⟩ = some (.int .i64 s.x)
  c1 : W.cell? ⟨b, 1, none⟩ = some (.int .i64 s.k)
  c2 : W.cell? ⟨b, 2, none⟩ = some (.int .i64 s.n)
  c3 : W.cell? ⟨b, 3, none⟩ = some (.bool s.wr)
  lt : b < W.heap.size
  bel : Below w.heap.size w W
theorem Den.below {b : Nat} {s : Sp} {w W W' : World} (h : Den b s w W) (hb : Below W.heap.size W W') : Den b s w W' :=
  ⟨(hb.cell (p := ⟨b, 0, none⟩) h.lt).trans h.c0, (hb.cell (p := ⟨b, 1, none⟩) h.lt).trans h.c1, (hb.cell (p := ⟨b, 2, none⟩) h.lt).trans h.c2, (hb.cell (p := ⟨b, 3, none⟩) h.lt).trans h.c3, Nat.lt_of_lt_of_le h.lt hb.size, h.bel.trans (hb.mono h.bel.size)⟩
theorem below_drew1 (B : Nat) (w : World) : Below B w w.drew := ⟨rfl, rfl, rfl, Nat.le_refl _, fun _ _ => rfl⟩
theorem Den.drew {b : Nat} {s : Sp} {w W : World} (h : Den b s w W) : Den b s w W.drew := h.below (below_drew1 _ _)
theorem den_new (s : Sp) (w : World) : Den w.heap.size s w (w.alloc (.cells (stepA s) 76)) := by
  have h := stepAt_new w s 76
  exact ⟨h.c0, h.c1, h.c2, h.c3, by simp, below_new _ _⟩
set_option maxHeartbeats 2000000 in
theorem denies_any (A : Option Addr) (c : Nat) (S : List Vp) (s : Sp) (w : World) (hA : Rn.At encV w A S) :
    Calls Tryz.prog 76 #[.slice A S.length c, .agg #[.int .i64 s.x, .int .i64 s.k, .int .i64 s.n, .bool s.wr]] w fun e w' => e = .returned (.bool (denies S s)) ∧ Below w.heap.size w w' := by
  have HA := Lib.hid hA
  clear hA
  have HD := Lib.hid (den_new s w)
  unfold stepA at HD
  unfold denies
  cases hl : lacks S s with
  | true =>
    have HL := Lib.hid hl
    clear hl
    go_enter Tryz.func76, Tryz.ntmps76
    go_wp2
    generalize w.alloc (.cells #[.int .i64 s.x, .int .i64 s.k, .int .i64 s.n, .bool s.wr] 76) = W1 at HD ⊢
    refine wp_region_noPanic ?_
    refine region_z 14 (fun W => Den w.heap.size s w W) 14 1000 rfl (by kernel_rfl) (by exact HD.out.drew) (fun hHeld => ?_)
    refine take_z 0 5 (.slice A S.length c) rfl rfl (by kernel_rfl) (by kernel_rfl) (by kernel_rfl) (by kernel_rfl) (fun _ _ _ h => h) (Or.inl ⟨by rfl, by intro W hW; clear hW; go_simp⟩) hHeld ?_
    simp only [put_laws]
    refine take_z 1 6 (.agg (#[.int .i64 s.x, .int .i64 s.k, .int .i64 s.n, .bool s.wr])) rfl rfl (by kernel_rfl) (by kernel_rfl) (by kernel_rfl) (by kernel_rfl) (fun _ _ _ h => h) (Or.inl ⟨by rfl, by intro W hW; have c0 := hW.c0; have c1 := hW.c1; have c2 := hW.c2; have c3 := hW.c3; clear hW; go_simp⟩) hHeld ?_
    simp only [put_laws]
    refine anyZ_ready (rs := [2]) (by kernel_rfl) (by simp) ?_
    refine AllZ.cons rfl (fun K hK => ?_) AllZ.nil
    go_simp
    refine (lacks_any A c S s _).mono ?_
    rintro e w2 ⟨rfl, hb⟩
    try go_simp
    have hPrev := hHeld
    have hHeld := hHeld.below hb
    rw [HL.out]
    clear hPrev
    refine hK.out _ _ hHeld (fun hHeld => ?_)
    clear hK K
    refine take_z 3 8 (.bool true) rfl rfl (by kernel_rfl) (by kernel_rfl) (by kernel_rfl) (by kernel_rfl) (fun _ _ _ h => h) (Or.inl ⟨by rfl, by intro W hW; clear hW; go_simp⟩) hHeld ?_
    simp only [put_laws]
    refine take_z 4 9 undef rfl rfl (by kernel_rfl) (by kernel_rfl) (by kernel_rfl) (by kernel_rfl) (fun _ _ _ h => h) (Or.inr ⟨by rfl, rfl⟩) hHeld ?_
    simp only [put_laws]
    refine take_z 5 10 undef rfl rfl (by kernel_rfl) (by kernel_rfl) (by kernel_rfl) (by kernel_rfl) (fun _ _ _ h => h) (Or.inr ⟨by rfl, rfl⟩) hHeld ?_
    simp only [put_laws]
    refine take_z 6 11 undef rfl rfl (by kernel_rfl) (by kernel_rfl) (by kernel_rfl) (by kernel_rfl) (fun _ _ _ h => h) (Or.inr ⟨by rfl, rfl⟩) hHeld ?_
    simp only [put_laws]
    refine take_z 7 12 undef rfl rfl (by kernel_rfl) (by kernel_rfl) (by kernel_rfl) (by kernel_rfl) (fun _ _ _ h => h) (Or.inr ⟨by rfl, rfl⟩) hHeld ?_
    simp only [put_laws]
    refine take_z 8 13 undef rfl rfl (by kernel_rfl) (by kernel_rfl) (by kernel_rfl) (by kernel_rfl) (fun _ _ _ h => h) (Or.inr ⟨by rfl, rfl⟩) hHeld ?_
    simp only [put_laws]
    refine take_z 9 14 undef rfl rfl (by kernel_rfl) (by kernel_rfl) (by kernel_rfl) (by kernel_rfl) (fun _ _ _ h => h) (Or.inr ⟨by rfl, rfl⟩) hHeld ?_
    simp only [put_laws]
    refine take_z 10 15 undef rfl rfl (by kernel_rfl) (by kernel_rfl) (by kernel_rfl) (by kernel_rfl) (fun _ _ _ h => h) (Or.inr ⟨by rfl, rfl⟩) hHeld ?_
    simp only [put_laws]
    refine take_z 11 16 undef rfl rfl (by kernel_rfl) (by kernel_rfl) (by kernel_rfl) (by kernel_rfl) (fun _ _ _ h => h) (Or.inr ⟨by rfl, rfl⟩) hHeld ?_
    simp only [put_laws]
    refine take_z 12 17 (.bool true) rfl rfl (by kernel_rfl) (by kernel_rfl) (by kernel_rfl) (by kernel_rfl) (fun _ _ _ h => h) (Or.inl ⟨by rfl, by intro W hW; clear hW; go_simp⟩) hHeld ?_
    simp only [put_laws]
    refine take_z 13 4 (.bool true) rfl rfl (by kernel_rfl) (by kernel_rfl) (by kernel_rfl) (by kernel_rfl) (fun _ _ _ h => h) (Or.inl ⟨by rfl, by intro W hW; clear hW; go_simp⟩) hHeld ?_
    simp only [put_laws]
    refine anyZ_done (by kernel_rfl) ?_ _
    refine NoPanic.normal ?_
    go_wp2
    go_ret
    exact ⟨rfl, hHeld.bel⟩
  | false =>
    have HL := Lib.hid hl
    have hh : has S s.x = true := by simpa [lacks] using hl
    obtain ⟨h0, h1⟩ := (has_iff S s.x).1 hh
    obtain ⟨j, hj⟩ := Int.eq_ofNat_of_zero_le h0
    have hjl : j < S.length := by omega
    obtain ⟨v, hv⟩ : ∃ v, S[j]? = some v := ⟨_, List.getElem?_eq_getElem hjl⟩
    obtain ⟨ad, rfl, hv0, hv1⟩ := at2 HA.out hv
    have hat : at_ S s.x = some v := by unfold at_; rw [if_pos h0, hj]; exact hv
    rw [hat]
    have HX := Lib.hid hj
    have HX0 := Lib.hid h0
    have HX1 := Lib.hid h1
    have HX2 := Lib.hid hjl
    have hvl : ∀ W, Den w.heap.size s w W → W.cell? (ad.add (j * 2)) = some (.int .i64 v.1) ∧ W.cell? ⟨(ad.add (j * 2)).block, (ad.add (j * 2)).off + 1, none⟩ = some (.int .i64 v.2) := fun W hW =>
      ⟨(hW.bel.cell (Rn.cell_lt hv0)).trans hv0, (hW.bel.cell (Rn.cell_lt hv1)).trans hv1⟩
    have HVL := Lib.hid hvl
    clear hvl hl hh h0 h1 hj hjl hv hv0 hv1 hat
    by_cases he : v = (s.k, s.n)
    · have hr : decide (some v ≠ some (s.k, s.n)) = false := by simp [he]
      rw [hr]
      have HE := Lib.hid (show v.1 = s.k ∧ v.2 = s.n by rw [he]; exact ⟨rfl, rfl⟩)
      clear he hr
      go_enter Tryz.func76, Tryz.ntmps76
      go_wp2
      generalize w.alloc (.cells #[.int .i64 s.x, .int .i64 s.k, .int .i64 s.n, .bool s.wr] 76) = W1 at HD ⊢
      refine wp_region_noPanic ?_
      refine region_z 14 (fun W => Den w.heap.size s w W) 14 1000 rfl (by kernel_rfl) (by exact HD.out.drew) (fun hHeld => ?_)
      refine take_z 0 5 (.slice (some ad) S.length c) rfl rfl (by kernel_rfl) (by kernel_rfl) (by kernel_rfl) (by kernel_rfl) (fun _ _ _ h => h) (Or.inl ⟨by rfl, by intro W hW; clear hW; go_simp⟩) hHeld ?_
      simp only [put_laws]
      refine take_z 1 6 (.agg (#[.int .i64 s.x, .int .i64 s.k, .int .i64 s.n, .bool s.wr])) rfl rfl (by kernel_rfl) (by kernel_rfl) (by kernel_rfl) (by kernel_rfl) (fun _ _ _ h => h) (Or.inl ⟨by rfl, by intro W hW; have c0 := hW.c0; have c1 := hW.c1; have c2 := hW.c2; have c3 := hW.c3; clear hW; go_simp⟩) hHeld ?_
      simp only [put_laws]
      refine anyZ_ready (rs := [2]) (by kernel_rfl) (by simp) ?_
      refine AllZ.cons rfl (fun K hK => ?_) AllZ.nil
      go_simp
      refine (lacks_any (some ad) c S s _).mono ?_
      rintro e w2 ⟨rfl, hb⟩
      try go_simp
      have hPrev := hHeld
      have hHeld := hHeld.below hb
      rw [HL.out]
      clear hPrev
      refine hK.out _ _ hHeld (fun hHeld => ?_)
      clear hK K
      refine take_z 3 8 (.bool false) rfl rfl (by kernel_rfl) (by kernel_rfl) (by kernel_rfl) (by kernel_rfl) (fun _ _ _ h => h) (Or.inl ⟨by rfl, by intro W hW; clear hW; go_simp⟩) hHeld ?_
      simp only [put_laws]
      refine take_z 4 9 (.slice (some ad) S.length c) rfl rfl (by kernel_rfl) (by kernel_rfl) (by kernel_rfl) (by kernel_rfl) (fun _ _ _ h => h) (Or.inl ⟨by rfl, by intro W hW; clear hW; go_simp⟩) hHeld ?_
      simp only [put_laws]
      refine take_z 5 10 (.pointer (some ⟨w.heap.size, 0, none⟩)) rfl rfl (by kernel_rfl) (by kernel_rfl) (by kernel_rfl) (by kernel_rfl) (fun _ _ _ h => h) (Or.inl ⟨by rfl, by intro W hW; clear hW; go_simp⟩) hHeld ?_
      simp only [put_laws]
      refine take_z 6 11 (.int .i64 s.x) rfl rfl (by kernel_rfl) (by kernel_rfl) (by kernel_rfl) (by kernel_rfl) (fun _ _ _ h => h) (Or.inl ⟨by rfl, by intro W hW; have c0 := hW.c0; clear hW; go_simp⟩) hHeld ?_
      simp only [put_laws]
      refine take_z 7 12 (.pointer (some (ad.add (j * 2)))) rfl rfl (by kernel_rfl) (by kernel_rfl) (by kernel_rfl) (by kernel_rfl) (fun _ _ _ h => h) (Or.inl ⟨by rfl, by intro W hW; have hx := HX.out; have g0 := HX0.out; have g1 := HX1.out; have g2 := HX2.out; clear hW; go_simp⟩) hHeld ?_
      simp only [put_laws]
      refine take_z 8 13 (.agg (#[.int .i64 v.1, .int .i64 v.2])) rfl rfl (by kernel_rfl) (by kernel_rfl) (by kernel_rfl) (by kernel_rfl) (fun _ _ _ h => h) (Or.inl ⟨by rfl, by intro W hW; have hv := HVL.out W hW; have v0 := hv.1; have v1 := hv.2; clear hW; go_simp⟩) hHeld ?_
      simp only [put_laws]
      refine take_z 9 14 (.pointer (some ⟨w.heap.size, 1, none⟩)) rfl rfl (by kernel_rfl) (by kernel_rfl) (by kernel_rfl) (by kernel_rfl) (fun _ _ _ h => h) (Or.inl ⟨by rfl, by intro W hW; clear hW; go_simp⟩) hHeld ?_
      simp only [put_laws]
      refine take_z 10 15 (.agg (#[.int .i64 s.k, .int .i64 s.n])) rfl rfl (by kernel_rfl) (by kernel_rfl) (by kernel_rfl) (by kernel_rfl) (fun _ _ _ h => h) (Or.inl ⟨by rfl, by intro W hW; have c1 := hW.c1; have c2 := hW.c2; clear hW; go_simp⟩) hHeld ?_
      simp only [put_laws]
      refine take_z 11 16 (.bool false) rfl rfl (by kernel_rfl) (by kernel_rfl) (by kernel_rfl) (by kernel_rfl) (fun _ _ _ h => h) (Or.inl ⟨by rfl, by intro W hW; have e0 := HE.out; clear hW; go_simp⟩) hHeld ?_
      simp only [put_laws]
      refine take_z 12 17 (.bool false) rfl rfl (by kernel_rfl) (by kernel_rfl) (by kernel_rfl) (by kernel_rfl) (fun _ _ _ h => h) (Or.inl ⟨by rfl, by intro W hW; clear hW; go_simp⟩) hHeld ?_
      simp only [put_laws]
      refine take_z 13 4 (.bool false) rfl rfl (by kernel_rfl) (by kernel_rfl) (by kernel_rfl) (by kernel_rfl) (fun _ _ _ h => h) (Or.inl ⟨by rfl, by intro W hW; clear hW; go_simp⟩) hHeld ?_
      simp only [put_laws]
      refine anyZ_done (by kernel_rfl) ?_ _
      refine NoPanic.normal ?_
      go_wp2
      go_ret
      exact ⟨rfl, hHeld.bel⟩
    · have hr : decide (some v ≠ some (s.k, s.n)) = true := by simp [he]
      rw [hr]
      by_cases h1 : v.1 = s.k
      · have HE := Lib.hid (show v.1 = s.k ∧ ¬ v.2 = s.n from ⟨h1, fun h2 => he (by obtain ⟨a, b⟩ := v; simp at h1 h2; rw [h1, h2])⟩)
        clear he hr h1
        go_enter Tryz.func76, Tryz.ntmps76
        go_wp2
        generalize w.alloc (.cells #[.int .i64 s.x, .int .i64 s.k, .int .i64 s.n, .bool s.wr] 76) = W1 at HD ⊢
        refine wp_region_noPanic ?_
        refine region_z 14 (fun W => Den w.heap.size s w W) 14 1000 rfl (by kernel_rfl) (by exact HD.out.drew) (fun hHeld => ?_)
        refine take_z 0 5 (.slice (some ad) S.length c) rfl rfl (by kernel_rfl) (by kernel_rfl) (by kernel_rfl) (by kernel_rfl) (fun _ _ _ h => h) (Or.inl ⟨by rfl, by intro W hW; clear hW; go_simp⟩) hHeld ?_
        simp only [put_laws]
        refine take_z 1 6 (.agg (#[.int .i64 s.x, .int .i64 s.k, .int .i64 s.n, .bool s.wr])) rfl rfl (by kernel_rfl) (by kernel_rfl) (by kernel_rfl) (by kernel_rfl) (fun _ _ _ h => h) (Or.inl ⟨by rfl, by intro W hW; have c0 := hW.c0; have c1 := hW.c1; have c2 := hW.c2; have c3 := hW.c3; clear hW; go_simp⟩) hHeld ?_
        simp only [put_laws]
        refine anyZ_ready (rs := [2]) (by kernel_rfl) (by simp) ?_
        refine AllZ.cons rfl (fun K hK => ?_) AllZ.nil
        go_simp
        refine (lacks_any (some ad) c S s _).mono ?_
        rintro e w2 ⟨rfl, hb⟩
        try go_simp
        have hPrev := hHeld
        have hHeld := hHeld.below hb
        rw [HL.out]
        clear hPrev
        refine hK.out _ _ hHeld (fun hHeld => ?_)
        clear hK K
        refine take_z 3 8 (.bool false) rfl rfl (by kernel_rfl) (by kernel_rfl) (by kernel_rfl) (by kernel_rfl) (fun _ _ _ h => h) (Or.inl ⟨by rfl, by intro W hW; clear hW; go_simp⟩) hHeld ?_
        simp only [put_laws]
        refine take_z 4 9 (.slice (some ad) S.length c) rfl rfl (by kernel_rfl) (by kernel_rfl) (by kernel_rfl) (by kernel_rfl) (fun _ _ _ h => h) (Or.inl ⟨by rfl, by intro W hW; clear hW; go_simp⟩) hHeld ?_
        simp only [put_laws]
        refine take_z 5 10 (.pointer (some ⟨w.heap.size, 0, none⟩)) rfl rfl (by kernel_rfl) (by kernel_rfl) (by kernel_rfl) (by kernel_rfl) (fun _ _ _ h => h) (Or.inl ⟨by rfl, by intro W hW; clear hW; go_simp⟩) hHeld ?_
        simp only [put_laws]
        refine take_z 6 11 (.int .i64 s.x) rfl rfl (by kernel_rfl) (by kernel_rfl) (by kernel_rfl) (by kernel_rfl) (fun _ _ _ h => h) (Or.inl ⟨by rfl, by intro W hW; have c0 := hW.c0; clear hW; go_simp⟩) hHeld ?_
        simp only [put_laws]
        refine take_z 7 12 (.pointer (some (ad.add (j * 2)))) rfl rfl (by kernel_rfl) (by kernel_rfl) (by kernel_rfl) (by kernel_rfl) (fun _ _ _ h => h) (Or.inl ⟨by rfl, by intro W hW; have hx := HX.out; have g0 := HX0.out; have g1 := HX1.out; have g2 := HX2.out; clear hW; go_simp⟩) hHeld ?_
        simp only [put_laws]
        refine take_z 8 13 (.agg (#[.int .i64 v.1, .int .i64 v.2])) rfl rfl (by kernel_rfl) (by kernel_rfl) (by kernel_rfl) (by kernel_rfl) (fun _ _ _ h => h) (Or.inl ⟨by rfl, by intro W hW; have hv := HVL.out W hW; have v0 := hv.1; have v1 := hv.2; clear hW; go_simp⟩) hHeld ?_
        simp only [put_laws]
        refine take_z 9 14 (.pointer (some ⟨w.heap.size, 1, none⟩)) rfl rfl (by kernel_rfl) (by kernel_rfl) (by kernel_rfl) (by kernel_rfl) (fun _ _ _ h => h) (Or.inl ⟨by rfl, by intro W hW; clear hW; go_simp⟩) hHeld ?_
        simp only [put_laws]
        refine take_z 10 15 (.agg (#[.int .i64 s.k, .int .i64 s.n])) rfl rfl (by kernel_rfl) (by kernel_rfl) (by kernel_rfl) (by kernel_rfl) (fun _ _ _ h => h) (Or.inl ⟨by rfl, by intro W hW; have c1 := hW.c1; have c2 := hW.c2; clear hW; go_simp⟩) hHeld ?_
        simp only [put_laws]
        refine take_z 11 16 (.bool true) rfl rfl (by kernel_rfl) (by kernel_rfl) (by kernel_rfl) (by kernel_rfl) (fun _ _ _ h => h) (Or.inl ⟨by rfl, by intro W hW; have e0 := HE.out; have e1 := e0.1; have e2 := e0.2; clear hW; go_simp⟩) hHeld ?_
        simp only [put_laws]
        refine take_z 12 17 (.bool true) rfl rfl (by kernel_rfl) (by kernel_rfl) (by kernel_rfl) (by kernel_rfl) (fun _ _ _ h => h) (Or.inl ⟨by rfl, by intro W hW; clear hW; go_simp⟩) hHeld ?_
        simp only [put_laws]
        refine take_z 13 4 (.bool true) rfl rfl (by kernel_rfl) (by kernel_rfl) (by kernel_rfl) (by kernel_rfl) (fun _ _ _ h => h) (Or.inl ⟨by rfl, by intro W hW; clear hW; go_simp⟩) hHeld ?_
        simp only [put_laws]
        refine anyZ_done (by kernel_rfl) ?_ _
        refine NoPanic.normal ?_
        go_wp2
        go_ret
        exact ⟨rfl, hHeld.bel⟩
      · have HE := Lib.hid h1
        clear he hr h1
        go_enter Tryz.func76, Tryz.ntmps76
        go_wp2
        generalize w.alloc (.cells #[.int .i64 s.x, .int .i64 s.k, .int .i64 s.n, .bool s.wr] 76) = W1 at HD ⊢
        refine wp_region_noPanic ?_
        refine region_z 14 (fun W => Den w.heap.size s w W) 14 1000 rfl (by kernel_rfl) (by exact HD.out.drew) (fun hHeld => ?_)
        refine take_z 0 5 (.slice (some ad) S.length c) rfl rfl (by kernel_rfl) (by kernel_rfl) (by kernel_rfl) (by kernel_rfl) (fun _ _ _ h => h) (Or.inl ⟨by rfl, by intro W hW; clear hW; go_simp⟩) hHeld ?_
        simp only [put_laws]
        refine take_z 1 6 (.agg (#[.int .i64 s.x, .int .i64 s.k, .int .i64 s.n, .bool s.wr])) rfl rfl (by kernel_rfl) (by kernel_rfl) (by kernel_rfl) (by kernel_rfl) (fun _ _ _ h => h) (Or.inl ⟨by rfl, by intro W hW; have c0 := hW.c0; have c1 := hW.c1; have c2 := hW.c2; have c3 := hW.c3; clear hW; go_simp⟩) hHeld ?_
        simp only [put_laws]
        refine anyZ_ready (rs := [2]) (by kernel_rfl) (by simp) ?_
        refine AllZ.cons rfl (fun K hK => ?_) AllZ.nil
        go_simp
        refine (lacks_any (some ad) c S s _).mono ?_
        rintro e w2 ⟨rfl, hb⟩
        try go_simp
        have hPrev := hHeld
        have hHeld := hHeld.below hb
        rw [HL.out]
        clear hPrev
        refine hK.out _ _ hHeld (fun hHeld => ?_)
        clear hK K
        refine take_z 3 8 (.bool false) rfl rfl (by kernel_rfl) (by kernel_rfl) (by kernel_rfl) (by kernel_rfl) (fun _ _ _ h => h) (Or.inl ⟨by rfl, by intro W hW; clear hW; go_simp⟩) hHeld ?_
        simp only [put_laws]
        refine take_z 4 9 (.slice (some ad) S.length c) rfl rfl (by kernel_rfl) (by kernel_rfl) (by kernel_rfl) (by kernel_rfl) (fun _ _ _ h => h) (Or.inl ⟨by rfl, by intro W hW; clear hW; go_simp⟩) hHeld ?_
        simp only [put_laws]
        refine take_z 5 10 (.pointer (some ⟨w.heap.size, 0, none⟩)) rfl rfl (by kernel_rfl) (by kernel_rfl) (by kernel_rfl) (by kernel_rfl) (fun _ _ _ h => h) (Or.inl ⟨by rfl, by intro W hW; clear hW; go_simp⟩) hHeld ?_
        simp only [put_laws]
        refine take_z 6 11 (.int .i64 s.x) rfl rfl (by kernel_rfl) (by kernel_rfl) (by kernel_rfl) (by kernel_rfl) (fun _ _ _ h => h) (Or.inl ⟨by rfl, by intro W hW; have c0 := hW.c0; clear hW; go_simp⟩) hHeld ?_
        simp only [put_laws]
        refine take_z 7 12 (.pointer (some (ad.add (j * 2)))) rfl rfl (by kernel_rfl) (by kernel_rfl) (by kernel_rfl) (by kernel_rfl) (fun _ _ _ h => h) (Or.inl ⟨by rfl, by intro W hW; have hx := HX.out; have g0 := HX0.out; have g1 := HX1.out; have g2 := HX2.out; clear hW; go_simp⟩) hHeld ?_
        simp only [put_laws]
        refine take_z 8 13 (.agg (#[.int .i64 v.1, .int .i64 v.2])) rfl rfl (by kernel_rfl) (by kernel_rfl) (by kernel_rfl) (by kernel_rfl) (fun _ _ _ h => h) (Or.inl ⟨by rfl, by intro W hW; have hv := HVL.out W hW; have v0 := hv.1; have v1 := hv.2; clear hW; go_simp⟩) hHeld ?_
        simp only [put_laws]
        refine take_z 9 14 (.pointer (some ⟨w.heap.size, 1, none⟩)) rfl rfl (by kernel_rfl) (by kernel_rfl) (by kernel_rfl) (by kernel_rfl) (fun _ _ _ h => h) (Or.inl ⟨by rfl, by intro W hW; clear hW; go_simp⟩) hHeld ?_
        simp only [put_laws]
        refine take_z 10 15 (.agg (#[.int .i64 s.k, .int .i64 s.n])) rfl rfl (by kernel_rfl) (by kernel_rfl) (by kernel_rfl) (by kernel_rfl) (fun _ _ _ h => h) (Or.inl ⟨by rfl, by intro W hW; have c1 := hW.c1; have c2 := hW.c2; clear hW; go_simp⟩) hHeld ?_
        simp only [put_laws]
        refine take_z 11 16 (.bool true) rfl rfl (by kernel_rfl) (by kernel_rfl) (by kernel_rfl) (by kernel_rfl) (fun _ _ _ h => h) (Or.inl ⟨by rfl, by intro W hW; have e0 := HE.out; clear hW; go_simp⟩) hHeld ?_
        simp only [put_laws]
        refine take_z 12 17 (.bool true) rfl rfl (by kernel_rfl) (by kernel_rfl) (by kernel_rfl) (by kernel_rfl) (fun _ _ _ h => h) (Or.inl ⟨by rfl, by intro W hW; clear hW; go_simp⟩) hHeld ?_
        simp only [put_laws]
        refine take_z 13 4 (.bool true) rfl rfl (by kernel_rfl) (by kernel_rfl) (by kernel_rfl) (by kernel_rfl) (fun _ _ _ h => h) (Or.inl ⟨by rfl, by intro W hW; clear hW; go_simp⟩) hHeld ?_
        simp only [put_laws]
        refine anyZ_done (by kernel_rfl) ?_ _
        refine NoPanic.normal ?_
        go_wp2
        go_ret
        exact ⟨rfl, hHeld.bel⟩
/-- the first place at which it holds, or -1. -/
def fi_denies (S : List Vp) (L : List Sp) : Int := match L.findIdx? (denies S) with | some k => (k : Nat) | none => -1
theorem fi_denies_ge (S : List Vp) (L : List Sp) : decide (fi_denies S L ≥ 0) = L.any (denies S) := by
  unfold fi_denies
  cases h : L.findIdx? (denies S) with
  | none =>
    have := List.findIdx?_eq_none_iff.1 h
    have e : L.any (denies S) = false := by rw [List.any_eq_false]; intro x hx; simpa using this x hx
    rw [e]; rfl
  | some k =>
    obtain ⟨hl, h1, _⟩ := List.findIdx?_eq_some_iff_getElem.1 h
    have e : L.any (denies S) = true := List.any_eq_true.2 ⟨_, List.getElem_mem hl, h1⟩
    rw [e]; simp
theorem fi_denies_hit {S : List Vp} {L : List Sp} {k : Nat} {s : Sp} (h : L[k]? = some s) (hp : denies S s = true) (hn : ∀ j : Nat, j < k → ∀ t, L[j]? = some t → denies S t = false) : fi_denies S L = (k : Nat) := by
  obtain ⟨hl, rfl⟩ := List.getElem?_eq_some_iff.1 h
  have : L.findIdx? (denies S) = some k := List.findIdx?_eq_some_iff_getElem.2 ⟨hl, hp, fun j hj => by rw [hn j hj _ (List.getElem?_eq_getElem (by omega))]; simp⟩
  unfold fi_denies; rw [this]
theorem fi_denies_miss {S : List Vp} {L : List Sp} (hn : ∀ j : Nat, j < L.length → ∀ t, L[j]? = some t → denies S t = false) : fi_denies S L = -1 := by
  have : L.findIdx? (denies S) = none := List.findIdx?_eq_none_iff.2 fun x hx => by
    obtain ⟨j, hj, rfl⟩ := List.getElem_of_mem hx
    exact hn j hj _ (List.getElem?_eq_getElem hj)
  unfold fi_denies; rw [this]
set_option maxHeartbeats 2000000 in
theorem index_denies (A B : Option Addr) (c d : Nat) (S : List Vp) (L : List Sp) (w : World) (hA : Rn.At encV w A S) (hB : VarsAt w B L) (hl : L.length ≤ 300) :
    Calls Tryz.prog 117 #[.slice B L.length d, .func (.func 76) #[.slice A S.length c] #[]] w fun e w' => e = .returned (.int .i64 (fi_denies S L)) ∧ Below w.heap.size w w' := by
  have HA := Lib.hid hA
  have HB := Lib.hid hB
  clear hA hB
  go_enter Tryz.func117, Tryz.ntmps117
  go_wp2
  go_loopw [8] (fun i wr => ∃ k : Nat, k ≤ L.length ∧ i = .int .i64 k ∧ Aside (Below w.heap.size w wr) ∧ Aside (∀ j : Nat, j < k → ∀ t, L[j]? = some t → denies S t = false)) (fun i _ => L.length - (intOf i).toNat)
  case atStart => exact ⟨0, Nat.zero_le _, rfl, Below.refl _ _, fun j hj => absurd hj (Nat.not_lt_zero _)⟩
  case round =>
    obtain ⟨k, hk, rfl, HW, HN⟩ := hrel
    by_cases hlt : k < L.length
    · obtain ⟨ad, v, rfl, hv, hok, h5⟩ := (HB.out.below HW.out (Nat.le_refl _)).at_ hlt
      obtain ⟨c0, c1, c2, c3⟩ := h5
      have HV := Lib.hid hv
      clear hv hok
      have hlt' : (k : Int) < (L.length : Int) := by omega
      have h0 : (0 : Int) ≤ (k : Int) := by omega
      cases hp : denies S v with
      | true =>
        have HP := Lib.hid hp
        clear hp
        go_wp2_with fail
        refine (denies_any A c S v wr (HA.out.below HW.out (Nat.le_refl _))).mono ?_
        rw [HP.out]
        rintro e w2 ⟨rfl, hb⟩
        go_wp2
        go_ret
        exact ⟨by rw [fi_denies_hit HV.out HP.out HN.out]; rfl, HW.out.trans (hb.mono HW.out.size)⟩
      | false =>
        have HP := Lib.hid hp
        clear hp
        go_wp2_with fail
        refine (denies_any A c S v wr (HA.out.below HW.out (Nat.le_refl _))).mono ?_
        rw [HP.out]
        rintro e w2 ⟨rfl, hb⟩
        have HB2 := Lib.hid (HW.out.trans (hb.mono HW.out.size))
        clear hb c0 c1 c2 c3
        go_wp2
        go_roundw
        case rel =>
          refine ⟨k + 1, by omega, by go_num, HB2.out, (show Aside _ from fun j hj t ht => ?_)⟩
          by_cases e : j = k
          · subst e
            rw [HV.out] at ht
            obtain rfl := Option.some.inj ht
            exact HP.out
          · exact HN.out j (by omega) t ht
        case measure => simp [intOf]; omega
    · have hlt' : ¬ (k : Int) < (L.length : Int) := by omega
      go_wp2
      go_ret
      exact ⟨by rw [fi_denies_miss fun j hj => HN.out j (by omega)]; rfl, HW.out⟩
theorem contains_denies (A B : Option Addr) (c d : Nat) (S : List Vp) (L : List Sp) (w : World) (hA : Rn.At encV w A S) (hB : VarsAt w B L) (hl : L.length ≤ 300) :
    Calls Tryz.prog 75 #[.slice B L.length d, .func (.func 76) #[.slice A S.length c] #[]] w fun e w' => e = .returned (.bool (L.any (denies S))) ∧ Below w.heap.size w w' := by
  have hge := fi_denies_ge S L
  have HC := Lib.hid (index_denies A B c d S L w hA hB hl)
  clear hA hB
  generalize L.any (denies S) = r at hge ⊢
  generalize fi_denies S L = k at HC hge
  go_enter Tryz.func75, Tryz.ntmps75
  go_wp2_with fail
  refine HC.out.mono ?_
  rintro e w' ⟨rfl, hb⟩
  go_wp2
  go_ret
  exact ⟨rfl, hb⟩
/-- the first place at which it holds, or -1. -/
def fi_lacks (S : List Vp) (L : List Sp) : Int := match L.findIdx? (lacks S) with | some k => (k : Nat) | none => -1
theorem fi_lacks_ge (S : List Vp) (L : List Sp) : decide (fi_lacks S L ≥ 0) = L.any (lacks S) := by
  unfold fi_lacks
  cases h : L.findIdx? (lacks S) with
  | none =>
    have := List.findIdx?_eq_none_iff.1 h
    have e : L.any (lacks S) = false := by rw [List.any_eq_false]; intro x hx; simpa using this x hx
    rw [e]; rfl
  | some k =>
    obtain ⟨hl, h1, _⟩ := List.findIdx?_eq_some_iff_getElem.1 h
    have e : L.any (lacks S) = true := List.any_eq_true.2 ⟨_, List.getElem_mem hl, h1⟩
    rw [e]; simp
theorem fi_lacks_hit {S : List Vp} {L : List Sp} {k : Nat} {s : Sp} (h : L[k]? = some s) (hp : lacks S s = true) (hn : ∀ j : Nat, j < k → ∀ t, L[j]? = some t → lacks S t = false) : fi_lacks S L = (k : Nat) := by
  obtain ⟨hl, rfl⟩ := List.getElem?_eq_some_iff.1 h
  have : L.findIdx? (lacks S) = some k := List.findIdx?_eq_some_iff_getElem.2 ⟨hl, hp, fun j hj => by rw [hn j hj _ (List.getElem?_eq_getElem (by omega))]; simp⟩
  unfold fi_lacks; rw [this]
theorem fi_lacks_miss {S : List Vp} {L : List Sp} (hn : ∀ j : Nat, j < L.length → ∀ t, L[j]? = some t → lacks S t = false) : fi_lacks S L = -1 := by
  have : L.findIdx? (lacks S) = none := List.findIdx?_eq_none_iff.2 fun x hx => by
    obtain ⟨j, hj, rfl⟩ := List.getElem_of_mem hx
    exact hn j hj _ (List.getElem?_eq_getElem hj)
  unfold fi_lacks; rw [this]
set_option maxHeartbeats 2000000 in
theorem index_lacks (A B : Option Addr) (c d : Nat) (S : List Vp) (L : List Sp) (w : World) (hA : Rn.At encV w A S) (hB : VarsAt w B L) (hl : L.length ≤ 300) :
    Calls Tryz.prog 117 #[.slice B L.length d, .func (.func 77) #[.slice A S.length c] #[]] w fun e w' => e = .returned (.int .i64 (fi_lacks S L)) ∧ Below w.heap.size w w' := by
  have HA := Lib.hid hA
  have HB := Lib.hid hB
  clear hA hB
  go_enter Tryz.func117, Tryz.ntmps117
  go_wp2
  go_loopw [8] (fun i wr => ∃ k : Nat, k ≤ L.length ∧ i = .int .i64 k ∧ Aside (Below w.heap.size w wr) ∧ Aside (∀ j : Nat, j < k → ∀ t, L[j]? = some t → lacks S t = false)) (fun i _ => L.length - (intOf i).toNat)
  case atStart => exact ⟨0, Nat.zero_le _, rfl, Below.refl _ _, fun j hj => absurd hj (Nat.not_lt_zero _)⟩
  case round =>
    obtain ⟨k, hk, rfl, HW, HN⟩ := hrel
    by_cases hlt : k < L.length
    · obtain ⟨ad, v, rfl, hv, hok, h5⟩ := (HB.out.below HW.out (Nat.le_refl _)).at_ hlt
      obtain ⟨c0, c1, c2, c3⟩ := h5
      have HV := Lib.hid hv
      clear hv hok
      have hlt' : (k : Int) < (L.length : Int) := by omega
      have h0 : (0 : Int) ≤ (k : Int) := by omega
      cases hp : lacks S v with
      | true =>
        have HP := Lib.hid hp
        clear hp
        go_wp2_with fail
        refine (lacks_any A c S v wr).mono ?_
        rw [HP.out]
        rintro e w2 ⟨rfl, hb⟩
        go_wp2
        go_ret
        exact ⟨by rw [fi_lacks_hit HV.out HP.out HN.out]; rfl, HW.out.trans (hb.mono HW.out.size)⟩
      | false =>
        have HP := Lib.hid hp
        clear hp
        go_wp2_with fail
        refine (lacks_any A c S v wr).mono ?_
        rw [HP.out]
        rintro e w2 ⟨rfl, hb⟩
        have HB2 := Lib.hid (HW.out.trans (hb.mono HW.out.size))
        clear hb c0 c1 c2 c3
        go_wp2
        go_roundw
        case rel =>
          refine ⟨k + 1, by omega, by go_num, HB2.out, (show Aside _ from fun j hj t ht => ?_)⟩
          by_cases e : j = k
          · subst e
            rw [HV.out] at ht
            obtain rfl := Option.some.inj ht
            exact HP.out
          · exact HN.out j (by omega) t ht
        case measure => simp [intOf]; omega
    · have hlt' : ¬ (k : Int) < (L.length : Int) := by omega
      go_wp2
      go_ret
      exact ⟨by rw [fi_lacks_miss fun j hj => HN.out j (by omega)]; rfl, HW.out⟩
theorem contains_lacks (A B : Option Addr) (c d : Nat) (S : List Vp) (L : List Sp) (w : World) (hA : Rn.At encV w A S) (hB : VarsAt w B L) (hl : L.length ≤ 300) :
    Calls Tryz.prog 75 #[.slice B L.length d, .func (.func 77) #[.slice A S.length c] #[]] w fun e w' => e = .returned (.bool (L.any (lacks S))) ∧ Below w.heap.size w w' := by
  have hge := fi_lacks_ge S L
  have HC := Lib.hid (index_lacks A B c d S L w hA hB hl)
  clear hA hB
  generalize L.any (lacks S) = r at hge ⊢
  generalize fi_lacks S L = k at HC hge
  go_enter Tryz.func75, Tryz.ntmps75
  go_wp2_with fail
  refine HC.out.mono ?_
  rintro e w' ⟨rfl, hb⟩
  go_wp2
  go_ret
  exact ⟨rfl, hb⟩
end Go.Proofs.YtfdfiiocccafkaaGreatDoor.Rp
