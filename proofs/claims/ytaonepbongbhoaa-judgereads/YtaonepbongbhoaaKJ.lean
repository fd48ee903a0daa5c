/-
  Contracts of lacks, denies, the library's IndexFunc and ContainsFunc at these, and of do.
  Contracts of do, Does and All.
  Contracts of Does and All.
-/
import Derived.Test.YtaonepbongbhoaaKC
import Derived.Test.YtaonepbongbhoaaKB
import Derived.Deep.QuietTactic
import Derived.BigQuiet
import Derived.Deep.RegionHeld3
import Derived.Deep.DeepCutAuto
import Derived.Laws.StructEq
namespace Go.Proofs.Ytaonepbongbhoaa.Rp
open Go.RowKit Tx Az
set_option maxHeartbeats 1000000 in
theorem lacks_any (A : Option Addr) (c : Nat) (S : List Vp) (s : Sp) (w : World) :
    Calls Try.prog 70 #[.slice A S.length c, .agg #[.int .i64 s.x, .int .i64 s.k, .int .i64 s.n, .bool s.wr]] w fun e w' => e = .returned (.bool (lacks S s)) ∧ Below w.heap.size w w' := by
  unfold lacks has
  by_cases h0 : s.x < 0
  · have d0 : decide (0 ≤ s.x) = false := by simpa using h0
    rw [d0]
    go_enter Try.func70, Try.ntmps70
    go_wp2
    go_ret
    exact ⟨rfl, below_new _ _⟩
  · have d0 : decide (0 ≤ s.x) = true := by simpa using h0
    rw [d0]
    by_cases h1 : s.x < (S.length : Int)
    · have d1 : decide (s.x < (S.length : Int)) = true := by simpa using h1
      have d2 : decide (s.x ≥ (S.length : Int)) = false := by simpa using h1
      rw [d1]
      go_enter Try.func70, Try.ntmps70
      go_wp2
      go_ret
      exact ⟨rfl, below_new _ _⟩
    · have d1 : decide (s.x < (S.length : Int)) = false := by simpa using h1
      have d2 : decide (s.x ≥ (S.length : Int)) = true := by simpa using h1
      rw [d1]
      go_enter Try.func70, Try.ntmps70
      go_wp2
      go_ret
      exact ⟨rfl, below_new _ _⟩
/-- the box of a step, and what lay there. -/
structure Den (b : Nat) (s : Sp) (w W : World) : Prop where
  c0 : W.cell? ⟨b, 0, none⟩ = some (.int .i64 s.x)
  c1 : W.cell? ⟨b, 1, none⟩ = some (.int .i64 s.k)
  c2 : W.cell? ⟨b, 2, none⟩ = some (.int .i64 s.n)
  c3 : W.cell? ⟨b, 3, none⟩ = some (.bool s.wr)
  lt : b < W.heap.size
  bel : Below w.heap.size w W
theorem Den.below {b : Nat} {s : Sp} {w W W' : World} (h : Den b s w W) (hb : Below W.heap.size W W') : Den b s w W' :=
  ⟨(hb.cell (p := ⟨b, 0, none⟩) h.lt).trans h.c0, (hb.cell (p := ⟨b, 1, none⟩) h.lt).trans h.c1, (hb.cell (p := ⟨b, 2, none⟩) h.lt).trans h.c2, (hb.cell (p := ⟨b, 3, none⟩) h.lt).trans h.c3, Nat.lt_of_lt_of_le h.lt hb.size, h.bel.trans (hb.mono h.bel.size)⟩
theorem below_drew1 (B : Nat) (w : World) : Below B w w.drew := ⟨rfl, rfl, rfl, Nat.le_refl _, fun _ _ => rfl⟩
theorem Den.drew {b : Nat} {s : Sp} {w W : World} (h : Den b s w W) : Den b s w W.drew := h.below (below_drew1 _ _)
theorem den_new (s : Sp) (w : World) : Den w.heap.size s w (w.alloc (.cells (stepA s) 48)) := by
  have h := stepAt_new w s 48
  exact ⟨h.c0, h.c1, h.c2, h.c3, by simp, below_new _ _⟩
set_option maxHeartbeats 2000000 in
theorem denies_any (A : Option Addr) (c : Nat) (S : List Vp) (s : Sp) (w : World) (hA : Rn.At encV w A S) :
    Calls Try.prog 69 #[.slice A S.length c, .agg #[.int .i64 s.x, .int .i64 s.k, .int .i64 s.n, .bool s.wr]] w fun e w' => e = .returned (.bool (denies S s)) ∧ Below w.heap.size w w' := by
  have HA := Lib.hid hA
  clear hA
  have HD := Lib.hid (den_new s w)
  unfold stepA at HD
  unfold denies
  cases hl : lacks S s with
  | true =>
    have HL := Lib.hid hl
    clear hl
    go_enter Try.func69, Try.ntmps69
    go_wp2
    generalize w.alloc (.cells #[.int .i64 s.x, .int .i64 s.k, .int .i64 s.n, .bool s.wr] 48) = W1 at HD ⊢
    refine wp_region_noPanic ?_
    refine region_z 14 (fun W => Den w.heap.size s w W) 14 1000 rfl (by kernel_rfl) (by exact HD.out.drew) (fun hHeld => ?_)
    refine take_z 0 5 (.slice A S.length c) rfl rfl (by kernel_rfl) (by kernel_rfl) (by kernel_rfl) (by kernel_rfl) (fun _ _ _ h => h) (Or.inl ⟨by rfl, by intro W hW; clear hW; go_simp⟩) hHeld ?_
    simp only [put_laws]
    refine take_z 1 6 (.agg (#[.int .i64 s.x, .int .i64 s.k, .int .i64 s.n, .bool s.wr])) rfl rfl (by kernel_rfl) (by kernel_rfl) (by kernel_rfl) (by kernel_rfl) (fun _ _ _ h => h) (Or.inl ⟨by rfl, by intro W hW; have c0 := hW.c0; have c1 := hW.c1; have c2 := hW.c2; have c3 := hW.c3; clear hW; go_simp⟩) hHeld ?_
    simp only [put_laws]
    refine anyZ_ready (rs := [2]) (by kernel_rfl) (by simp) ?_
    refine AllZ.cons rfl (fun K hK => ?_) AllZ.nil
    go_simp
    refine (lacks_any A c S s _).mono ?_
    rintro e w2 ⟨rfl, hb⟩
    try go_simp
    have hPrev := hHeld
    have hHeld := hHeld.below hb
    rw [HL.out]
    clear hPrev
    refine hK.out _ _ hHeld (fun hHeld => ?_)
    clear hK K
    refine take_z 3 8 (.bool true) rfl rfl (by kernel_rfl) (by kernel_rfl) (by kernel_rfl) (by kernel_rfl) (fun _ _ _ h => h) (Or.inl ⟨by rfl, by intro W hW; clear hW; go_simp⟩) hHeld ?_
    simp only [put_laws]
    refine take_z 4 9 undef rfl rfl (by kernel_rfl) (by kernel_rfl) (by kernel_rfl) (by kernel_rfl) (fun _ _ _ h => h) (Or.inr ⟨by rfl, rfl⟩) hHeld ?_
    simp only [put_laws]
    refine take_z 5 10 undef rfl rfl (by kernel_rfl) (by kernel_rfl) (by kernel_rfl) (by kernel_rfl) (fun _ _ _ h => h) (Or.inr ⟨by rfl, rfl⟩) hHeld ?_
    simp only [put_laws]
    refine take_z 6 11 undef rfl rfl (by kernel_rfl) (by kernel_rfl) (by kernel_rfl) (by kernel_rfl) (fun _ _ _ h => h) (Or.inr ⟨by rfl, rfl⟩) hHeld ?_
    simp only [put_laws]
    refine take_z 7 12 undef rfl rfl (by kernel_rfl) (by kernel_rfl) (by kernel_rfl) (by kernel_rfl) (fun _ _ _ h => h) (Or.inr ⟨by rfl, rfl⟩) hHeld ?_
    simp only [put_laws]
    refine take_z 8 13 undef rfl rfl (by kernel_rfl) (by kernel_rfl) (by kernel_rfl) (by kernel_rfl) (fun _ _ _ h => h) (Or.inr ⟨by rfl, rfl⟩) hHeld ?_
    simp only [put_laws]
    refine take_z 9 14 undef rfl rfl (by kernel_rfl) (by kernel_rfl) (by kernel_rfl) (by kernel_rfl) (fun _ _ _ h => h) (Or.inr ⟨by rfl, rfl⟩) hHeld ?_
    simp only [put_laws]
    refine take_z 10 15 undef rfl rfl (by kernel_rfl) (by kernel_rfl) (by kernel_rfl) (by kernel_rfl) (fun _ _ _ h => h) (Or.inr ⟨by rfl, rfl⟩) hHeld ?_
    simp only [put_laws]
    refine take_z 11 16 undef rfl rfl (by kernel_rfl) (by kernel_rfl) (by kernel_rfl) (by kernel_rfl) (fun _ _ _ h => h) (Or.inr ⟨by rfl, rfl⟩) hHeld ?_
    simp only [put_laws]
    refine take_z 12 17 (.bool true) rfl rfl (by kernel_rfl) (by kernel_rfl) (by kernel_rfl) (by kernel_rfl) (fun _ _ _ h => h) (Or.inl ⟨by rfl, by intro W hW; clear hW; go_simp⟩) hHeld ?_
    simp only [put_laws]
    refine take_z 13 4 (.bool true) rfl rfl (by kernel_rfl) (by kernel_rfl) (by kernel_rfl) (by kernel_rfl) (fun _ _ _ h => h) (Or.inl ⟨by rfl, by intro W hW; clear hW; go_simp⟩) hHeld ?_
    simp only [put_laws]
    refine anyZ_done (by kernel_rfl) ?_ _
    refine NoPanic.normal ?_
    go_wp2
    go_ret
    exact ⟨rfl, hHeld.bel⟩
  | false =>
    have HL := Lib.hid hl
    have hh : has S s.x = true := by simpa [lacks] using hl
    obtain ⟨h0, h1⟩ := (has_iff S s.x).1 hh
    obtain ⟨j, hj⟩ := Int.eq_ofNat_of_zero_le h0
    have hjl : j < S.length := by omega
    obtain ⟨v, hv⟩ : ∃ v, S[j]? = some v := ⟨_, List.getElem?_eq_getElem hjl⟩
    obtain ⟨ad, rfl, hv0, hv1⟩ := at2 HA.out hv
    have hat : at_ S s.x = some v := by unfold at_; rw [if_pos h0, hj]; exact hv
    rw [hat]
    have HX := Lib.hid hj
    have HX0 := Lib.hid h0
    have HX1 := Lib.hid h1
    have HX2 := Lib.hid hjl
    have hvl : ∀ W, Den w.heap.size s w W → W.cell? (ad.add (j * 2)) = some (.int .i64 v.1) ∧ W.cell? ⟨(ad.add (j * 2)).block, (ad.add (j * 2)).off + 1, none⟩ = some (.int .i64 v.2) := fun W hW =>
      ⟨(hW.bel.cell (Rn.cell_lt hv0)).trans hv0, (hW.bel.cell (Rn.cell_lt hv1)).trans hv1⟩
    have HVL := Lib.hid hvl
    clear hvl hl hh h0 h1 hj hjl hv hv0 hv1 hat
    by_cases he : v = (s.k, s.n)
    · have hr : decide (some v ≠ some (s.k, s.n)) = false := by simp [he]
      rw [hr]
      have HE := Lib.hid (show v.1 = s.k ∧ v.2 = s.n by rw [he]; exact ⟨rfl, rfl⟩)
      clear he hr
      go_enter Try.func69, Try.ntmps69
      go_wp2
      generalize w.alloc (.cells #[.int .i64 s.x, .int .i64 s.k, .int .i64 s.n, .bool s.wr] 48) = W1 at HD ⊢
      refine wp_region_noPanic ?_
      refine region_z 14 (fun W => Den w.heap.size s w W) 14 1000 rfl (by kernel_rfl) (by exact HD.out.drew) (fun hHeld => ?_)
      refine take_z 0 5 (.slice (some ad) S.length c) rfl rfl (by kernel_rfl) (by kernel_rfl) (by kernel_rfl) (by kernel_rfl) (fun _ _ _ h => h) (Or.inl ⟨by rfl, by intro W hW; clear hW; go_simp⟩) hHeld ?_
      simp only [put_laws]
      refine take_z 1 6 (.agg (#[.int .i64 s.x, .int .i64 s.k, .int .i64 s.n, .bool s.wr])) rfl rfl (by kernel_rfl) (by kernel_rfl) (by kernel_rfl) (by kernel_rfl) (fun _ _ _ h => h) (Or.inl ⟨by rfl, by intro W hW; have c0 := hW.c0; have c1 := hW.c1; have c2 := hW.c2; have c3 := hW.c3; clear hW; go_simp⟩) hHeld ?_
      simp only [put_laws]
      refine anyZ_ready (rs := [2]) (by kernel_rfl) (by simp) ?_
      refine AllZ.cons rfl (fun K hK => ?_) AllZ.nil
      go_simp
      refine (lacks_any (some ad) c S s _).mono ?_
      rintro e w2 ⟨rfl, hb⟩
      try go_simp
      have hPrev := hHeld
      have hHeld := hHeld.below hb
      rw [HL.out]
      clear hPrev
      refine hK.out _ _ hHeld (fun hHeld => ?_)
      clear hK K
      refine take_z 3 8 (.bool false) rfl rfl (by kernel_rfl) (by kernel_rfl) (by kernel_rfl) (by kernel_rfl) (fun _ _ _ h => h) (Or.inl ⟨by rfl, by intro W hW; clear hW; go_simp⟩) hHeld ?_
      simp only [put_laws]
      refine take_z 4 9 (.slice (some ad) S.length c) rfl rfl (by kernel_rfl) (by kernel_rfl) (by kernel_rfl) (by kernel_rfl) (fun _ _ _ h => h) (Or.inl ⟨by rfl, by intro W hW; clear hW; go_simp⟩) hHeld ?_
      simp only [put_laws]
      refine take_z 5 10 (.pointer (some ⟨w.heap.size, 0, none⟩)) rfl rfl (by kernel_rfl) (by kernel_rfl) (by kernel_rfl) (by kernel_rfl) (fun _ _ _ h => h) (Or.inl ⟨by rfl, by intro W hW; clear hW; go_simp⟩) hHeld ?_
      simp only [put_laws]
      refine take_z 6 11 (.int .i64 s.x) rfl rfl (by kernel_rfl) (by kernel_rfl) (by kernel_rfl) (by kernel_rfl) (fun _ _ _ h => h) (Or.inl ⟨by rfl, by intro W hW; have c0 := hW.c0; clear hW; go_simp⟩) hHeld ?_
      simp only [put_laws]
      refine take_z 7 12 (.pointer (some (ad.add (j * 2)))) rfl rfl (by kernel_rfl) (by kernel_rfl) (by kernel_rfl) (by kernel_rfl) (fun _ _ _ h => h) (Or.inl ⟨by rfl, by intro W hW; have hx := HX.out; have g0 := HX0.out; have g1 := HX1.out; have g2 := HX2.out; clear hW; go_simp⟩) hHeld ?_
      simp only [put_laws]
      refine take_z 8 13 (.agg (#[.int .i64 v.1, .int .i64 v.2])) rfl rfl (by kernel_rfl) (by kernel_rfl) (by kernel_rfl) (by kernel_rfl) (fun _ _ _ h => h) (Or.inl ⟨by rfl, by intro W hW; have hv := HVL.out W hW; have v0 := hv.1; have v1 := hv.2; clear hW; go_simp⟩) hHeld ?_
      simp only [put_laws]
      refine take_z 9 14 (.pointer (some ⟨w.heap.size, 1, none⟩)) rfl rfl (by kernel_rfl) (by kernel_rfl) (by kernel_rfl) (by kernel_rfl) (fun _ _ _ h => h) (Or.inl ⟨by rfl, by intro W hW; clear hW; go_simp⟩) hHeld ?_
      simp only [put_laws]
      refine take_z 10 15 (.agg (#[.int .i64 s.k, .int .i64 s.n])) rfl rfl (by kernel_rfl) (by kernel_rfl) (by kernel_rfl) (by kernel_rfl) (fun _ _ _ h => h) (Or.inl ⟨by rfl, by intro W hW; have c1 := hW.c1; have c2 := hW.c2; clear hW; go_simp⟩) hHeld ?_
      simp only [put_laws]
      refine take_z 11 16 (.bool false) rfl rfl (by kernel_rfl) (by kernel_rfl) (by kernel_rfl) (by kernel_rfl) (fun _ _ _ h => h) (Or.inl ⟨by rfl, by intro W hW; have e0 := HE.out; clear hW; go_simp⟩) hHeld ?_
      simp only [put_laws]
      refine take_z 12 17 (.bool false) rfl rfl (by kernel_rfl) (by kernel_rfl) (by kernel_rfl) (by kernel_rfl) (fun _ _ _ h => h) (Or.inl ⟨by rfl, by intro W hW; clear hW; go_simp⟩) hHeld ?_
      simp only [put_laws]
      refine take_z 13 4 (.bool false) rfl rfl (by kernel_rfl) (by kernel_rfl) (by kernel_rfl) (by kernel_rfl) (fun _ _ _ h => h) (Or.inl ⟨by rfl, by intro W hW; clear hW; go_simp⟩) hHeld ?_
      simp only [put_laws]
      refine anyZ_done (by kernel_rfl) ?_ _
      refine NoPanic.normal ?_
      go_wp2
      go_ret
      exact ⟨rfl, hHeld.bel⟩
    · have hr : decide (some v ≠ some (s.k, s.n)) = true := by simp [he]
      rw [hr]
      by_cases h1 : v.1 = s.k
      · have HE := Lib.hid (show v.1 = s.k ∧ ¬ v.2 = s.n from ⟨h1, fun h2 => he (by obtain ⟨a, b⟩ := v; simp at h1 h2; rw [h1, h2])⟩)
        clear he hr h1
        go_enter Try.func69, Try.ntmps69
        go_wp2
        generalize w.alloc (.cells #[.int .i64 s.x, .int .i64 s.k, .int .i64 s.n, .bool s.wr] 48) = W1 at HD ⊢
        refine wp_region_noPanic ?_
        refine region_z 14 (fun W => Den w.heap.size s w W) 14 1000 rfl (by kernel_rfl) (by exact HD.out.drew) (fun hHeld => ?_)
        refine take_z 0 5 (.slice (some ad) S.length c) rfl rfl (by kernel_rfl) (by kernel_rfl) (by kernel_rfl) (by kernel_rfl) (fun _ _ _ h => h) (Or.inl ⟨by rfl, by intro W hW; clear hW; go_simp⟩) hHeld ?_
        simp only [put_laws]
        refine take_z 1 6 (.agg (#[.int .i64 s.x, .int .i64 s.k, .int .i64 s.n, .bool s.wr])) rfl rfl (by kernel_rfl) (by kernel_rfl) (by kernel_rfl) (by kernel_rfl) (fun _ _ _ h => h) (Or.inl ⟨by rfl, by intro W hW; have c0 := hW.c0; have c1 := hW.c1; have c2 := hW.c2; have c3 := hW.c3; clear hW; go_simp⟩) hHeld ?_
        simp only [put_laws]
        refine anyZ_ready (rs := [2]) (by kernel_rfl) (by simp) ?_
        refine AllZ.cons rfl (fun K hK => ?_) AllZ.nil
        go_simp
        refine (lacks_any (some ad) c S s _).mono ?_
        rintro e w2 ⟨rfl, hb⟩
        try go_simp
        have hPrev := hHeld
        have hHeld := hHeld.below hb
        rw [HL.out]
        clear hPrev
        refine hK.out _ _ hHeld (fun hHeld => ?_)
        clear hK K
        refine take_z 3 8 (.bool false) rfl rfl (by kernel_rfl) (by kernel_rfl) (by kernel_rfl) (by kernel_rfl) (fun _ _ _ h => h) (Or.inl ⟨by rfl, by intro W hW; clear hW; go_simp⟩) hHeld ?_
        simp only [put_laws]
        refine take_z 4 9 (.slice (some ad) S.length c) rfl rfl (by kernel_rfl) (by kernel_rfl) (by kernel_rfl) (by kernel_rfl) (fun _ _ _ h => h) (Or.inl ⟨by rfl, by intro W hW; clear hW; go_simp⟩) hHeld ?_
        simp only [put_laws]
        refine take_z 5 10 (.pointer (some ⟨w.heap.size, 0, none⟩)) rfl rfl (by kernel_rfl) (by kernel_rfl) (by kernel_rfl) (by kernel_rfl) (fun _ _ _ h => h) (Or.inl ⟨by rfl, by intro W hW; clear hW; go_simp⟩) hHeld ?_
        simp only [put_laws]
        refine take_z 6 11 (.int .i64 s.x) rfl rfl (by kernel_rfl) (by kernel_rfl) (by kernel_rfl) (by kernel_rfl) (fun _ _ _ h => h) (Or.inl ⟨by rfl, by intro W hW; have c0 := hW.c0; clear hW; go_simp⟩) hHeld ?_
        simp only [put_laws]
        refine take_z 7 12 (.pointer (some (ad.add (j * 2)))) rfl rfl (by kernel_rfl) (by kernel_rfl) (by kernel_rfl) (by kernel_rfl) (fun _ _ _ h => h) (Or.inl ⟨by rfl, by intro W hW; have hx := HX.out; have g0 := HX0.out; have g1 := HX1.out; have g2 := HX2.out; clear hW; go_simp⟩) hHeld ?_
        simp only [put_laws]
        refine take_z 8 13 (.agg (#[.int .i64 v.1, .int .i64 v.2])) rfl rfl (by kernel_rfl) (by kernel_rfl) (by kernel_rfl) (by kernel_rfl) (fun _ _ _ h => h) (Or.inl ⟨by rfl, by intro W hW; have hv := HVL.out W hW; have v0 := hv.1; have v1 := hv.2; clear hW; go_simp⟩) hHeld ?_
        simp only [put_laws]
        refine take_z 9 14 (.pointer (some ⟨w.heap.size, 1, none⟩)) rfl rfl (by kernel_rfl) (by kernel_rfl) (by kernel_rfl) (by kernel_rfl) (fun _ _ _ h => h) (Or.inl ⟨by rfl, by intro W hW; clear hW; go_simp⟩) hHeld ?_
        simp only [put_laws]
        refine take_z 10 15 (.agg (#[.int .i64 s.k, .int .i64 s.n])) rfl rfl (by kernel_rfl) (by kernel_rfl) (by kernel_rfl) (by kernel_rfl) (fun _ _ _ h => h) (Or.inl ⟨by rfl, by intro W hW; have c1 := hW.c1; have c2 := hW.c2; clear hW; go_simp⟩) hHeld ?_
        simp only [put_laws]
        refine take_z 11 16 (.bool true) rfl rfl (by kernel_rfl) (by kernel_rfl) (by kernel_rfl) (by kernel_rfl) (fun _ _ _ h => h) (Or.inl ⟨by rfl, by intro W hW; have e0 := HE.out; have e1 := e0.1; have e2 := e0.2; clear hW; go_simp⟩) hHeld ?_
        simp only [put_laws]
        refine take_z 12 17 (.bool true) rfl rfl (by kernel_rfl) (by kernel_rfl) (by kernel_rfl) (by kernel_rfl) (fun _ _ _ h => h) (Or.inl ⟨by rfl, by intro W hW; clear hW; go_simp⟩) hHeld ?_
        simp only [put_laws]
        refine take_z 13 4 (.bool true) rfl rfl (by kernel_rfl) (by kernel_rfl) (by kernel_rfl) (by kernel_rfl) (fun _ _ _ h => h) (Or.inl ⟨by rfl, by intro W hW; clear hW; go_simp⟩) hHeld ?_
        simp only [put_laws]
        refine anyZ_done (by kernel_rfl) ?_ _
        refine NoPanic.normal ?_
        go_wp2
        go_ret
        exact ⟨rfl, hHeld.bel⟩
      · have HE := Lib.hid h1
        clear he hr h1
        go_enter Try.func69, Try.ntmps69
        go_wp2
        generalize w.alloc (.cells #[.int .i64 s.x, .int .i64 s.k, .int .i64 s.n, .bool s.wr] 48) = W1 at HD ⊢
        refine wp_region_noPanic ?_
        refine region_z 14 (fun W => Den w.heap.size s w W) 14 1000 rfl (by kernel_rfl) (by exact HD.out.drew) (fun hHeld => ?_)
        refine take_z 0 5 (.slice (some ad) S.length c) rfl rfl (by kernel_rfl) (by kernel_rfl) (by kernel_rfl) (by kernel_rfl) (fun _ _ _ h => h) (Or.inl ⟨by rfl, by intro W hW; clear hW; go_simp⟩) hHeld ?_
        simp only [put_laws]
        refine take_z 1 6 (.agg (#[.int .i64 s.x, .int .i64 s.k, .int .i64 s.n, .bool s.wr])) rfl rfl (by kernel_rfl) (by kernel_rfl) (by kernel_rfl) (by kernel_rfl) (fun _ _ _ h => h) (Or.inl ⟨by rfl, by intro W hW; have c0 := hW.c0; have c1 := hW.c1; have c2 := hW.c2; have c3 := hW.c3; clear hW; go_simp⟩) hHeld ?_
        simp only [put_laws]
        refine anyZ_ready (rs := [2]) (by kernel_rfl) (by simp) ?_
        refine AllZ.cons rfl (fun K hK => ?_) AllZ.nil
        go_simp
        refine (lacks_any (some ad) c S s _).mono ?_
        rintro e w2 ⟨rfl, hb⟩
        try go_simp
        have hPrev := hHeld
        have hHeld := hHeld.below hb
        rw [HL.out]
        clear hPrev
        refine hK.out _ _ hHeld (fun hHeld => ?_)
        clear hK K
        refine take_z 3 8 (.bool false) rfl rfl (by kernel_rfl) (by kernel_rfl) (by kernel_rfl) (by kernel_rfl) (fun _ _ _ h => h) (Or.inl ⟨by rfl, by intro W hW; clear hW; go_simp⟩) hHeld ?_
        simp only [put_laws]
        refine take_z 4 9 (.slice (some ad) S.length c) rfl rfl (by kernel_rfl) (by kernel_rfl) (by kernel_rfl) (by kernel_rfl) (fun _ _ _ h => h) (Or.inl ⟨by rfl, by intro W hW; clear hW; go_simp⟩) hHeld ?_
        simp only [put_laws]
        refine take_z 5 10 (.pointer (some ⟨w.heap.size, 0, none⟩)) rfl rfl (by kernel_rfl) (by kernel_rfl) (by kernel_rfl) (by kernel_rfl) (fun _ _ _ h => h) (Or.inl ⟨by rfl, by intro W hW; clear hW; go_simp⟩) hHeld ?_
        simp only [put_laws]
        refine take_z 6 11 (.int .i64 s.x) rfl rfl (by kernel_rfl) (by kernel_rfl) (by kernel_rfl) (by kernel_rfl) (fun _ _ _ h => h) (Or.inl ⟨by rfl, by intro W hW; have c0 := hW.c0; clear hW; go_simp⟩) hHeld ?_
        simp only [put_laws]
        refine take_z 7 12 (.pointer (some (ad.add (j * 2)))) rfl rfl (by kernel_rfl) (by kernel_rfl) (by kernel_rfl) (by kernel_rfl) (fun _ _ _ h => h) (Or.inl ⟨by rfl, by intro W hW; have hx := HX.out; have g0 := HX0.out; have g1 := HX1.out; have g2 := HX2.out; clear hW; go_simp⟩) hHeld ?_
        simp only [put_laws]
        refine take_z 8 13 (.agg (#[.int .i64 v.1, .int .i64 v.2])) rfl rfl (by kernel_rfl) (by kernel_rfl) (by kernel_rfl) (by kernel_rfl) (fun _ _ _ h => h) (Or.inl ⟨by rfl, by intro W hW; have hv := HVL.out W hW; have v0 := hv.1; have v1 := hv.2; clear hW; go_simp⟩) hHeld ?_
        simp only [put_laws]
        refine take_z 9 14 (.pointer (some ⟨w.heap.size, 1, none⟩)) rfl rfl (by kernel_rfl) (by kernel_rfl) (by kernel_rfl) (by kernel_rfl) (fun _ _ _ h => h) (Or.inl ⟨by rfl, by intro W hW; clear hW; go_simp⟩) hHeld ?_
        simp only [put_laws]
        refine take_z 10 15 (.agg (#[.int .i64 s.k, .int .i64 s.n])) rfl rfl (by kernel_rfl) (by kernel_rfl) (by kernel_rfl) (by kernel_rfl) (fun _ _ _ h => h) (Or.inl ⟨by rfl, by intro W hW; have c1 := hW.c1; have c2 := hW.c2; clear hW; go_simp⟩) hHeld ?_
        simp only [put_laws]
        refine take_z 11 16 (.bool true) rfl rfl (by kernel_rfl) (by kernel_rfl) (by kernel_rfl) (by kernel_rfl) (fun _ _ _ h => h) (Or.inl ⟨by rfl, by intro W hW; have e0 := HE.out; clear hW; go_simp⟩) hHeld ?_
        simp only [put_laws]
        refine take_z 12 17 (.bool true) rfl rfl (by kernel_rfl) (by kernel_rfl) (by kernel_rfl) (by kernel_rfl) (fun _ _ _ h => h) (Or.inl ⟨by rfl, by intro W hW; clear hW; go_simp⟩) hHeld ?_
        simp only [put_laws]
        refine take_z 13 4 (.bool true) rfl rfl (by kernel_rfl) (by kernel_rfl) (by kernel_rfl) (by kernel_rfl) (fun _ _ _ h => h) (Or.inl ⟨by rfl, by intro W hW; clear hW; go_simp⟩) hHeld ?_
        simp only [put_laws]
        refine anyZ_done (by kernel_rfl) ?_ _
        refine NoPanic.normal ?_
        go_wp2
        go_ret
        exact ⟨rfl, hHeld.bel⟩
/-- the first place at which it holds, or -1. -/
def fi_denies (S : List Vp) (L : List Sp) : Int := match L.findIdx? (denies S) with | some k => (k : Nat) | none => -1
theorem fi_denies_ge (S : List Vp) (L : List Sp) : decide (fi_denies S L ≥ 0) = L.any (denies S) := by
  unfold fi_denies
  cases h : L.findIdx? (denies S) with
  | none =>
    have := List.findIdx?_eq_none_iff.1 h
    have e : L.any (denies S) = false := by rw [List.any_eq_false]; intro x hx; simpa using this x hx
    rw [e]; rfl
  | some k =>
    obtain ⟨hl, h1, _⟩ := List.findIdx?_eq_some_iff_getElem.1 h
    have e : L.any (denies S) = true := List.any_eq_true.2 ⟨_, List.getElem_mem hl, h1⟩
    rw [e]; simp
theorem fi_denies_hit {S : List Vp} {L : List Sp} {k : Nat} {s : Sp} (h : L[k]? = some s) (hp : denies S s = true) (hn : ∀ j : Nat, j < k → ∀ t, L[j]? = some t → denies S t = false) : fi_denies S L = (k : Nat) := by
  obtain ⟨hl, rfl⟩ := List.getElem?_eq_some_iff.1 h
  have : L.findIdx? (denies S) = some k := List.findIdx?_eq_some_iff_getElem.2 ⟨hl, hp, fun j hj => by rw [hn j hj _ (List.getElem?_eq_getElem (by omega))]; simp⟩
  unfold fi_denies; rw [this]
theorem fi_denies_miss {S : List Vp} {L : List Sp} (hn : ∀ j : Nat, j < L.length → ∀ t, L[j]? = some t → denies S t = false) : fi_denies S L = -1 := by
  have : L.findIdx? (denies S) = none := List.findIdx?_eq_none_iff.2 fun x hx => by
    obtain ⟨j, hj, rfl⟩ := List.getElem_of_mem hx
    exact hn j hj _ (List.getElem?_eq_getElem hj)
  unfold fi_denies; rw [this]
set_option maxHeartbeats 2000000 in
theorem index_denies (A B : Option Addr) (c d : Nat) (S : List Vp) (L : List Sp) (w : World) (hA : Rn.At encV w A S) (hB : VarsAt w B L) (hl : L.length ≤ 300) :
    Calls Try.prog 83 #[.slice B L.length d, .func (.func 69) #[.slice A S.length c] #[]] w fun e w' => e = .returned (.int .i64 (fi_denies S L)) ∧ Below w.heap.size w w' := by
  have HA := Lib.hid hA
  have HB := Lib.hid hB
  clear hA hB
  go_enter Try.func83, Try.ntmps83
  go_wp2
  go_loopw [8] (fun i wr => ∃ k : Nat, k ≤ L.length ∧ i = .int .i64 k ∧ Aside (Below w.heap.size w wr) ∧ Aside (∀ j : Nat, j < k → ∀ t, L[j]? = some t → denies S t = false)) (fun i _ => L.length - (intOf i).toNat)
  case atStart => exact ⟨0, Nat.zero_le _, rfl, Below.refl _ _, fun j hj => absurd hj (Nat.not_lt_zero _)⟩
  case round =>
    obtain ⟨k, hk, rfl, HW, HN⟩ := hrel
    by_cases hlt : k < L.length
    · obtain ⟨ad, v, rfl, hv, hok, h5⟩ := (HB.out.below HW.out (Nat.le_refl _)).at_ hlt
      obtain ⟨c0, c1, c2, c3⟩ := h5
      have HV := Lib.hid hv
      clear hv hok
      have hlt' : (k : Int) < (L.length : Int) := by omega
      have h0 : (0 : Int) ≤ (k : Int) := by omega
      cases hp : denies S v with
      | true =>
        have HP := Lib.hid hp
        clear hp
        go_wp2_with fail
        refine (denies_any A c S v wr (HA.out.below HW.out (Nat.le_refl _))).mono ?_
        rw [HP.out]
        rintro e w2 ⟨rfl, hb⟩
        go_wp2
        go_ret
        exact ⟨by rw [fi_denies_hit HV.out HP.out HN.out]; rfl, HW.out.trans (hb.mono HW.out.size)⟩
      | false =>
        have HP := Lib.hid hp
        clear hp
        go_wp2_with fail
        refine (denies_any A c S v wr (HA.out.below HW.out (Nat.le_refl _))).mono ?_
        rw [HP.out]
        rintro e w2 ⟨rfl, hb⟩
        have HB2 := Lib.hid (HW.out.trans (hb.mono HW.out.size))
        clear hb c0 c1 c2 c3
        go_wp2
        go_roundw
        case rel =>
          refine ⟨k + 1, by omega, by go_num, HB2.out, (show Aside _ from fun j hj t ht => ?_)⟩
          by_cases e : j = k
          · subst e
            rw [HV.out] at ht
            obtain rfl := Option.some.inj ht
            exact HP.out
          · exact HN.out j (by omega) t ht
        case measure => simp [intOf]; omega
    · have hlt' : ¬ (k : Int) < (L.length : Int) := by omega
      go_wp2
      go_ret
      exact ⟨by rw [fi_denies_miss fun j hj => HN.out j (by omega)]; rfl, HW.out⟩
theorem contains_denies (A B : Option Addr) (c d : Nat) (S : List Vp) (L : List Sp) (w : World) (hA : Rn.At encV w A S) (hB : VarsAt w B L) (hl : L.length ≤ 300) :
    Calls Try.prog 68 #[.slice B L.length d, .func (.func 69) #[.slice A S.length c] #[]] w fun e w' => e = .returned (.bool (L.any (denies S))) ∧ Below w.heap.size w w' := by
  have hge := fi_denies_ge S L
  have HC := Lib.hid (index_denies A B c d S L w hA hB hl)
  clear hA hB
  generalize L.any (denies S) = r at hge ⊢
  generalize fi_denies S L = k at HC hge
  go_enter Try.func68, Try.ntmps68
  go_wp2_with fail
  refine HC.out.mono ?_
  rintro e w' ⟨rfl, hb⟩
  go_wp2
  go_ret
  exact ⟨rfl, hb⟩
/-- the first place at which it holds, or -1. -/
def fi_lacks (S : List Vp) (L : List Sp) : Int := match L.findIdx? (lacks S) with | some k => (k : Nat) | none => -1
theorem fi_lacks_ge (S : List Vp) (L : List Sp) : decide (fi_lacks S L ≥ 0) = L.any (lacks S) := by
  unfold fi_lacks
  cases h : L.findIdx? (lacks S) with
  | none =>
    have := List.findIdx?_eq_none_iff.1 h
    have e : L.any (lacks S) = false := by rw [List.any_eq_false]; intro x hx; simpa using this x hx
    rw [e]; rfl
  | some k =>
    obtain ⟨hl, h1, _⟩ := List.findIdx?_eq_some_iff_getElem.1 h
    have e : L.any (lacks S) = true := List.any_eq_true.2 ⟨_, List.getElem_mem hl, h1⟩
    rw [e]; simp
theorem fi_lacks_hit {S : List Vp} {L : List Sp} {k : Nat} {s : Sp} (h : L[k]? = some s) (hp : lacks S s = true) (hn : ∀ j : Nat, j < k → ∀ t, L[j]? = some t → lacks S t = false) : fi_lacks S L = (k : Nat) := by
  obtain ⟨hl, rfl⟩ := List.getElem?_eq_some_iff.1 h
  have : L.findIdx? (lacks S) = some k := List.findIdx?_eq_some_iff_getElem.2 ⟨hl, hp, fun j hj => by rw [hn j hj _ (List.getElem?_eq_getElem (by omega))]; simp⟩
  unfold fi_lacks; rw [this]
theorem fi_lacks_miss {S : List Vp} {L : List Sp} (hn : ∀ j : Nat, j < L.length → ∀ t, L[j]? = some t → lacks S t = false) : fi_lacks S L = -1 := by
  have : L.findIdx? (lacks S) = none := List.findIdx?_eq_none_iff.2 fun x hx => by
    obtain ⟨j, hj, rfl⟩ := List.getElem_of_mem hx
    exact hn j hj _ (List.getElem?_eq_getElem hj)
  unfold fi_lacks; rw [this]
set_option maxHeartbeats 2000000 in
theorem index_lacks (A B : Option Addr) (c d : Nat) (S : List Vp) (L : List Sp) (w : World) (hA : Rn.At encV w A S) (hB : VarsAt w B L) (hl : L.length ≤ 300) :
    Calls Try.prog 83 #[.slice B L.length d, .func (.func 70) #[.slice A S.length c] #[]] w fun e w' => e = .returned (.int .i64 (fi_lacks S L)) ∧ Below w.heap.size w w' := by
  have HA := Lib.hid hA
  have HB := Lib.hid hB
  clear hA hB
  go_enter Try.func83, Try.ntmps83
  go_wp2
  go_loopw [8] (fun i wr => ∃ k : Nat, k ≤ L.length ∧ i = .int .i64 k ∧ Aside (Below w.heap.size w wr) ∧ Aside (∀ j : Nat, j < k → ∀ t, L[j]? = some t → lacks S t = false)) (fun i _ => L.length - (intOf i).toNat)
  case atStart => exact ⟨0, Nat.zero_le _, rfl, Below.refl _ _, fun j hj => absurd hj (Nat.not_lt_zero _)⟩
  case round =>
    obtain ⟨k, hk, rfl, HW, HN⟩ := hrel
    by_cases hlt : k < L.length
    · obtain ⟨ad, v, rfl, hv, hok, h5⟩ := (HB.out.below HW.out (Nat.le_refl _)).at_ hlt
      obtain ⟨c0, c1, c2, c3⟩ := h5
      have HV := Lib.hid hv
      clear hv hok
      have hlt' : (k : Int) < (L.length : Int) := by omega
      have h0 : (0 : Int) ≤ (k : Int) := by omega
      cases hp : lacks S v with
      | true =>
        have HP := Lib.hid hp
        clear hp
        go_wp2_with fail
        refine (lacks_any A c S v wr).mono ?_
        rw [HP.out]
        rintro e w2 ⟨rfl, hb⟩
        go_wp2
        go_ret
        exact ⟨by rw [fi_lacks_hit HV.out HP.out HN.out]; rfl, HW.out.trans (hb.mono HW.out.size)⟩
      | false =>
        have HP := Lib.hid hp
        clear hp
        go_wp2_with fail
        refine (lacks_any A c S v wr).mono ?_
        rw [HP.out]
        rintro e w2 ⟨rfl, hb⟩
        have HB2 := Lib.hid (HW.out.trans (hb.mono HW.out.size))
        clear hb c0 c1 c2 c3
        go_wp2
        go_roundw
        case rel =>
          refine ⟨k + 1, by omega, by go_num, HB2.out, (show Aside _ from fun j hj t ht => ?_)⟩
          by_cases e : j = k
          · subst e
            rw [HV.out] at ht
            obtain rfl := Option.some.inj ht
            exact HP.out
          · exact HN.out j (by omega) t ht
        case measure => simp [intOf]; omega
    · have hlt' : ¬ (k : Int) < (L.length : Int) := by omega
      go_wp2
      go_ret
      exact ⟨by rw [fi_lacks_miss fun j hj => HN.out j (by omega)]; rfl, HW.out⟩
theorem contains_lacks (A B : Option Addr) (c d : Nat) (S : List Vp) (L : List Sp) (w : World) (hA : Rn.At encV w A S) (hB : VarsAt w B L) (hl : L.length ≤ 300) :
    Calls Try.prog 68 #[.slice B L.length d, .func (.func 70) #[.slice A S.length c] #[]] w fun e w' => e = .returned (.bool (L.any (lacks S))) ∧ Below w.heap.size w w' := by
  have hge := fi_lacks_ge S L
  have HC := Lib.hid (index_lacks A B c d S L w hA hB hl)
  clear hA hB
  generalize L.any (lacks S) = r at hge ⊢
  generalize fi_lacks S L = k at HC hge
  go_enter Try.func68, Try.ntmps68
  go_wp2_with fail
  refine HC.out.mono ?_
  rintro e w' ⟨rfl, hb⟩
  go_wp2
  go_ret
  exact ⟨rfl, hb⟩
end Go.Proofs.Ytaonepbongbhoaa.Rp
namespace Go.Proofs.Ytaonepbongbhoaa.Rp
open Go.RowKit Tx
theorem put_snoc {S : List Vp} {W : List Sp} {k : Nat} {s : Sp} (h : W[k]? = some s) : put S (W.take (k + 1)) = (put S (W.take k)).set s.x.toNat (s.k, s.n) := by
  rw [Rn.step_take h]; unfold put; rw [List.foldl_append]; rfl
/-- the entry's slices stay, as long as what lies below a point does. -/
def Stay (base : Nat) (w : World) (x : Xc) : Prop := ∀ W, Below base w W → RdX W x
theorem Stay.below {base : Nat} {w w' : World} {x : Xc} (h : Stay base w x) (hb : Below base w w') : Stay base w' x := fun W hW => h W (hb.trans hW)
theorem own_get0 {w : World} {base g n cap : Nat} {e : TypeId} {L : List Vp} (h : Rn.Own encV w base e (.slice (some ⟨g, 0, none⟩) n cap) L) {j : Nat} {v : Vp} (hv : L[j]? = some v) : w.cell? ⟨g, j * 2, none⟩ = some (.int .i64 v.1) := h.get hv 0 (by decide)
theorem own_get1 {w : World} {base g n cap : Nat} {e : TypeId} {L : List Vp} (h : Rn.Own encV w base e (.slice (some ⟨g, 0, none⟩) n cap) L) {j : Nat} {v : Vp} (hv : L[j]? = some v) : w.cell? ⟨g, j * 2 + 1, none⟩ = some (.int .i64 v.2) := h.get hv 1 (by decide)
theorem own_put {w : World} {base g n cap : Nat} {e : TypeId} {L : List Vp} (h : Rn.Own encV w base e (.slice (some ⟨g, 0, none⟩) n cap) L) {j : Nat} (hj : j < L.length) (k m : Int) :
    Rn.Own encV ((w.setCell ⟨g, j * 2, none⟩ (.int .i64 k)).setCell ⟨g, j * 2 + 1, none⟩ (.int .i64 m)) base e (.slice (some ⟨g, 0, none⟩) n cap) (L.set j (k, m)) := by
  have hv := List.getElem?_eq_getElem hj
  have h1 := h.put hv (v' := (k, L[j].2)) 0 (by decide) (.int .i64 k) rfl
  have h2 := h1.put (j := j) (List.getElem?_set_self hj) (v' := (k, m)) 1 (by decide) (.int .i64 m) rfl
  rw [List.set_set] at h2
  exact h2
theorem own_open {w : World} {base : Nat} {e : TypeId} {v : Value} {L : List Vp} (h : Rn.Own encV w base e v L) (hl : 0 < L.length) : ∃ g cap, v = .slice (some ⟨g, 0, none⟩) L.length cap := by
  rcases h.2 with ⟨_, h0⟩ | ⟨g, cap, cur, rfl, hb, hg, _⟩
  · omega
  · exact ⟨g, cap, rfl⟩
/-- the box of an entry. -/
structure EBox (w : World) (b : Nat) (x : Xc) : Prop where
  is : w.heap[b]? = some (.cells (entA x) 44 (0, 0))
theorem EBox.new (w : World) (x : Xc) : EBox (w.alloc (.cells (entA x) 44)) w.heap.size x := ⟨heap_alloc_new w _⟩
theorem EBox.lt {w : World} {b : Nat} {x : Xc} (h : EBox w b x) : b < w.heap.size := (Array.getElem?_eq_some_iff.1 h.is).1
theorem EBox.below {w w' : World} {b : Nat} {x : Xc} {B : Nat} (h : EBox w b x) (hb : Below B w w') (hB : b < B) : EBox w' b x := ⟨(hb.block b hB).trans h.is⟩
theorem EBox.c0 {w : World} {b : Nat} {x : Xc} (h : EBox w b x) : w.cell? ⟨b, 0, none⟩ = some (.int .i64 x.e.id) := cell_of_row w b 0 _ _ (0, 0) h.is
theorem EBox.c1 {w : World} {b : Nat} {x : Xc} (h : EBox w b x) : w.cell? ⟨b, 1, none⟩ = some (.bool x.e.com) := cell_of_row w b 1 _ _ (0, 0) h.is
theorem EBox.c2 {w : World} {b : Nat} {x : Xc} (h : EBox w b x) : w.cell? ⟨b, 2, none⟩ = some (.bool x.e.ovr) := cell_of_row w b 2 _ _ (0, 0) h.is
theorem EBox.c3 {w : World} {b : Nat} {x : Xc} (h : EBox w b x) : w.cell? ⟨b, 3, none⟩ = some (.slice x.A x.e.rd.length x.c) := cell_of_row w b 3 _ _ (0, 0) h.is
theorem EBox.c4 {w : World} {b : Nat} {x : Xc} (h : EBox w b x) : w.cell? ⟨b, 4, none⟩ = some (.slice x.B x.e.wt.length x.d) := cell_of_row w b 4 _ _ (0, 0) h.is
def DoPost (base : Nat) (v : Value) (S : List Vp) (e : Ent) (w : World) (x : Ending) (w' : World) : Prop := x = .returned (.bool (fits S e)) ∧ Rn.Own encV w' base 46 v (doS S e) ∧ Below base w w'
def DoRel (base : Nat) (v : Value) (S : List Vp) (W : List Sp) (w : World) (i : Value) (wr : World) : Prop := ∃ k : Nat, k ≤ W.length ∧ i = .int .i64 k ∧ Rn.Own encV wr base 46 v (put S (W.take k)) ∧ Below base w wr
theorem lacks_none {S : List Vp} {W : List Sp} (h : W.any (lacks S) = false) {k : Nat} {s : Sp} (hs : W[k]? = some s) : 0 ≤ s.x ∧ s.x < (S.length : Int) := by
  have := List.any_eq_false.1 h s (List.mem_of_getElem? hs)
  exact (has_iff S s.x).1 (by simpa [lacks] using this)
set_option maxHeartbeats 4000000 in
set_option maxRecDepth 100000 in
theorem do_any (base : Nat) (v : Value) (S : List Vp) (x : Xc) (w : World) (hv : Rn.Own encV w base 46 v S) (hx : Stay base w x) (hbase : base ≤ w.heap.size) (h1 : x.e.rd.length ≤ 300) (h2 : x.e.wt.length ≤ 300) (hS : S.length ≤ 300) :
    Calls Try.prog 57 #[v, .agg #[.int .i64 x.e.id, .bool x.e.com, .bool x.e.ovr, .slice x.A x.e.rd.length x.c, .slice x.B x.e.wt.length x.d]] w (DoPost base v S x.e w) := by
  obtain ⟨A, c, rfl, hc1, hc2, hA, hfr⟩ := hv.slice
  have HV := Lib.hid hv
  have HA := Lib.hid hA
  have HX := Lib.hid hx
  have HX0 := Lib.hid (EBox.new w x)
  have HB0 := Lib.hid (show Below base w (w.alloc (.cells (entA x) 44)) from (Below.refl _ _).alloc hbase _)
  have HS0 := Lib.hid (below_new w (.cells (entA x) 44))
  unfold entA at HX0 HB0 HS0
  clear hv hA hx hfr hc1 hc2
  have HBS := Lib.hid hbase
  clear hbase
  unfold DoPost
  cases hr : x.e.rd.any (denies S) with
  | true =>
    have hf : fits S x.e = false := by unfold fits; rw [hr]; rfl
    have hd : doS S x.e = S := by unfold doS; rw [hf]; rfl
    rw [hf, hd]
    have HR := Lib.hid hr
    clear hf hd hr
    go_enter Try.func57, Try.ntmps57
    go_wp2_with fail
    refine (contains_denies A x.A c x.c S x.e.rd _ (HA.out.below HS0.out (Nat.le_refl _)) (HX.out _ HB0.out).rd.at_ h1).mono ?_
    rw [HR.out]
    rintro e w1 ⟨rfl, hb⟩
    have HB1 := Lib.hid (HS0.out.trans (hb.mono HS0.out.size))
    clear hb
    go_wp2
    go_ret
    exact ⟨rfl, HV.out.below HB1.out (Nat.le_refl _), HB1.out.mono HBS.out⟩
  | false =>
    have HR := Lib.hid hr
    clear hr
    cases hw : x.e.wt.any (lacks S) with
    | true =>
      have hf : fits S x.e = false := by unfold fits; rw [HR.out, hw]; rfl
      have hd : doS S x.e = S := by unfold doS; rw [hf]; rfl
      rw [hf, hd]
      have HW := Lib.hid hw
      clear hf hd hw
      go_enter Try.func57, Try.ntmps57
      go_wp2_with fail
      refine (contains_denies A x.A c x.c S x.e.rd _ (HA.out.below HS0.out (Nat.le_refl _)) (HX.out _ HB0.out).rd.at_ h1).mono ?_
      rw [HR.out]
      rintro e w1 ⟨rfl, hb⟩
      have HB1 := Lib.hid (HS0.out.trans (hb.mono HS0.out.size))
      have HX1 := Lib.hid (HX0.out.below hb (by simp))
      clear hb
      have b4 := HX1.out.c4
      go_wp2_with fail
      refine (contains_lacks A x.B c x.d S x.e.wt _ (HA.out.below HB1.out (Nat.le_refl _)) (HX.out _ (HB1.out.mono HBS.out)).wt.at_ h2).mono ?_
      rw [HW.out]
      rintro e w2 ⟨rfl, hb⟩
      have HB2 := Lib.hid (HB1.out.trans (hb.mono HB1.out.size))
      clear hb b4
      go_wp2
      go_ret
      exact ⟨rfl, HV.out.below HB2.out (Nat.le_refl _), HB2.out.mono HBS.out⟩
    | false =>
      have hf : fits S x.e = true := by unfold fits; rw [HR.out, hw]; rfl
      have hd : doS S x.e = next S x.e := by unfold doS; rw [hf]; rfl
      obtain ⟨S', hS'⟩ : ∃ S', S' = (if x.e.com then put S x.e.wt else S) := ⟨_, rfl⟩
      have hn : next S x.e = S' := hS'.symm
      rw [hf, hd, hn]
      have HW := Lib.hid hw
      have HN := Lib.hid hS'
      clear hf hd hw hS' hn
      go_enter Try.func57, Try.ntmps57
      go_wp2_with fail
      refine (contains_denies A x.A c x.c S x.e.rd _ (HA.out.below HS0.out (Nat.le_refl _)) (HX.out _ HB0.out).rd.at_ h1).mono ?_
      rw [HR.out]
      rintro e w1 ⟨rfl, hb⟩
      have HB1 := Lib.hid (HS0.out.trans (hb.mono HS0.out.size))
      have HX1 := Lib.hid (HX0.out.below hb (by simp))
      have HZ1 := Lib.hid (show w.heap.size < w1.heap.size from by have := hb.size; simp at this; omega)
      clear hb
      have b4 := HX1.out.c4
      go_wp2_with fail
      refine (contains_lacks A x.B c x.d S x.e.wt _ (HA.out.below HB1.out (Nat.le_refl _)) (HX.out _ (HB1.out.mono HBS.out)).wt.at_ h2).mono ?_
      rw [HW.out]
      rintro e w2 ⟨rfl, hb⟩
      have HB2 := Lib.hid (HB1.out.trans (hb.mono HB1.out.size))
      have HX2 := Lib.hid (HX1.out.below hb HZ1.out)
      have HV2 := Lib.hid (HV.out.below HB2.out (Nat.le_refl _))
      clear hb b4
      have b1 := HX2.out.c1
      have b4 := HX2.out.c4
      cases hc : x.e.com with
      | false =>
        rw [hc] at b1
        have HC := Lib.hid hc
        clear hc
        go_wp2
        go_ret
        have hN := HN.out
        rw [HC.out] at hN
        exact ⟨rfl, by rw [hN]; exact HV2.out, HB2.out.mono HBS.out⟩
      | true =>
        rw [hc] at b1
        have HC := Lib.hid hc
        clear hc
        go_wp2
        go_loopw [25] (DoRel base (.slice A S.length c) S x.e.wt w) (fun i _ => x.e.wt.length - (intOf i).toNat)
        case atStart => exact ⟨0, Nat.zero_le _, rfl, HV2.out, HB2.out.mono HBS.out⟩
        case round =>
          obtain ⟨k, hk, rfl, ho, hb⟩ := hrel
          have HO := Lib.hid ho
          have HB := Lib.hid hb
          clear ho hb b1 b4
          by_cases hlt : k < x.e.wt.length
          · obtain ⟨ad, s, hB, hs, hok, h5⟩ := (HX.out _ HB.out).wt.at_.at_ hlt
            obtain ⟨c0, c1, c2, c3⟩ := h5
            obtain ⟨r0, r1⟩ := lacks_none HW.out hs
            obtain ⟨j, hj⟩ := Int.eq_ofNat_of_zero_le r0
            have hjl : j < S.length := by omega
            obtain ⟨g, cap, hg⟩ := own_open HV.out (by omega)
            have hAg := (Value.slice.inj hg).1
            have hcg := (Value.slice.inj hg).2.2
            subst hAg; subst hcg
            rw [hj] at c0
            have HSN := Lib.hid (put_snoc (S := S) hs)
            rw [hj, Int.toNat_natCast] at HSN
            have hl : (put S (x.e.wt.take k)).length = S.length := put_len _ _
            have hjp : j < (put S (x.e.wt.take k)).length := by omega
            have HO1 := Lib.hid (own_put (HO.out.alloc (.cells #[.int .i64 (j : Nat), .int .i64 s.k, .int .i64 s.n, .bool s.wr] 48)) hjp s.k s.n)
            obtain ⟨vo, hve⟩ : ∃ vo, (put S (x.e.wt.take k))[j]? = some vo := ⟨_, List.getElem?_eq_getElem hjp⟩
            have d0 := own_get0 (HO.out.alloc (.cells #[.int .i64 (j : Nat), .int .i64 s.k, .int .i64 s.n, .bool s.wr] 48)) hve
            have d1 := own_get1 (HO.out.alloc (.cells #[.int .i64 (j : Nat), .int .i64 s.k, .int .i64 s.n, .bool s.wr] 48)) hve
            have fz := (HO.out.alloc (.cells #[.int .i64 (j : Nat), .int .i64 s.k, .int .i64 s.n, .bool s.wr] 48)).free
            have hgb := HO.out.lt
            have HB1 := Lib.hid (((HB.out.alloc (Nat.le_trans HBS.out HB.out.size) (.cells #[.int .i64 (j : Nat), .int .i64 s.k, .int .i64 s.n, .bool s.wr] 48)).setCell (p := ⟨g, j * 2, none⟩) hgb.1 (.int .i64 s.k)).setCell (p := ⟨g, j * 2 + 1, none⟩) hgb.1 (.int .i64 s.n))
            have hlt' : (k : Int) < (x.e.wt.length : Int) := by omega
            have hji : (j : Int) < (S.length : Int) := by omega
            clear hs hok hj r0 r1 hl hjp hve hg hgb
            go_wp2
            go_round
            case rel => exact ⟨k + 1, by omega, by go_num, by rw [HSN.out]; exact HO1.out, HB1.out⟩
            case measure => simp [intOf]; omega
          · have hlt' : ¬ (k : Int) < (x.e.wt.length : Int) := by omega
            go_wp2
            go_ret
            have := HO.out
            rw [List.take_of_length_le (by omega)] at this
            have hN := HN.out
            rw [HC.out] at hN
            exact ⟨rfl, by rw [hN]; exact this, HB.out⟩
end Go.Proofs.Ytaonepbongbhoaa.Rp
namespace Go.Proofs.Ytaonepbongbhoaa.Rp
open Go.RowKit Tx
theorem RdX.stay {w : World} {x : Xc} {B : Nat} (h : RdX w x) (hB : w.heap.size ≤ B) : Stay B w x := fun W hW => ⟨⟨h.rd.at_.below hW hB, h.rd.le, h.rd.max⟩, ⟨h.wt.at_.below hW hB, h.wt.le, h.wt.max⟩⟩
def DoesPost (S : List Vp) (e : Ent) (w : World) (x : Ending) (w' : World) : Prop := ∃ v, x = .returned (.tuple #[v, .bool (fits S e)]) ∧ Rn.Own encV w' w.heap.size 46 v (doS S e) ∧ Below w.heap.size w w'
def AllPost (S : List Vp) (l : List Ent) (w : World) (x : Ending) (w' : World) : Prop := ∃ v, x = .returned (.tuple #[v, .int .i64 (allN S l)]) ∧ Rn.Own encV w' w.heap.size 46 v (allS S l) ∧ Below w.heap.size w w'
def AllRel (S : List Vp) (l : List Ent) (v : Value) (w : World) (i : Value) (wr : World) : Prop := ∃ (k : Nat) (S' : List Vp), k ≤ l.length ∧ i = .int .i64 k ∧ Stand S l k S' ∧ Rn.Own encV wr w.heap.size 46 v S' ∧ Below w.heap.size w wr
set_option maxHeartbeats 4000000 in
set_option maxRecDepth 100000 in
theorem all_any (A B : Option Addr) (c d : Nat) (S : List Vp) (X : List Xc) (l : List Ent) (w : World) (hA : Rn.At encV w A S) (hX : ItAt w B X l) (hf : few l) (hl : l.length ≤ 10000) (hS : S.length ≤ 300) :
    Calls Try.prog 42 #[.slice A S.length c, .slice B l.length d] w (AllPost S l w) := by
  have HA := Lib.hid hA
  have HX := Lib.hid hX
  have HF := Lib.hid hf
  clear hA hX hf
  have hN : (l.length : Int) ≤ 9223372036854775807 := by omega
  unfold AllPost
  generalize hal : allN S l = n
  generalize has' : allS S l = S2
  have HAN := Lib.hid hal
  have HAS := Lib.hid has'
  clear hal has'
  go_enter Try.func42, Try.ntmps42
  go_wp2_with fail
  refine (vclone_any A c S _ HA.out hS).mono ?_
  rintro e w1 ⟨v, rfl, ho, hb⟩
  have HO1 := Lib.hid ho
  have HB1 := Lib.hid hb
  clear ho hb
  go_wp2
  go_loopw [13] (AllRel S l v w) (fun i _ => l.length - (intOf i).toNat)
  case atStart => exact ⟨0, S, Nat.zero_le _, rfl, Stand.zero _ _, HO1.out, HB1.out⟩
  case round =>
    obtain ⟨k, S', hk, rfl, hst, ho, hb⟩ := hrel
    have HST := Lib.hid hst
    have HO := Lib.hid ho
    have HB := Lib.hid hb
    clear hst ho hb
    by_cases hlt : k < l.length
    · obtain ⟨ad, x, rfl, hXk, hlk, hrd, h5⟩ := (HX.out.below HB.out (Nat.le_refl _)).at_ hlt
      obtain ⟨c0, c1, c2, c3, c4⟩ := h5
      have HLK := Lib.hid hlk
      have HX0 := Lib.hid (EBox.new wr x)
      have HS0 := Lib.hid ((HB.out).alloc (HB.out.size) (.cells (entA x) 44))
      have HSK := Lib.hid (show Stay w.heap.size w x from (HX.out.rd x (List.mem_of_getElem? hXk)).stay (Nat.le_refl _))
      have HFW := Lib.hid (HF.out x.e (List.mem_of_getElem? hlk))
      have HL := Lib.hid (show S'.length ≤ 300 by rw [HST.out.len]; exact hS)
      have HO0 := Lib.hid (HO.out.alloc (.cells (entA x) 44))
      unfold entA at HX0 HS0 HO0
      clear hXk hlk hrd
      have hlt' : (k : Int) < (l.length : Int) := by omega
      have h0 : (0 : Int) ≤ (k : Int) := by omega
      have HZ := Lib.hid HB.out.size
      cases hf : fits S' x.e with
      | true =>
        have HFT := Lib.hid hf
        clear hf
        go_wp2_with fail
        refine (do_any w.heap.size v S' x _ HO0.out (HSK.out.below HS0.out) HS0.out.size HFW.out.1 HFW.out.2 HL.out).mono ?_
        unfold DoPost
        rw [HFT.out]
        rintro e w2 ⟨rfl, ho, hb⟩
        have hd : doS S' x.e = next S' x.e := by unfold doS; rw [HFT.out]; rfl
        rw [hd] at ho
        have HO2 := Lib.hid ho
        have HB2 := Lib.hid (HS0.out.trans hb)
        clear ho hb c0 c1 c2 c3 c4 hd
        go_wp2
        go_roundw
        case rel => exact ⟨k + 1, _, by omega, by go_num, HST.out.step HLK.out HFT.out, HO2.out, HB2.out⟩
        case measure => simp [intOf]; omega
      | false =>
        have HFT := Lib.hid hf
        clear hf
        go_wp2_with fail
        refine (do_any w.heap.size v S' x _ HO0.out (HSK.out.below HS0.out) HS0.out.size HFW.out.1 HFW.out.2 HL.out).mono ?_
        unfold DoPost
        rw [HFT.out]
        rintro e w2 ⟨rfl, ho, hb⟩
        have hd : doS S' x.e = S' := by unfold doS; rw [HFT.out]; rfl
        rw [hd] at ho
        have HO2 := Lib.hid ho
        have HB2 := Lib.hid (HS0.out.trans hb)
        clear ho hb c0 c1 c2 c3 c4 hd
        obtain ⟨e1, e2⟩ := HST.out.stop HLK.out HFT.out
        have e3 := HAS.out.symm.trans e1
        have e4 := HAN.out.symm.trans e2
        subst e3; subst e4
        go_wp2
        go_ret2
        exact ⟨v, rfl, HO2.out, HB2.out⟩
    · have hlt' : ¬ (k : Int) < (l.length : Int) := by omega
      obtain ⟨e1, e2⟩ := HST.out.end_ (by omega)
      have e3 := HAS.out.symm.trans e1
      have e4 := HAN.out.symm.trans e2
      subst e3; subst e4
      go_wp2
      go_ret2
      exact ⟨v, rfl, HO.out, HB.out⟩
end Go.Proofs.Ytaonepbongbhoaa.Rp
