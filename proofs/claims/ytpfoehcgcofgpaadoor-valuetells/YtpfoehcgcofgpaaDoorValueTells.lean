/-
  The walk of ValueTells.
-/
import Derived.Test.YtpfoehcgcofgpaaDoorValuePair
namespace Go.Proofs.YtpfoehcgcofgpaaDoor
open Go.RowKit
/-- nothing that was there has changed since. -/
structure From (V W : World) : Prop where
  bel : Below V.heap.size V W
theorem From.below {V W W' : World} (h : From V W) (hb : Below W.heap.size W W') : From V W' := ⟨h.bel.trans (hb.mono h.bel.size)⟩
theorem from_drew (V : World) : From V V.drew := ⟨below_drew V⟩
theorem From.setv {V W : World} (h : From V W) {g : Nat} (hg : V.heap.size ≤ g) (x y : Value) : From V ((W.setCell ⟨g, 0, none⟩ x).setCell ⟨g, 1, none⟩ y) := ⟨below_put h.bel hg _ _⟩
structure TSt (w : World) (ka a kb b : Int) (g1 g2 gs : Nat) (W : World) : Prop where
  p : Pair w ka a kb b g1 g2 W
  f : Fns gs W
theorem TSt.below {w W W' : World} {ka a kb b : Int} {g1 g2 gs : Nat} (h : TSt w ka a kb b g1 g2 gs W) (hb : Below W.heap.size W W') : TSt w ka a kb b g1 g2 gs W' := ⟨h.p.below hb, h.f.below hb⟩
theorem add_E (ka a kb b x y z : Int) (w : World) (h : did (· + ·) ka a kb b = (x, y, z)) :
    Calls Tryd.prog 10 #[.agg #[.int .i64 ka, .int .i64 a], .agg #[.int .i64 kb, .int .i64 b]] w fun e w' => e = .returned (.tuple #[.agg #[.int .i64 x, .int .i64 y], .int .i64 z]) ∧ Below w.heap.size w w' := by
  have := add_any ka a kb b w
  rw [h] at this; exact this
theorem sub_E (ka a kb b x y z : Int) (w : World) (h : did (· - ·) ka a kb b = (x, y, z)) :
    Calls Tryd.prog 11 #[.agg #[.int .i64 ka, .int .i64 a], .agg #[.int .i64 kb, .int .i64 b]] w fun e w' => e = .returned (.tuple #[.agg #[.int .i64 x, .int .i64 y], .int .i64 z]) ∧ Below w.heap.size w w' := by
  have := sub_any ka a kb b w
  rw [h] at this; exact this
theorem mul_E (ka a kb b x y z : Int) (w : World) (h : did (· * ·) ka a kb b = (x, y, z)) :
    Calls Tryd.prog 12 #[.agg #[.int .i64 ka, .int .i64 a], .agg #[.int .i64 kb, .int .i64 b]] w fun e w' => e = .returned (.tuple #[.agg #[.int .i64 x, .int .i64 y], .int .i64 z]) ∧ Below w.heap.size w w' := by
  have := mul_any ka a kb b w
  rw [h] at this; exact this
theorem radd_E (ka a kb b x y z : Int) (w : World) (h : did (· + ·) ka a kb b = (x, y, z)) :
    Calls Tryd.prog 13 #[.int .u8 43, .agg #[.int .i64 ka, .int .i64 a], .agg #[.int .i64 kb, .int .i64 b]] w fun e w' => e = .returned (.tuple #[.agg #[.int .i64 x, .int .i64 y], .int .i64 z]) ∧ Below w.heap.size w w' := by
  have := rdo_any 0 ka a kb b w
  rw [show did (opOf 0) ka a kb b = (x, y, z) from h] at this; exact this
theorem rsub_E (ka a kb b x y z : Int) (w : World) (h : did (· - ·) ka a kb b = (x, y, z)) :
    Calls Tryd.prog 13 #[.int .u8 45, .agg #[.int .i64 ka, .int .i64 a], .agg #[.int .i64 kb, .int .i64 b]] w fun e w' => e = .returned (.tuple #[.agg #[.int .i64 x, .int .i64 y], .int .i64 z]) ∧ Below w.heap.size w w' := by
  have := rdo_any 1 ka a kb b w
  rw [show did (opOf 1) ka a kb b = (x, y, z) from h] at this; exact this
theorem rmul_E (ka a kb b x y z : Int) (w : World) (h : did (· * ·) ka a kb b = (x, y, z)) :
    Calls Tryd.prog 13 #[.int .u8 42, .agg #[.int .i64 ka, .int .i64 a], .agg #[.int .i64 kb, .int .i64 b]] w fun e w' => e = .returned (.tuple #[.agg #[.int .i64 x, .int .i64 y], .int .i64 z]) ∧ Below w.heap.size w w' := by
  have := rdo_any 2 ka a kb b w
  rw [show did (opOf 2) ka a kb b = (x, y, z) from h] at this; exact this
theorem less_E (ka a kb b : Int) (l : Bool) (z : Int) (w : World) (h : lesd ka a kb b = (l, z)) :
    Calls Tryd.prog 14 #[.agg #[.int .i64 ka, .int .i64 a], .agg #[.int .i64 kb, .int .i64 b]] w fun e w' => e = .returned (.tuple #[.bool l, .int .i64 z]) ∧ Below w.heap.size w w' := by
  have := less_any ka a kb b w
  rw [h] at this; exact this
theorem rless_E (ka a kb b : Int) (l : Bool) (z : Int) (w : World) (h : lesd ka a kb b = (l, z)) :
    Calls Tryd.prog 15 #[.agg #[.int .i64 ka, .int .i64 a], .agg #[.int .i64 kb, .int .i64 b]] w fun e w' => e = .returned (.tuple #[.bool l, .int .i64 z]) ∧ Below w.heap.size w w' := by
  have := rless_any ka a kb b w
  rw [h] at this; exact this
set_option maxHeartbeats 8000000 in
set_option maxRecDepth 100000 in
theorem tells_walk (ka a kb b : Int) (w : World) (ha : Va.i64p a) (hL : Laid w) : Calls Tryd.prog 3 #[.agg #[.int .i64 ka, .int .i64 a], .agg #[.int .i64 kb, .int .i64 b]] w fun e w' => e = .returned (.bool true) ∧ Below w.heap.size w w' := by
  obtain ⟨x0, y0, z0, hD0⟩ : ∃ x y z, did (· + ·) ka a kb b = (x, y, z) := ⟨_, _, _, rfl⟩
  obtain ⟨x1, y1, z1, hD1⟩ : ∃ x y z, did (· - ·) ka a kb b = (x, y, z) := ⟨_, _, _, rfl⟩
  obtain ⟨x2, y2, z2, hD2⟩ : ∃ x y z, did (· * ·) ka a kb b = (x, y, z) := ⟨_, _, _, rfl⟩
  obtain ⟨l, z, hle⟩ : ∃ l z, lesd ka a kb b = (l, z) := ⟨_, _, rfl⟩
  obtain ⟨r, hr⟩ : ∃ r, Va.right ka a = r := ⟨_, rfl⟩
  have HL := Lib.hid hL
  have HA := Lib.hid ha
  have HD0 := Lib.hid hD0
  have HD1 := Lib.hid hD1
  have HD2 := Lib.hid hD2
  have HE := Lib.hid hle
  have HR := Lib.hid hr
  clear hL ha hD0 hD1 hD2 hle hr
  go_enter Tryd.func3, Tryd.ntmps3
  go_wp2_with fail
  refine (alive_any _ ((HL.out.alloc _).alloc _)).mono ?_
  rintro e w1 ⟨rfl, hb1⟩
  have hB := boxes_new HL.out hb1
  have HB := Lib.hid hB
  have c0 := hB.xr.fst
  have c1 := hB.xr.snd
  have d0 := hB.yr.fst
  have d1 := hB.yr.snd
  have hlt0 := hB.xr.lt
  have hlt1 := hB.yr.lt
  clear hb1 hB
  go_wp2_with fail
  go_cut [5, 6] from 19 to 20 (fun u v wx => ∃ g1 g2, u = .pointer (some ⟨g1, 0, none⟩) ∧ v = .pointer (some ⟨g2, 0, none⟩) ∧ Pair w ka a kb b g1 g2 wx)
  case first =>
    go_region
    all_goals (go_wp2_with fail; go_meet)
    · exact ⟨_, _, rfl, rfl, pair_xy HB.out⟩
    · exact ⟨_, _, rfl, rfl, pair_yx HB.out⟩
  case rest =>
    obtain ⟨g1, g2, rfl, rfl, hp⟩ := hcut
    clear c0 c1 d0 d1 hlt0 hlt1 HB
    have HP := Lib.hid hp
    clear hp
    go_wp2_with fail
    go_loopw [23] (FnRel w ka a kb b g1 g2 wc.heap.size) (fun i _ => 3 - (intOf i).toNat)
    case atStart => exact ⟨0, by omega, by omega, rfl, HP.out.alloc _, fns_new _⟩
    case round =>
      obtain ⟨k, hk0, hk3, rfl, hp, hf⟩ := hrel
      clear HP
      have c0 := hp.x.fst
      have c1 := hp.x.snd
      have d0 := hp.y.fst
      have d1 := hp.y.snd
      have e0 := hf.c0
      have e1 := hf.c1
      have e2 := hf.c2
      have HP := Lib.hid (TSt.mk hp hf)
      clear hp hf
      rcases four_cases hk0 hk3 with rfl | rfl | rfl | rfl
      · clear hk0 hk3
        go_wp2_with fail
        refine (add_E ka a kb b x0 y0 z0 _ HD0.out).mono ?_
        rintro e w2 ⟨rfl, hb2⟩
        have HP2 := Lib.hid ((HP.out.below hb2).below (below_new w2 (.cells #[.int .i64 x0, .int .i64 y0] 25)))
        have HV2 := Lib.hid (valAt_new w2 x0 y0 25)
        clear hb2 c0 c1 d0 d1 e0 e1 e2
        go_wp2_with fail
        generalize hwz : w2.alloc (.cells #[.int .i64 x0, .int .i64 y0] 25) = wz at *
        go_cut [11, 12] from 35 to 42 (fun u v wx => ∃ g, u = .pointer (some ⟨g, 0, none⟩) ∧ v = .int .i64 z0 ∧ From wz wx ∧ ValAt wx g 23 x0 y0)
        case first =>
          refine wp_region_noPanic ?_
          refine region_start (S := From wz) 11 rfl (by kernel_rfl) (from_drew _) (fun hHeld => ?_)
          refine take_at 0 36 (.int .i64 0) rfl rfl (by kernel_rfl) (by kernel_rfl) (by kernel_rfl) (fun _ _ _ h => h) (Or.inl ⟨by rfl, by intro W hW; clear hW; go_simp⟩) hHeld ?_
          simp only [put_laws]
          refine take_at 1 37 (.int .u8 43) rfl rfl (by kernel_rfl) (by kernel_rfl) (by kernel_rfl) (fun _ _ _ h => h) (Or.inl ⟨by rfl, by intro W hW; clear hW; go_simp; rfl⟩) hHeld ?_
          simp only [put_laws]
          refine take_at 2 38 (.agg #[.int .i64 ka, .int .i64 a]) rfl rfl (by kernel_rfl) (by kernel_rfl) (by kernel_rfl) (fun _ _ _ h => h) (yields_val (by rfl) 23 (.tmp 2) rfl (w.heap.size) rfl 23 _ _ (fun W h => (HP2.out.below h.bel).p.xr) Tryd.underlying23 rval_info) hHeld ?_
          simp only [put_laws]
          refine take_at 3 39 (.agg #[.int .i64 kb, .int .i64 b]) rfl rfl (by kernel_rfl) (by kernel_rfl) (by kernel_rfl) (fun _ _ _ h => h) (yields_val (by rfl) 23 (.tmp 3) rfl (w.heap.size + 1) rfl 23 _ _ (fun W h => (HP2.out.below h.bel).p.yr) Tryd.underlying23 rval_info) hHeld ?_
          simp only [put_laws]
          refine wpAnyH_ready (rs := [4, 8]) (by kernel_rfl) (by simp) ?_
          refine AllReadyH.cons rfl (fun K hK => ?_) (AllReadyH.cons rfl (fun K hK => ?_) AllReadyH.nil)
          · go_simp
            refine (radd_E ka a kb b x0 y0 z0 _ HD0.out).mono ?_
            rintro e wc40 ⟨rfl, hb⟩
            try go_simp
            have hHeld := hHeld.below hb
            have hsz40 := hb.size
            clear hb
            refine hK.out _ _ hHeld (fun hHeld => ?_)
            clear hK K
            refine take_at 5 35 (.tuple #[.agg #[.int .i64 x0, .int .i64 y0], .int .i64 z0]) rfl rfl (by kernel_rfl) (by kernel_rfl) (by kernel_rfl) (fun _ _ _ h => h) (Or.inl ⟨by rfl, by intro W hW; clear hW; go_simp⟩) hHeld ?_
            simp only [put_laws]
            refine take_at 6 41 (.agg #[.int .i64 x0, .int .i64 y0]) rfl rfl (by kernel_rfl) (by kernel_rfl) (by kernel_rfl) (fun _ _ _ h => h) (Or.inl ⟨by rfl, by intro W hW; clear hW; go_simp⟩) hHeld ?_
            simp only [put_laws]
            refine take_at 7 42 (.int .i64 z0) rfl rfl (by kernel_rfl) (by kernel_rfl) (by kernel_rfl) (fun _ _ _ h => h) (Or.inl ⟨by rfl, by intro W hW; clear hW; go_simp⟩) hHeld ?_
            simp only [put_laws]
            refine wpAnyH_ready (rs := [8]) (by kernel_rfl) (by simp) ?_
            refine AllReadyH.cons rfl (fun K hK => ?_) AllReadyH.nil
            go_simp
            have v11 : ValAt ((wc40).alloc (.cells #[.int .i64 0, .int .i64 0] 23)) wc40.heap.size 23 0 0 := valAt_new (wc40) 0 0 23
            have hPre := hHeld
            have hHeld := hHeld.below (below_new _ (.cells #[.int .i64 0, .int .i64 0] 23))
            refine hK.out _ _ hHeld (fun hHeld => ?_)
            clear hK K
            have c0 := v11.fst
            have c1 := v11.snd
            have f0 := v11.free 0
            have f1 := v11.free 1
            refine wpAnyH_ready (rs := [9]) (by kernel_rfl) (by simp) ?_
            refine AllReadyH.cons rfl (fun K hK => ?_) AllReadyH.nil
            go_simp
            clear c0 c1 f0 f1
            first
              | (refine hK.out _ _ (hHeld.setv (by first | exact Nat.le_refl _ | omega | (simp at *; omega)) (.int .i64 x0) (.int .i64 y0)) (fun hHeld => ?_); have v11 := v11.put x0 y0)
              | (refine hK.out _ _ (hPre.below (below_new _ _)) (fun hHeld => ?_); have v11 := valAt_new (wc40) x0 y0 23)
            clear hK K
            refine take_at 10 12 (.int .i64 z0) rfl rfl (by kernel_rfl) (by kernel_rfl) (by kernel_rfl) (fun _ _ _ h => h) (Or.inl ⟨by rfl, by intro W hW; clear hW; go_simp⟩) hHeld ?_
            simp only [put_laws]
            refine wpAnyH_done (by kernel_rfl) ?_ _
            refine NoPanic.normal ?_
            go_wp2_with fail
            go_meet
            exact ⟨_, rfl, rfl, hHeld, v11⟩
          · go_simp
            have v11 : ValAt ((wz.drew).alloc (.cells #[.int .i64 0, .int .i64 0] 23)) wz.heap.size 23 0 0 := valAt_new (wz.drew) 0 0 23
            have hPre := hHeld
            have hHeld := hHeld.below (below_new _ (.cells #[.int .i64 0, .int .i64 0] 23))
            refine hK.out _ _ hHeld (fun hHeld => ?_)
            clear hK K
            refine wpAnyH_ready (rs := [4]) (by kernel_rfl) (by simp) ?_
            refine AllReadyH.cons rfl (fun K hK => ?_) AllReadyH.nil
            go_simp
            refine (radd_E ka a kb b x0 y0 z0 _ HD0.out).mono ?_
            rintro e wc40 ⟨rfl, hb⟩
            try go_simp
            have hHeld := hHeld.below hb
            have v11 := v11.below hb
            have hsz40 := hb.size
            clear hb
            refine hK.out _ _ hHeld (fun hHeld => ?_)
            clear hK K
            refine take_at 5 35 (.tuple #[.agg #[.int .i64 x0, .int .i64 y0], .int .i64 z0]) rfl rfl (by kernel_rfl) (by kernel_rfl) (by kernel_rfl) (fun _ _ _ h => h) (Or.inl ⟨by rfl, by intro W hW; clear hW; go_simp⟩) hHeld ?_
            simp only [put_laws]
            refine take_at 6 41 (.agg #[.int .i64 x0, .int .i64 y0]) rfl rfl (by kernel_rfl) (by kernel_rfl) (by kernel_rfl) (fun _ _ _ h => h) (Or.inl ⟨by rfl, by intro W hW; clear hW; go_simp⟩) hHeld ?_
            simp only [put_laws]
            refine take_at 7 42 (.int .i64 z0) rfl rfl (by kernel_rfl) (by kernel_rfl) (by kernel_rfl) (fun _ _ _ h => h) (Or.inl ⟨by rfl, by intro W hW; clear hW; go_simp⟩) hHeld ?_
            simp only [put_laws]
            have c0 := v11.fst
            have c1 := v11.snd
            have f0 := v11.free 0
            have f1 := v11.free 1
            refine wpAnyH_ready (rs := [9]) (by kernel_rfl) (by simp) ?_
            refine AllReadyH.cons rfl (fun K hK => ?_) AllReadyH.nil
            go_simp
            clear c0 c1 f0 f1
            first
              | (refine hK.out _ _ (hHeld.setv (by first | exact Nat.le_refl _ | omega | (simp at *; omega)) (.int .i64 x0) (.int .i64 y0)) (fun hHeld => ?_); have v11 := v11.put x0 y0)
              | (refine hK.out _ _ (hPre.below (below_new _ _)) (fun hHeld => ?_); have v11 := valAt_new (wc40) x0 y0 23)
            clear hK K
            refine take_at 10 12 (.int .i64 z0) rfl rfl (by kernel_rfl) (by kernel_rfl) (by kernel_rfl) (fun _ _ _ h => h) (Or.inl ⟨by rfl, by intro W hW; clear hW; go_simp⟩) hHeld ?_
            simp only [put_laws]
            refine wpAnyH_done (by kernel_rfl) ?_ _
            refine NoPanic.normal ?_
            go_wp2_with fail
            go_meet
            exact ⟨_, rfl, rfl, hHeld, v11⟩
        case rest =>
          obtain ⟨g, rfl, rfl, hf, hv⟩ := hcut
          have v9 := HV2.out.below hf.bel
          have c0 := v9.fst
          have c1 := v9.snd
          have d0 := hv.fst
          have d1 := hv.snd
          have HP3 := Lib.hid (HP2.out.below hf.bel)
          clear v9 hv hf
          go_wp2
          exact ⟨⟨1, by omega, by omega, rfl, HP3.out.p, HP3.out.f⟩, by simp [intOf]⟩
      · clear hk0 hk3
        go_wp2_with fail
        refine (sub_E ka a kb b x1 y1 z1 _ HD1.out).mono ?_
        rintro e w2 ⟨rfl, hb2⟩
        have HP2 := Lib.hid ((HP.out.below hb2).below (below_new w2 (.cells #[.int .i64 x1, .int .i64 y1] 25)))
        have HV2 := Lib.hid (valAt_new w2 x1 y1 25)
        clear hb2 c0 c1 d0 d1 e0 e1 e2
        go_wp2_with fail
        generalize hwz : w2.alloc (.cells #[.int .i64 x1, .int .i64 y1] 25) = wz at *
        go_cut [11, 12] from 35 to 42 (fun u v wx => ∃ g, u = .pointer (some ⟨g, 0, none⟩) ∧ v = .int .i64 z1 ∧ From wz wx ∧ ValAt wx g 23 x1 y1)
        case first =>
          refine wp_region_noPanic ?_
          refine region_start (S := From wz) 11 rfl (by kernel_rfl) (from_drew _) (fun hHeld => ?_)
          refine take_at 0 36 (.int .i64 1) rfl rfl (by kernel_rfl) (by kernel_rfl) (by kernel_rfl) (fun _ _ _ h => h) (Or.inl ⟨by rfl, by intro W hW; clear hW; go_simp⟩) hHeld ?_
          simp only [put_laws]
          refine take_at 1 37 (.int .u8 45) rfl rfl (by kernel_rfl) (by kernel_rfl) (by kernel_rfl) (fun _ _ _ h => h) (Or.inl ⟨by rfl, by intro W hW; clear hW; go_simp; rfl⟩) hHeld ?_
          simp only [put_laws]
          refine take_at 2 38 (.agg #[.int .i64 ka, .int .i64 a]) rfl rfl (by kernel_rfl) (by kernel_rfl) (by kernel_rfl) (fun _ _ _ h => h) (yields_val (by rfl) 23 (.tmp 2) rfl (w.heap.size) rfl 23 _ _ (fun W h => (HP2.out.below h.bel).p.xr) Tryd.underlying23 rval_info) hHeld ?_
          simp only [put_laws]
          refine take_at 3 39 (.agg #[.int .i64 kb, .int .i64 b]) rfl rfl (by kernel_rfl) (by kernel_rfl) (by kernel_rfl) (fun _ _ _ h => h) (yields_val (by rfl) 23 (.tmp 3) rfl (w.heap.size + 1) rfl 23 _ _ (fun W h => (HP2.out.below h.bel).p.yr) Tryd.underlying23 rval_info) hHeld ?_
          simp only [put_laws]
          refine wpAnyH_ready (rs := [4, 8]) (by kernel_rfl) (by simp) ?_
          refine AllReadyH.cons rfl (fun K hK => ?_) (AllReadyH.cons rfl (fun K hK => ?_) AllReadyH.nil)
          · go_simp
            refine (rsub_E ka a kb b x1 y1 z1 _ HD1.out).mono ?_
            rintro e wc40 ⟨rfl, hb⟩
            try go_simp
            have hHeld := hHeld.below hb
            have hsz40 := hb.size
            clear hb
            refine hK.out _ _ hHeld (fun hHeld => ?_)
            clear hK K
            refine take_at 5 35 (.tuple #[.agg #[.int .i64 x1, .int .i64 y1], .int .i64 z1]) rfl rfl (by kernel_rfl) (by kernel_rfl) (by kernel_rfl) (fun _ _ _ h => h) (Or.inl ⟨by rfl, by intro W hW; clear hW; go_simp⟩) hHeld ?_
            simp only [put_laws]
            refine take_at 6 41 (.agg #[.int .i64 x1, .int .i64 y1]) rfl rfl (by kernel_rfl) (by kernel_rfl) (by kernel_rfl) (fun _ _ _ h => h) (Or.inl ⟨by rfl, by intro W hW; clear hW; go_simp⟩) hHeld ?_
            simp only [put_laws]
            refine take_at 7 42 (.int .i64 z1) rfl rfl (by kernel_rfl) (by kernel_rfl) (by kernel_rfl) (fun _ _ _ h => h) (Or.inl ⟨by rfl, by intro W hW; clear hW; go_simp⟩) hHeld ?_
            simp only [put_laws]
            refine wpAnyH_ready (rs := [8]) (by kernel_rfl) (by simp) ?_
            refine AllReadyH.cons rfl (fun K hK => ?_) AllReadyH.nil
            go_simp
            have v11 : ValAt ((wc40).alloc (.cells #[.int .i64 0, .int .i64 0] 23)) wc40.heap.size 23 0 0 := valAt_new (wc40) 0 0 23
            have hPre := hHeld
            have hHeld := hHeld.below (below_new _ (.cells #[.int .i64 0, .int .i64 0] 23))
            refine hK.out _ _ hHeld (fun hHeld => ?_)
            clear hK K
            have c0 := v11.fst
            have c1 := v11.snd
            have f0 := v11.free 0
            have f1 := v11.free 1
            refine wpAnyH_ready (rs := [9]) (by kernel_rfl) (by simp) ?_
            refine AllReadyH.cons rfl (fun K hK => ?_) AllReadyH.nil
            go_simp
            clear c0 c1 f0 f1
            first
              | (refine hK.out _ _ (hHeld.setv (by first | exact Nat.le_refl _ | omega | (simp at *; omega)) (.int .i64 x1) (.int .i64 y1)) (fun hHeld => ?_); have v11 := v11.put x1 y1)
              | (refine hK.out _ _ (hPre.below (below_new _ _)) (fun hHeld => ?_); have v11 := valAt_new (wc40) x1 y1 23)
            clear hK K
            refine take_at 10 12 (.int .i64 z1) rfl rfl (by kernel_rfl) (by kernel_rfl) (by kernel_rfl) (fun _ _ _ h => h) (Or.inl ⟨by rfl, by intro W hW; clear hW; go_simp⟩) hHeld ?_
            simp only [put_laws]
            refine wpAnyH_done (by kernel_rfl) ?_ _
            refine NoPanic.normal ?_
            go_wp2_with fail
            go_meet
            exact ⟨_, rfl, rfl, hHeld, v11⟩
          · go_simp
            have v11 : ValAt ((wz.drew).alloc (.cells #[.int .i64 0, .int .i64 0] 23)) wz.heap.size 23 0 0 := valAt_new (wz.drew) 0 0 23
            have hPre := hHeld
            have hHeld := hHeld.below (below_new _ (.cells #[.int .i64 0, .int .i64 0] 23))
            refine hK.out _ _ hHeld (fun hHeld => ?_)
            clear hK K
            refine wpAnyH_ready (rs := [4]) (by kernel_rfl) (by simp) ?_
            refine AllReadyH.cons rfl (fun K hK => ?_) AllReadyH.nil
            go_simp
            refine (rsub_E ka a kb b x1 y1 z1 _ HD1.out).mono ?_
            rintro e wc40 ⟨rfl, hb⟩
            try go_simp
            have hHeld := hHeld.below hb
            have v11 := v11.below hb
            have hsz40 := hb.size
            clear hb
            refine hK.out _ _ hHeld (fun hHeld => ?_)
            clear hK K
            refine take_at 5 35 (.tuple #[.agg #[.int .i64 x1, .int .i64 y1], .int .i64 z1]) rfl rfl (by kernel_rfl) (by kernel_rfl) (by kernel_rfl) (fun _ _ _ h => h) (Or.inl ⟨by rfl, by intro W hW; clear hW; go_simp⟩) hHeld ?_
            simp only [put_laws]
            refine take_at 6 41 (.agg #[.int .i64 x1, .int .i64 y1]) rfl rfl (by kernel_rfl) (by kernel_rfl) (by kernel_rfl) (fun _ _ _ h => h) (Or.inl ⟨by rfl, by intro W hW; clear hW; go_simp⟩) hHeld ?_
            simp only [put_laws]
            refine take_at 7 42 (.int .i64 z1) rfl rfl (by kernel_rfl) (by kernel_rfl) (by kernel_rfl) (fun _ _ _ h => h) (Or.inl ⟨by rfl, by intro W hW; clear hW; go_simp⟩) hHeld ?_
            simp only [put_laws]
            have c0 := v11.fst
            have c1 := v11.snd
            have f0 := v11.free 0
            have f1 := v11.free 1
            refine wpAnyH_ready (rs := [9]) (by kernel_rfl) (by simp) ?_
            refine AllReadyH.cons rfl (fun K hK => ?_) AllReadyH.nil
            go_simp
            clear c0 c1 f0 f1
            first
              | (refine hK.out _ _ (hHeld.setv (by first | exact Nat.le_refl _ | omega | (simp at *; omega)) (.int .i64 x1) (.int .i64 y1)) (fun hHeld => ?_); have v11 := v11.put x1 y1)
              | (refine hK.out _ _ (hPre.below (below_new _ _)) (fun hHeld => ?_); have v11 := valAt_new (wc40) x1 y1 23)
            clear hK K
            refine take_at 10 12 (.int .i64 z1) rfl rfl (by kernel_rfl) (by kernel_rfl) (by kernel_rfl) (fun _ _ _ h => h) (Or.inl ⟨by rfl, by intro W hW; clear hW; go_simp⟩) hHeld ?_
            simp only [put_laws]
            refine wpAnyH_done (by kernel_rfl) ?_ _
            refine NoPanic.normal ?_
            go_wp2_with fail
            go_meet
            exact ⟨_, rfl, rfl, hHeld, v11⟩
        case rest =>
          obtain ⟨g, rfl, rfl, hf, hv⟩ := hcut
          have v9 := HV2.out.below hf.bel
          have c0 := v9.fst
          have c1 := v9.snd
          have d0 := hv.fst
          have d1 := hv.snd
          have HP3 := Lib.hid (HP2.out.below hf.bel)
          clear v9 hv hf
          go_wp2
          exact ⟨⟨2, by omega, by omega, rfl, HP3.out.p, HP3.out.f⟩, by simp [intOf]⟩
      · clear hk0 hk3
        go_wp2_with fail
        refine (mul_E ka a kb b x2 y2 z2 _ HD2.out).mono ?_
        rintro e w2 ⟨rfl, hb2⟩
        have HP2 := Lib.hid ((HP.out.below hb2).below (below_new w2 (.cells #[.int .i64 x2, .int .i64 y2] 25)))
        have HV2 := Lib.hid (valAt_new w2 x2 y2 25)
        clear hb2 c0 c1 d0 d1 e0 e1 e2
        go_wp2_with fail
        generalize hwz : w2.alloc (.cells #[.int .i64 x2, .int .i64 y2] 25) = wz at *
        go_cut [11, 12] from 35 to 42 (fun u v wx => ∃ g, u = .pointer (some ⟨g, 0, none⟩) ∧ v = .int .i64 z2 ∧ From wz wx ∧ ValAt wx g 23 x2 y2)
        case first =>
          refine wp_region_noPanic ?_
          refine region_start (S := From wz) 11 rfl (by kernel_rfl) (from_drew _) (fun hHeld => ?_)
          refine take_at 0 36 (.int .i64 2) rfl rfl (by kernel_rfl) (by kernel_rfl) (by kernel_rfl) (fun _ _ _ h => h) (Or.inl ⟨by rfl, by intro W hW; clear hW; go_simp⟩) hHeld ?_
          simp only [put_laws]
          refine take_at 1 37 (.int .u8 42) rfl rfl (by kernel_rfl) (by kernel_rfl) (by kernel_rfl) (fun _ _ _ h => h) (Or.inl ⟨by rfl, by intro W hW; clear hW; go_simp; rfl⟩) hHeld ?_
          simp only [put_laws]
          refine take_at 2 38 (.agg #[.int .i64 ka, .int .i64 a]) rfl rfl (by kernel_rfl) (by kernel_rfl) (by kernel_rfl) (fun _ _ _ h => h) (yields_val (by rfl) 23 (.tmp 2) rfl (w.heap.size) rfl 23 _ _ (fun W h => (HP2.out.below h.bel).p.xr) Tryd.underlying23 rval_info) hHeld ?_
          simp only [put_laws]
          refine take_at 3 39 (.agg #[.int .i64 kb, .int .i64 b]) rfl rfl (by kernel_rfl) (by kernel_rfl) (by kernel_rfl) (fun _ _ _ h => h) (yields_val (by rfl) 23 (.tmp 3) rfl (w.heap.size + 1) rfl 23 _ _ (fun W h => (HP2.out.below h.bel).p.yr) Tryd.underlying23 rval_info) hHeld ?_
          simp only [put_laws]
          refine wpAnyH_ready (rs := [4, 8]) (by kernel_rfl) (by simp) ?_
          refine AllReadyH.cons rfl (fun K hK => ?_) (AllReadyH.cons rfl (fun K hK => ?_) AllReadyH.nil)
          · go_simp
            refine (rmul_E ka a kb b x2 y2 z2 _ HD2.out).mono ?_
            rintro e wc40 ⟨rfl, hb⟩
            try go_simp
            have hHeld := hHeld.below hb
            have hsz40 := hb.size
            clear hb
            refine hK.out _ _ hHeld (fun hHeld => ?_)
            clear hK K
            refine take_at 5 35 (.tuple #[.agg #[.int .i64 x2, .int .i64 y2], .int .i64 z2]) rfl rfl (by kernel_rfl) (by kernel_rfl) (by kernel_rfl) (fun _ _ _ h => h) (Or.inl ⟨by rfl, by intro W hW; clear hW; go_simp⟩) hHeld ?_
            simp only [put_laws]
            refine take_at 6 41 (.agg #[.int .i64 x2, .int .i64 y2]) rfl rfl (by kernel_rfl) (by kernel_rfl) (by kernel_rfl) (fun _ _ _ h => h) (Or.inl ⟨by rfl, by intro W hW; clear hW; go_simp⟩) hHeld ?_
            simp only [put_laws]
            refine take_at 7 42 (.int .i64 z2) rfl rfl (by kernel_rfl) (by kernel_rfl) (by kernel_rfl) (fun _ _ _ h => h) (Or.inl ⟨by rfl, by intro W hW; clear hW; go_simp⟩) hHeld ?_
            simp only [put_laws]
            refine wpAnyH_ready (rs := [8]) (by kernel_rfl) (by simp) ?_
            refine AllReadyH.cons rfl (fun K hK => ?_) AllReadyH.nil
            go_simp
            have v11 : ValAt ((wc40).alloc (.cells #[.int .i64 0, .int .i64 0] 23)) wc40.heap.size 23 0 0 := valAt_new (wc40) 0 0 23
            have hPre := hHeld
            have hHeld := hHeld.below (below_new _ (.cells #[.int .i64 0, .int .i64 0] 23))
            refine hK.out _ _ hHeld (fun hHeld => ?_)
            clear hK K
            have c0 := v11.fst
            have c1 := v11.snd
            have f0 := v11.free 0
            have f1 := v11.free 1
            refine wpAnyH_ready (rs := [9]) (by kernel_rfl) (by simp) ?_
            refine AllReadyH.cons rfl (fun K hK => ?_) AllReadyH.nil
            go_simp
            clear c0 c1 f0 f1
            first
              | (refine hK.out _ _ (hHeld.setv (by first | exact Nat.le_refl _ | omega | (simp at *; omega)) (.int .i64 x2) (.int .i64 y2)) (fun hHeld => ?_); have v11 := v11.put x2 y2)
              | (refine hK.out _ _ (hPre.below (below_new _ _)) (fun hHeld => ?_); have v11 := valAt_new (wc40) x2 y2 23)
            clear hK K
            refine take_at 10 12 (.int .i64 z2) rfl rfl (by kernel_rfl) (by kernel_rfl) (by kernel_rfl) (fun _ _ _ h => h) (Or.inl ⟨by rfl, by intro W hW; clear hW; go_simp⟩) hHeld ?_
            simp only [put_laws]
            refine wpAnyH_done (by kernel_rfl) ?_ _
            refine NoPanic.normal ?_
            go_wp2_with fail
            go_meet
            exact ⟨_, rfl, rfl, hHeld, v11⟩
          · go_simp
            have v11 : ValAt ((wz.drew).alloc (.cells #[.int .i64 0, .int .i64 0] 23)) wz.heap.size 23 0 0 := valAt_new (wz.drew) 0 0 23
            have hPre := hHeld
            have hHeld := hHeld.below (below_new _ (.cells #[.int .i64 0, .int .i64 0] 23))
            refine hK.out _ _ hHeld (fun hHeld => ?_)
            clear hK K
            refine wpAnyH_ready (rs := [4]) (by kernel_rfl) (by simp) ?_
            refine AllReadyH.cons rfl (fun K hK => ?_) AllReadyH.nil
            go_simp
            refine (rmul_E ka a kb b x2 y2 z2 _ HD2.out).mono ?_
            rintro e wc40 ⟨rfl, hb⟩
            try go_simp
            have hHeld := hHeld.below hb
            have v11 := v11.below hb
            have hsz40 := hb.size
            clear hb
            refine hK.out _ _ hHeld (fun hHeld => ?_)
            clear hK K
            refine take_at 5 35 (.tuple #[.agg #[.int .i64 x2, .int .i64 y2], .int .i64 z2]) rfl rfl (by kernel_rfl) (by kernel_rfl) (by kernel_rfl) (fun _ _ _ h => h) (Or.inl ⟨by rfl, by intro W hW; clear hW; go_simp⟩) hHeld ?_
            simp only [put_laws]
            refine take_at 6 41 (.agg #[.int .i64 x2, .int .i64 y2]) rfl rfl (by kernel_rfl) (by kernel_rfl) (by kernel_rfl) (fun _ _ _ h => h) (Or.inl ⟨by rfl, by intro W hW; clear hW; go_simp⟩) hHeld ?_
            simp only [put_laws]
            refine take_at 7 42 (.int .i64 z2) rfl rfl (by kernel_rfl) (by kernel_rfl) (by kernel_rfl) (fun _ _ _ h => h) (Or.inl ⟨by rfl, by intro W hW; clear hW; go_simp⟩) hHeld ?_
            simp only [put_laws]
            have c0 := v11.fst
            have c1 := v11.snd
            have f0 := v11.free 0
            have f1 := v11.free 1
            refine wpAnyH_ready (rs := [9]) (by kernel_rfl) (by simp) ?_
            refine AllReadyH.cons rfl (fun K hK => ?_) AllReadyH.nil
            go_simp
            clear c0 c1 f0 f1
            first
              | (refine hK.out _ _ (hHeld.setv (by first | exact Nat.le_refl _ | omega | (simp at *; omega)) (.int .i64 x2) (.int .i64 y2)) (fun hHeld => ?_); have v11 := v11.put x2 y2)
              | (refine hK.out _ _ (hPre.below (below_new _ _)) (fun hHeld => ?_); have v11 := valAt_new (wc40) x2 y2 23)
            clear hK K
            refine take_at 10 12 (.int .i64 z2) rfl rfl (by kernel_rfl) (by kernel_rfl) (by kernel_rfl) (fun _ _ _ h => h) (Or.inl ⟨by rfl, by intro W hW; clear hW; go_simp⟩) hHeld ?_
            simp only [put_laws]
            refine wpAnyH_done (by kernel_rfl) ?_ _
            refine NoPanic.normal ?_
            go_wp2_with fail
            go_meet
            exact ⟨_, rfl, rfl, hHeld, v11⟩
        case rest =>
          obtain ⟨g, rfl, rfl, hf, hv⟩ := hcut
          have v9 := HV2.out.below hf.bel
          have c0 := v9.fst
          have c1 := v9.snd
          have d0 := hv.fst
          have d1 := hv.snd
          have HP3 := Lib.hid (HP2.out.below hf.bel)
          clear v9 hv hf
          go_wp2
          exact ⟨⟨3, by omega, by omega, rfl, HP3.out.p, HP3.out.f⟩, by simp [intOf]⟩
      · clear hk0 hk3
        go_wp2_with fail
        refine (less_E ka a kb b l z _ HE.out).mono ?_
        rintro e w2 ⟨rfl, hb2⟩
        have hp2 := HP.out.p.below hb2
        clear c0 c1 d0 d1 e0 e1 e2
        have c0 := hp2.xr.fst
        have c1 := hp2.xr.snd
        have d0 := hp2.yr.fst
        have d1 := hp2.yr.snd
        have HP2 := Lib.hid hp2
        clear hp2 hb2
        go_wp2_with fail
        refine (rless_E ka a kb b l z _ HE.out).mono ?_
        rintro e w3 ⟨rfl, hb3⟩
        have HP3 := Lib.hid (HP2.out.below hb3)
        clear c0 c1 d0 d1 hb3
        go_wp2_with fail
        refine wp_region_noPanic ?_
        refine region_start (S := Pair w ka a kb b g1 g2) 23 rfl (by kernel_rfl) (HP3.out.below (below_drew _)) (fun hHeld => ?_)
        refine take_at 0 64 (.bool l) rfl rfl (by kernel_rfl) (by kernel_rfl) (by kernel_rfl) (fun _ _ _ h => h) (Or.inl ⟨by rfl, by intro W hW; clear hW; go_simp⟩) hHeld ?_
        simp only [put_laws]
        refine take_at 1 65 (.bool l) rfl rfl (by kernel_rfl) (by kernel_rfl) (by kernel_rfl) (fun _ _ _ h => h) (Or.inl ⟨by rfl, by intro W hW; clear hW; go_simp⟩) hHeld ?_
        simp only [put_laws]
        refine take_at 2 66 (.bool true) rfl rfl (by kernel_rfl) (by kernel_rfl) (by kernel_rfl) (fun _ _ _ h => h) (Or.inl ⟨by rfl, by intro W hW; clear hW; go_simp⟩) hHeld ?_
        simp only [put_laws]
        refine take_at 3 67 (.bool true) rfl rfl (by kernel_rfl) (by kernel_rfl) (by kernel_rfl) (fun _ _ _ h => h) (Or.inl ⟨by rfl, by intro W hW; clear hW; go_simp⟩) hHeld ?_
        simp only [put_laws]
        refine take_at 4 68 (.int .i64 z) rfl rfl (by kernel_rfl) (by kernel_rfl) (by kernel_rfl) (fun _ _ _ h => h) (Or.inl ⟨by rfl, by intro W hW; clear hW; go_simp⟩) hHeld ?_
        simp only [put_laws]
        refine take_at 5 69 (.int .i64 z) rfl rfl (by kernel_rfl) (by kernel_rfl) (by kernel_rfl) (fun _ _ _ h => h) (Or.inl ⟨by rfl, by intro W hW; clear hW; go_simp⟩) hHeld ?_
        simp only [put_laws]
        refine take_at 6 70 (.bool true) rfl rfl (by kernel_rfl) (by kernel_rfl) (by kernel_rfl) (fun _ _ _ h => h) (Or.inl ⟨by rfl, by intro W hW; clear hW; go_simp⟩) hHeld ?_
        simp only [put_laws]
        refine take_at 7 71 (.bool true) rfl rfl (by kernel_rfl) (by kernel_rfl) (by kernel_rfl) (fun _ _ _ h => h) (Or.inl ⟨by rfl, by intro W hW; clear hW; go_simp⟩) hHeld ?_
        simp only [put_laws]
        refine take_at 8 72 (.bool true) rfl rfl (by kernel_rfl) (by kernel_rfl) (by kernel_rfl) (fun _ _ _ h => h) (Or.inl ⟨by rfl, by intro W hW; clear hW; go_simp⟩) hHeld ?_
        simp only [put_laws]
        refine take_at 9 73 (.agg #[.int .i64 ka, .int .i64 a]) rfl rfl (by kernel_rfl) (by kernel_rfl) (by kernel_rfl) (fun _ _ _ h => h) (yields_val (by rfl) 25 (.tmp 5) rfl (g1) rfl 25 _ _ (fun W h => h.x) Tryd.underlying25 val_info) hHeld ?_
        simp only [put_laws]
        refine take_at 11 75 (.agg #[.int .i64 ka, .int .i64 a]) rfl rfl (by kernel_rfl) (by kernel_rfl) (by kernel_rfl) (fun _ _ _ h => h) (yields_val (by rfl) 23 (.tmp 2) rfl (w.heap.size) rfl 23 _ _ (fun W h => h.xr) Tryd.underlying23 rval_info) hHeld ?_
        simp only [put_laws]
        refine wpAnyH_ready (rs := [10]) (by kernel_rfl) (by simp) ?_
        refine AllReadyH.cons rfl (fun K hK => ?_) AllReadyH.nil
        go_simp
        refine (right_val ka a r _ HR.out).mono ?_
        rintro e wc74 ⟨rfl, hb⟩
        try go_simp
        have hHeld := hHeld.below hb
        have hsz74 := hb.size
        clear hb
        refine hK.out _ _ hHeld (fun hHeld => ?_)
        clear hK K
        refine wpAnyH_ready (rs := [12]) (by kernel_rfl) (by simp) ?_
        refine AllReadyH.cons rfl (fun K hK => ?_) AllReadyH.nil
        go_simp
        refine (rright_val ka a r _ HR.out).mono ?_
        rintro e wc76 ⟨rfl, hb⟩
        try go_simp
        have hHeld := hHeld.below hb
        have hsz76 := hb.size
        clear hb
        refine hK.out _ _ hHeld (fun hHeld => ?_)
        clear hK K
        refine take_at 13 77 (.bool true) rfl rfl (by kernel_rfl) (by kernel_rfl) (by kernel_rfl) (fun _ _ _ h => h) (Or.inl ⟨by rfl, by intro W hW; clear hW; go_simp⟩) hHeld ?_
        simp only [put_laws]
        refine take_at 14 78 (.bool true) rfl rfl (by kernel_rfl) (by kernel_rfl) (by kernel_rfl) (fun _ _ _ h => h) (Or.inl ⟨by rfl, by intro W hW; clear hW; go_simp⟩) hHeld ?_
        simp only [put_laws]
        refine take_at 15 79 (.bool true) rfl rfl (by kernel_rfl) (by kernel_rfl) (by kernel_rfl) (fun _ _ _ h => h) (Or.inl ⟨by rfl, by intro W hW; clear hW; go_simp⟩) hHeld ?_
        simp only [put_laws]
        refine take_at 16 80 (.agg #[.int .i64 ka, .int .i64 a]) rfl rfl (by kernel_rfl) (by kernel_rfl) (by kernel_rfl) (fun _ _ _ h => h) (yields_val (by rfl) 25 (.tmp 5) rfl (g1) rfl 25 _ _ (fun W h => h.x) Tryd.underlying25 val_info) hHeld ?_
        simp only [put_laws]
        refine take_at 18 82 (.agg #[.int .i64 ka, .int .i64 a]) rfl rfl (by kernel_rfl) (by kernel_rfl) (by kernel_rfl) (fun _ _ _ h => h) (yields_val (by rfl) 23 (.tmp 2) rfl (w.heap.size) rfl 23 _ _ (fun W h => h.xr) Tryd.underlying23 rval_info) hHeld ?_
        simp only [put_laws]
        refine wpAnyH_ready (rs := [17]) (by kernel_rfl) (by simp) ?_
        refine AllReadyH.cons rfl (fun K hK => ?_) AllReadyH.nil
        go_simp
        refine (print_any ka a _ HA.out hHeld.laid).mono ?_
        rintro e wc81 ⟨rfl, hb⟩
        try go_simp
        have hHeld := hHeld.below hb
        have hsz81 := hb.size
        clear hb
        refine hK.out _ _ hHeld (fun hHeld => ?_)
        clear hK K
        refine wpAnyH_ready (rs := [19]) (by kernel_rfl) (by simp) ?_
        refine AllReadyH.cons rfl (fun K hK => ?_) AllReadyH.nil
        go_simp
        refine (rprint_any ka a _ HA.out hHeld.laid).mono ?_
        rintro e wc83 ⟨rfl, hb⟩
        try go_simp
        have hHeld := hHeld.below hb
        have hsz83 := hb.size
        clear hb
        refine hK.out _ _ hHeld (fun hHeld => ?_)
        clear hK K
        refine take_at 20 84 (.bool true) rfl rfl (by kernel_rfl) (by kernel_rfl) (by kernel_rfl) (fun _ _ _ h => h) (Or.inl ⟨by rfl, by intro W hW; clear hW; go_simp⟩) hHeld ?_
        simp only [put_laws]
        refine take_at 21 85 (.bool true) rfl rfl (by kernel_rfl) (by kernel_rfl) (by kernel_rfl) (fun _ _ _ h => h) (Or.inl ⟨by rfl, by intro W hW; clear hW; go_simp⟩) hHeld ?_
        simp only [put_laws]
        refine take_at 22 4 (.bool true) rfl rfl (by kernel_rfl) (by kernel_rfl) (by kernel_rfl) (fun _ _ _ h => h) (Or.inl ⟨by rfl, by intro W hW; clear hW; go_simp⟩) hHeld ?_
        simp only [put_laws]
        refine wpAnyH_done (by kernel_rfl) ?_ _
        refine NoPanic.normal ?_
        go_wp2
        go_ret
        exact ⟨rfl, hHeld.bel⟩
end Go.Proofs.YtpfoehcgcofgpaaDoor
