/-
  The walk of ValueKinds.
-/
import Derived.Test.YtpfoehcgcofgpaaDoorValuePair
namespace Go.Proofs.YtpfoehcgcofgpaaDoor
open Go.RowKit
set_option maxHeartbeats 4000000 in
set_option maxRecDepth 100000 in
theorem kinds_ints (a b : Int) (w : World) (hL : Laid w) : Calls Tryd.prog 7 #[.agg #[.int .i64 1, .int .i64 a], .agg #[.int .i64 1, .int .i64 b]] w fun e w' => e = .returned (.bool true) ∧ Below w.heap.size w w' := by
  have HL := Lib.hid hL
  clear hL
  go_enter Tryd.func7, Tryd.ntmps7
  go_wp2_with fail
  refine (alive_any _ ((HL.out.alloc _).alloc _)).mono ?_
  rintro e w1 ⟨rfl, hb1⟩
  have hB := boxes_new HL.out hb1
  have HB := Lib.hid hB
  have c0 := hB.xr.fst
  have c1 := hB.xr.snd
  have d0 := hB.yr.fst
  have d1 := hB.yr.snd
  have hlt0 := hB.xr.lt
  have hlt1 := hB.yr.lt
  clear hb1 hB
  go_wp2_with fail
  go_cut [5, 6] from 16 to 17 (fun u v wx => ∃ g1 g2, u = .pointer (some ⟨g1, 0, none⟩) ∧ v = .pointer (some ⟨g2, 0, none⟩) ∧ Pair w 1 a 1 b g1 g2 wx)
  case first =>
    go_region
    all_goals (go_wp2_with fail; go_meet)
    · exact ⟨_, _, rfl, rfl, pair_xy HB.out⟩
    · exact ⟨_, _, rfl, rfl, pair_yx HB.out⟩
  case rest =>
    obtain ⟨g1, g2, rfl, rfl, hp⟩ := hcut
    clear c0 c1 d0 d1 hlt0 hlt1 HB
    have c0 := hp.x.fst
    have c1 := hp.x.snd
    have d0 := hp.y.fst
    have d1 := hp.y.snd
    have HP := Lib.hid hp
    clear hp
    go_wp2_with fail
    go_loopw [28] (FnRel w 1 a 1 b g1 g2 wc.heap.size) (fun i _ => 3 - (intOf i).toNat)
    case atStart => exact ⟨0, by omega, by omega, rfl, HP.out.alloc _, fns_new _⟩
    case round =>
      obtain ⟨k, hk0, hk3, rfl, hp, hf⟩ := hrel
      clear c0 c1 d0 d1 HP
      have c0 := hp.x.fst
      have c1 := hp.x.snd
      have d0 := hp.y.fst
      have d1 := hp.y.snd
      have e0 := hf.c0
      have e1 := hf.c1
      have e2 := hf.c2
      have HP := Lib.hid hp
      have HF := Lib.hid hf
      clear hp hf
      rcases four_cases hk0 hk3 with rfl | rfl | rfl | rfl
      · clear hk0 hk3
        go_wp2_with fail
        refine (add_any 1 a 1 b _).mono ?_
        rintro e w2 ⟨rfl, hb2⟩
        rw [did_num (did_ints _ a b)]
        have HP2 := Lib.hid ((HP.out.below hb2).alloc (.cells #[.int .i64 1, .int .i64 (wrap64 (a + b))] 25))
        have HF2 := Lib.hid ((HF.out.below hb2).below (below_new w2 (.cells #[.int .i64 1, .int .i64 (wrap64 (a + b))] 25)))
        clear hb2
        go_wp2
        exact ⟨⟨1, by omega, by omega, rfl, HP2.out, HF2.out⟩, by simp [intOf]⟩
      · clear hk0 hk3
        go_wp2_with fail
        refine (sub_any 1 a 1 b _).mono ?_
        rintro e w2 ⟨rfl, hb2⟩
        rw [did_num (did_ints _ a b)]
        have HP2 := Lib.hid ((HP.out.below hb2).alloc (.cells #[.int .i64 1, .int .i64 (wrap64 (a - b))] 25))
        have HF2 := Lib.hid ((HF.out.below hb2).below (below_new w2 (.cells #[.int .i64 1, .int .i64 (wrap64 (a - b))] 25)))
        clear hb2
        go_wp2
        exact ⟨⟨2, by omega, by omega, rfl, HP2.out, HF2.out⟩, by simp [intOf]⟩
      · clear hk0 hk3
        go_wp2_with fail
        refine (mul_any 1 a 1 b _).mono ?_
        rintro e w2 ⟨rfl, hb2⟩
        rw [did_num (did_ints _ a b)]
        have HP2 := Lib.hid ((HP.out.below hb2).alloc (.cells #[.int .i64 1, .int .i64 (wrap64 (a * b))] 25))
        have HF2 := Lib.hid ((HF.out.below hb2).below (below_new w2 (.cells #[.int .i64 1, .int .i64 (wrap64 (a * b))] 25)))
        clear hb2
        go_wp2
        exact ⟨⟨3, by omega, by omega, rfl, HP2.out, HF2.out⟩, by simp [intOf]⟩
      · clear hk0 hk3
        go_wp2_with fail
        refine (less_any 1 a 1 b _).mono ?_
        rintro e w2 ⟨rfl, hb2⟩
        rw [lesd_ints]
        have HB2 := Lib.hid (HP.out.below hb2).bel
        clear hb2
        go_wp2
        go_ret
        exact ⟨rfl, HB2.out⟩
set_option maxHeartbeats 4000000 in
set_option maxRecDepth 100000 in
theorem kinds_snd (a kb b : Int) (w : World) (hL : Laid w) (h : kb ≠ 1) : Calls Tryd.prog 7 #[.agg #[.int .i64 1, .int .i64 a], .agg #[.int .i64 kb, .int .i64 b]] w fun e w' => e = .returned (.bool true) ∧ Below w.heap.size w w' := by
  have HL := Lib.hid hL
  clear hL
  have HQ : Hid ((1 : Int) ≠ 1 ∨ kb ≠ 1) := Lib.hid (.inr h)
  have hk : (kb == 1) = false := by simpa using h
  clear h
  go_enter Tryd.func7, Tryd.ntmps7
  go_wp2_with fail
  refine (alive_any _ ((HL.out.alloc _).alloc _)).mono ?_
  rintro e w1 ⟨rfl, hb1⟩
  have hB := boxes_new HL.out hb1
  have HB := Lib.hid hB
  have c0 := hB.xr.fst
  have c1 := hB.xr.snd
  have d0 := hB.yr.fst
  have d1 := hB.yr.snd
  have hlt0 := hB.xr.lt
  have hlt1 := hB.yr.lt
  clear hb1 hB
  go_wp2_with fail
  go_cut [5, 6] from 16 to 17 (fun u v wx => ∃ g1 g2, u = .pointer (some ⟨g1, 0, none⟩) ∧ v = .pointer (some ⟨g2, 0, none⟩) ∧ Pair w 1 a kb b g1 g2 wx)
  case first =>
    go_region
    all_goals (go_wp2_with fail; go_meet)
    · exact ⟨_, _, rfl, rfl, pair_xy HB.out⟩
    · exact ⟨_, _, rfl, rfl, pair_yx HB.out⟩
  case rest =>
    obtain ⟨g1, g2, rfl, rfl, hp⟩ := hcut
    clear c0 c1 d0 d1 hlt0 hlt1 HB
    have c0 := hp.x.fst
    have c1 := hp.x.snd
    have d0 := hp.y.fst
    have d1 := hp.y.snd
    have HP := Lib.hid hp
    clear hp
    go_wp2_with fail
    go_loopw [28] (FnRel w 1 a kb b g1 g2 wc.heap.size) (fun i _ => 3 - (intOf i).toNat)
    case atStart => exact ⟨0, by omega, by omega, rfl, HP.out.alloc _, fns_new _⟩
    case round =>
      obtain ⟨k, hk0, hk3, rfl, hp, hf⟩ := hrel
      clear c0 c1 d0 d1 HP
      have c0 := hp.x.fst
      have c1 := hp.x.snd
      have d0 := hp.y.fst
      have d1 := hp.y.snd
      have e0 := hf.c0
      have e1 := hf.c1
      have e2 := hf.c2
      have HP := Lib.hid hp
      have HF := Lib.hid hf
      clear hp hf
      rcases four_cases hk0 hk3 with rfl | rfl | rfl | rfl
      · clear hk0 hk3
        go_wp2_with fail
        refine (add_any 1 a kb b _).mono ?_
        rintro e w2 ⟨rfl, hb2⟩
        rw [did_num (did_else _ HQ.out)]
        have HP2 := Lib.hid ((HP.out.below hb2).alloc (.cells #[.int .i64 0, .int .i64 0] 25))
        have HF2 := Lib.hid ((HF.out.below hb2).below (below_new w2 (.cells #[.int .i64 0, .int .i64 0] 25)))
        clear hb2
        go_wp2
        exact ⟨⟨1, by omega, by omega, rfl, HP2.out, HF2.out⟩, by simp [intOf]⟩
      · clear hk0 hk3
        go_wp2_with fail
        refine (sub_any 1 a kb b _).mono ?_
        rintro e w2 ⟨rfl, hb2⟩
        rw [did_num (did_else _ HQ.out)]
        have HP2 := Lib.hid ((HP.out.below hb2).alloc (.cells #[.int .i64 0, .int .i64 0] 25))
        have HF2 := Lib.hid ((HF.out.below hb2).below (below_new w2 (.cells #[.int .i64 0, .int .i64 0] 25)))
        clear hb2
        go_wp2
        exact ⟨⟨2, by omega, by omega, rfl, HP2.out, HF2.out⟩, by simp [intOf]⟩
      · clear hk0 hk3
        go_wp2_with fail
        refine (mul_any 1 a kb b _).mono ?_
        rintro e w2 ⟨rfl, hb2⟩
        rw [did_num (did_else _ HQ.out)]
        have HP2 := Lib.hid ((HP.out.below hb2).alloc (.cells #[.int .i64 0, .int .i64 0] 25))
        have HF2 := Lib.hid ((HF.out.below hb2).below (below_new w2 (.cells #[.int .i64 0, .int .i64 0] 25)))
        clear hb2
        go_wp2
        exact ⟨⟨3, by omega, by omega, rfl, HP2.out, HF2.out⟩, by simp [intOf]⟩
      · clear hk0 hk3
        go_wp2_with fail
        refine (less_any 1 a kb b _).mono ?_
        rintro e w2 ⟨rfl, hb2⟩
        rw [lesd_else HQ.out]
        have HB2 := Lib.hid (HP.out.below hb2).bel
        clear hb2
        go_wp2
        go_ret
        exact ⟨rfl, HB2.out⟩
set_option maxHeartbeats 4000000 in
set_option maxRecDepth 100000 in
theorem kinds_fst (ka a kb b : Int) (w : World) (hL : Laid w) (h : ka ≠ 1) : Calls Tryd.prog 7 #[.agg #[.int .i64 ka, .int .i64 a], .agg #[.int .i64 kb, .int .i64 b]] w fun e w' => e = .returned (.bool true) ∧ Below w.heap.size w w' := by
  have HL := Lib.hid hL
  clear hL
  have HQ : Hid (ka ≠ 1 ∨ kb ≠ 1) := Lib.hid (.inl h)
  have hk : (ka == 1) = false := by simpa using h
  clear h
  go_enter Tryd.func7, Tryd.ntmps7
  go_wp2_with fail
  refine (alive_any _ ((HL.out.alloc _).alloc _)).mono ?_
  rintro e w1 ⟨rfl, hb1⟩
  have hB := boxes_new HL.out hb1
  have HB := Lib.hid hB
  have c0 := hB.xr.fst
  have c1 := hB.xr.snd
  have d0 := hB.yr.fst
  have d1 := hB.yr.snd
  have hlt0 := hB.xr.lt
  have hlt1 := hB.yr.lt
  clear hb1 hB
  go_wp2_with fail
  go_cut [5, 6] from 16 to 17 (fun u v wx => ∃ g1 g2, u = .pointer (some ⟨g1, 0, none⟩) ∧ v = .pointer (some ⟨g2, 0, none⟩) ∧ Pair w ka a kb b g1 g2 wx)
  case first =>
    go_region
    all_goals (go_wp2_with fail; go_meet)
    · exact ⟨_, _, rfl, rfl, pair_xy HB.out⟩
    · exact ⟨_, _, rfl, rfl, pair_yx HB.out⟩
  case rest =>
    obtain ⟨g1, g2, rfl, rfl, hp⟩ := hcut
    clear c0 c1 d0 d1 hlt0 hlt1 HB
    have c0 := hp.x.fst
    have c1 := hp.x.snd
    have d0 := hp.y.fst
    have d1 := hp.y.snd
    have HP := Lib.hid hp
    clear hp
    go_wp2_with fail
    go_loopw [28] (FnRel w ka a kb b g1 g2 wc.heap.size) (fun i _ => 3 - (intOf i).toNat)
    case atStart => exact ⟨0, by omega, by omega, rfl, HP.out.alloc _, fns_new _⟩
    case round =>
      obtain ⟨k, hk0, hk3, rfl, hp, hf⟩ := hrel
      clear c0 c1 d0 d1 HP
      have c0 := hp.x.fst
      have c1 := hp.x.snd
      have d0 := hp.y.fst
      have d1 := hp.y.snd
      have e0 := hf.c0
      have e1 := hf.c1
      have e2 := hf.c2
      have HP := Lib.hid hp
      have HF := Lib.hid hf
      clear hp hf
      rcases four_cases hk0 hk3 with rfl | rfl | rfl | rfl
      · clear hk0 hk3
        go_wp2_with fail
        refine (add_any ka a kb b _).mono ?_
        rintro e w2 ⟨rfl, hb2⟩
        rw [did_num (did_else _ HQ.out)]
        have HP2 := Lib.hid ((HP.out.below hb2).alloc (.cells #[.int .i64 0, .int .i64 0] 25))
        have HF2 := Lib.hid ((HF.out.below hb2).below (below_new w2 (.cells #[.int .i64 0, .int .i64 0] 25)))
        clear hb2
        go_wp2
        exact ⟨⟨1, by omega, by omega, rfl, HP2.out, HF2.out⟩, by simp [intOf]⟩
      · clear hk0 hk3
        go_wp2_with fail
        refine (sub_any ka a kb b _).mono ?_
        rintro e w2 ⟨rfl, hb2⟩
        rw [did_num (did_else _ HQ.out)]
        have HP2 := Lib.hid ((HP.out.below hb2).alloc (.cells #[.int .i64 0, .int .i64 0] 25))
        have HF2 := Lib.hid ((HF.out.below hb2).below (below_new w2 (.cells #[.int .i64 0, .int .i64 0] 25)))
        clear hb2
        go_wp2
        exact ⟨⟨2, by omega, by omega, rfl, HP2.out, HF2.out⟩, by simp [intOf]⟩
      · clear hk0 hk3
        go_wp2_with fail
        refine (mul_any ka a kb b _).mono ?_
        rintro e w2 ⟨rfl, hb2⟩
        rw [did_num (did_else _ HQ.out)]
        have HP2 := Lib.hid ((HP.out.below hb2).alloc (.cells #[.int .i64 0, .int .i64 0] 25))
        have HF2 := Lib.hid ((HF.out.below hb2).below (below_new w2 (.cells #[.int .i64 0, .int .i64 0] 25)))
        clear hb2
        go_wp2
        exact ⟨⟨3, by omega, by omega, rfl, HP2.out, HF2.out⟩, by simp [intOf]⟩
      · clear hk0 hk3
        go_wp2_with fail
        refine (less_any ka a kb b _).mono ?_
        rintro e w2 ⟨rfl, hb2⟩
        rw [lesd_else HQ.out]
        have HB2 := Lib.hid (HP.out.below hb2).bel
        clear hb2
        go_wp2
        go_ret
        exact ⟨rfl, HB2.out⟩
theorem kinds_walk (ka a kb b : Int) (w : World) (hL : Laid w) : Calls Tryd.prog 7 #[.agg #[.int .i64 ka, .int .i64 a], .agg #[.int .i64 kb, .int .i64 b]] w fun e w' => e = .returned (.bool true) ∧ Below w.heap.size w w' := by
  by_cases h1 : ka = 1
  · subst h1
    by_cases h2 : kb = 1
    · subst h2; exact kinds_ints a b w hL
    · exact kinds_snd a kb b w hL h2
  · exact kinds_fst ka a kb b w hL h1
end Go.Proofs.YtpfoehcgcofgpaaDoor
