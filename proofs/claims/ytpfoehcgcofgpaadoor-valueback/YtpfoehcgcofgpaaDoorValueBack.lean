/-
  The walk of ValueBack.
-/
import Derived.Test.YtpfoehcgcofgpaaDoorValuePair
namespace Go.Proofs.YtpfoehcgcofgpaaDoor
open Go.RowKit
theorem pair_eq {ka a kb b : Int} (ha : Va.i64p a) (hb : Va.i64p b) (h : Va.right ka a = true) (h' : Va.right kb b = true) : ((str (Va.text ka a)).toList == (str (Va.text kb b)).toList) = (ka == kb && a == b) := by
  rw [str_eq, Bool.eq_iff_iff]
  simp only [decide_eq_true_eq, Bool.and_eq_true, beq_iff_eq]
  constructor
  · exact fun e => Va.text_inj ha hb h h' e
  · rintro ⟨rfl, rfl⟩; rfl
theorem eq_if {ka kb a b : Int} {E : Bool} {α : Type} {f : Bool → α} (h : (ka == kb && a == b) = E) : (if ka = kb then (if a = b then f true else f false) else f false) = f E := by
  subst h
  by_cases h1 : ka = kb
  · by_cases h2 : a = b
    · simp [h1, h2]
    · have e : (a == b) = false := by simpa using h2
      rw [if_pos h1, if_neg h2, e, Bool.and_false]
  · have e : (ka == kb) = false := by simpa using h1
    rw [if_neg h1, e, Bool.false_and]
/-- both values, and a third one beside them. -/
structure Trio (w : World) (ka a kb b : Int) (g1 g2 g3 : Nat) (W : World) : Prop where
  p : Pair w ka a kb b g1 g2 W
  v : ValAt W g3 25 ka a
theorem Trio.below {w W W' : World} {ka a kb b : Int} {g1 g2 g3 : Nat} (h : Trio w ka a kb b g1 g2 g3 W) (hb : Below W.heap.size W W') : Trio w ka a kb b g1 g2 g3 W' := ⟨h.p.below hb, h.v.below hb⟩
set_option maxHeartbeats 8000000 in
set_option maxRecDepth 100000 in
theorem back_long (ka a kb b : Int) (l : List UInt8) (w : World) (hlen : 200 < l.length) (hL : Laid w) : Calls Tryd.prog 5 #[.agg #[.int .i64 ka, .int .i64 a], .agg #[.int .i64 kb, .int .i64 b], .string (str l)] w fun e w' => e = .returned (.bool true) ∧ Below w.heap.size w w' := by
  have HL := Lib.hid hL
  have hz := str_size l
  clear hL
  go_enter Tryd.func5, Tryd.ntmps5
  go_wp2_with fail
  refine (alive_any _ ((HL.out.alloc _).alloc _)).mono ?_
  rintro e w1 ⟨rfl, hb1⟩
  have HB := Lib.hid (boxes_new HL.out hb1).bel
  clear hb1
  go_wp2
  go_ret
  exact ⟨rfl, HB.out⟩
set_option maxHeartbeats 8000000 in
set_option maxRecDepth 100000 in
theorem back_wrong (ka a kb b : Int) (l : List UInt8) (w : World) (ha : Va.i64p a) (hr : Va.right ka a = false) (hlen : ¬ 200 < l.length) (hL : Laid w) : Calls Tryd.prog 5 #[.agg #[.int .i64 ka, .int .i64 a], .agg #[.int .i64 kb, .int .i64 b], .string (str l)] w fun e w' => e = .returned (.bool true) ∧ Below w.heap.size w w' := by
  have HL := Lib.hid hL
  have hz := str_size l
  clear hL
  have HA := Lib.hid ha
  have HR := Lib.hid hr
  have he : ((str (Va.text ka a)).toList == []) = true := by rw [Va.text_wrong hr, str_toList]; rfl
  clear ha hr
  go_enter Tryd.func5, Tryd.ntmps5
  go_wp2_with fail
  refine (alive_any _ ((HL.out.alloc _).alloc _)).mono ?_
  rintro e w1 ⟨rfl, hb1⟩
  have hB := boxes_new HL.out hb1
  have HB := Lib.hid hB
  have c0 := hB.xr.fst
  have c1 := hB.xr.snd
  have d0 := hB.yr.fst
  have d1 := hB.yr.snd
  have hlt0 := hB.xr.lt
  have hlt1 := hB.yr.lt
  clear hb1 hB
  go_wp2_with fail
  go_cut [7, 8] from 19 to 20 (fun u v wx => ∃ g1 g2, u = .pointer (some ⟨g1, 0, none⟩) ∧ v = .pointer (some ⟨g2, 0, none⟩) ∧ Pair w ka a kb b g1 g2 wx)
  case first =>
    go_region
    all_goals (go_wp2_with fail; go_meet)
    · exact ⟨_, _, rfl, rfl, pair_xy HB.out⟩
    · exact ⟨_, _, rfl, rfl, pair_yx HB.out⟩
  case rest =>
    obtain ⟨g1, g2, rfl, rfl, hp⟩ := hcut
    clear c0 c1 d0 d1 hlt0 hlt1 HB
    have c0 := hp.x.fst
    have c1 := hp.x.snd
    have HP := Lib.hid hp
    clear hp
    go_wp2_with fail
    refine (print_any ka a _ HA.out HP.out.laid).mono ?_
    rintro e w2 ⟨rfl, hb2⟩
    have hp2 := HP.out.below hb2
    clear c0 c1 hb2 HP
    have c0 := hp2.x.fst
    have c1 := hp2.x.snd
    have HP2 := Lib.hid hp2
    clear hp2
    go_wp2_with fail
    refine (right_val ka a _ _ HR.out).mono ?_
    rintro e w3 ⟨rfl, hb3⟩
    have HP3 := Lib.hid (HP2.out.below hb3)
    clear c0 c1 hb3 HP2
    go_wp2
    go_ret
    exact ⟨rfl, HP3.out.bel⟩
set_option maxHeartbeats 8000000 in
set_option maxRecDepth 100000 in
theorem back_right (ka a kb b : Int) (l : List UInt8) (w : World) (ha : Va.i64p a) (hbb : Va.i64p b) (hr : Va.right ka a = true) (hlen : ¬ 200 < l.length) (hL : Laid w) : Calls Tryd.prog 5 #[.agg #[.int .i64 ka, .int .i64 a], .agg #[.int .i64 kb, .int .i64 b], .string (str l)] w fun e w' => e = .returned (.bool true) ∧ Below w.heap.size w w' := by
  have HL := Lib.hid hL
  have hz := str_size l
  clear hL
  have HA := Lib.hid ha
  have HBB := Lib.hid hbb
  have HR := Lib.hid hr
  have HPE := Lib.hid (show Va.Parsed (Va.text ka a) ka a 0 from ⟨ha, .inl ⟨rfl, hr, rfl⟩⟩)
  clear ha hr hbb
  go_enter Tryd.func5, Tryd.ntmps5
  go_wp2_with fail
  refine (alive_any _ ((HL.out.alloc _).alloc _)).mono ?_
  rintro e w1 ⟨rfl, hb1⟩
  have hB := boxes_new HL.out hb1
  have HB := Lib.hid hB
  have c0 := hB.xr.fst
  have c1 := hB.xr.snd
  have d0 := hB.yr.fst
  have d1 := hB.yr.snd
  have hlt0 := hB.xr.lt
  have hlt1 := hB.yr.lt
  clear hb1 hB
  go_wp2_with fail
  go_cut [7, 8] from 19 to 20 (fun u v wx => ∃ g1 g2, u = .pointer (some ⟨g1, 0, none⟩) ∧ v = .pointer (some ⟨g2, 0, none⟩) ∧ Pair w ka a kb b g1 g2 wx)
  case first =>
    go_region
    all_goals (go_wp2_with fail; go_meet)
    · exact ⟨_, _, rfl, rfl, pair_xy HB.out⟩
    · exact ⟨_, _, rfl, rfl, pair_yx HB.out⟩
  case rest =>
    obtain ⟨g1, g2, rfl, rfl, hp⟩ := hcut
    clear c0 c1 d0 d1 hlt0 hlt1 HB
    have c0 := hp.x.fst
    have c1 := hp.x.snd
    have HP := Lib.hid hp
    clear hp
    go_wp2_with fail
    refine (print_any ka a _ HA.out HP.out.laid).mono ?_
    rintro e w2 ⟨rfl, hb2⟩
    have hp2 := HP.out.below hb2
    clear c0 c1 hb2 HP
    have c0 := hp2.x.fst
    have c1 := hp2.x.snd
    have HP2 := Lib.hid hp2
    clear hp2
    go_wp2_with fail
    refine (right_val ka a _ _ HR.out).mono ?_
    rintro e w3 ⟨rfl, hb3⟩
    have HP3 := Lib.hid (HP2.out.below hb3)
    clear c0 c1 hb3 HP2
    go_wp2_with fail
    refine (parse_val (Va.text ka a) ka a 0 _ HPE.out HP3.out.laid).mono ?_
    rintro e w4 ⟨rfl, hb4⟩
    have H4 := Lib.hid (Trio.mk ((HP3.out.below hb4).alloc (.cells #[.int .i64 ka, .int .i64 a] 25)) (valAt_new w4 ka a 25))
    clear hb4 HP3
    go_wp2_with fail
    cases hrb : Va.right kb b
    · have HRB := Lib.hid hrb
      clear hrb
      refine wp_region_noPanic ?_
      refine region_start (S := Trio w ka a kb b g1 g2 w4.heap.size) 21 rfl (by kernel_rfl) (H4.out.below (below_drew _)) (fun hHeld => ?_)
      refine take_at 0 33 (.agg #[.int .i64 ka, .int .i64 a]) rfl rfl (by kernel_rfl) (by kernel_rfl) (by kernel_rfl) (fun _ _ _ h => h) (yields_val (by rfl) 25 (.tmp 10) rfl (w4.heap.size) rfl 25 _ _ (fun W h => h.v) Tryd.underlying25 val_info) hHeld ?_
      simp only [put_laws]
      refine take_at 1 34 (.agg #[.int .i64 ka, .int .i64 a]) rfl rfl (by kernel_rfl) (by kernel_rfl) (by kernel_rfl) (fun _ _ _ h => h) (yields_val (by rfl) 25 (.tmp 7) rfl (g1) rfl 25 _ _ (fun W h => h.p.x) Tryd.underlying25 val_info) hHeld ?_
      simp only [put_laws]
      refine take_at 2 35 (.bool false) rfl rfl (by kernel_rfl) (by kernel_rfl) (by kernel_rfl) (fun _ _ _ h => h) (Or.inl ⟨by rfl, by intro W hW; clear hW; go_simp⟩) hHeld ?_
      simp only [put_laws]
      refine take_at 3 36 (.bool false) rfl rfl (by kernel_rfl) (by kernel_rfl) (by kernel_rfl) (fun _ _ _ h => h) (Or.inl ⟨by rfl, by intro W hW; clear hW; go_simp⟩) hHeld ?_
      simp only [put_laws]
      refine take_at 4 37 (.int .i64 0) rfl rfl (by kernel_rfl) (by kernel_rfl) (by kernel_rfl) (fun _ _ _ h => h) (Or.inl ⟨by rfl, by intro W hW; clear hW; go_simp⟩) hHeld ?_
      simp only [put_laws]
      refine take_at 5 38 (.bool false) rfl rfl (by kernel_rfl) (by kernel_rfl) (by kernel_rfl) (fun _ _ _ h => h) (Or.inl ⟨by rfl, by intro W hW; clear hW; go_simp⟩) hHeld ?_
      simp only [put_laws]
      refine take_at 6 39 (.bool false) rfl rfl (by kernel_rfl) (by kernel_rfl) (by kernel_rfl) (fun _ _ _ h => h) (Or.inl ⟨by rfl, by intro W hW; clear hW; go_simp⟩) hHeld ?_
      simp only [put_laws]
      refine take_at 7 40 (.bool false) rfl rfl (by kernel_rfl) (by kernel_rfl) (by kernel_rfl) (fun _ _ _ h => h) (Or.inl ⟨by rfl, by intro W hW; clear hW; go_simp⟩) hHeld ?_
      simp only [put_laws]
      refine take_at 8 41 (.agg #[.int .i64 kb, .int .i64 b]) rfl rfl (by kernel_rfl) (by kernel_rfl) (by kernel_rfl) (fun _ _ _ h => h) (yields_val (by rfl) 25 (.tmp 8) rfl (g2) rfl 25 _ _ (fun W h => h.p.y) Tryd.underlying25 val_info) hHeld ?_
      simp only [put_laws]
      refine wpAnyH_ready (rs := [9]) (by kernel_rfl) (by simp) ?_
      refine AllReadyH.cons rfl (fun K hK => ?_) AllReadyH.nil
      go_simp
      refine (right_val kb b _ _ HRB.out).mono ?_
      rintro e wc42 ⟨rfl, hb⟩
      try go_simp
      have hHeld := hHeld.below hb
      have hsz42 := hb.size
      clear hb
      refine hK.out _ _ hHeld (fun hHeld => ?_)
      clear hK K
      refine take_at 10 43 (.bool false) rfl rfl (by kernel_rfl) (by kernel_rfl) (by kernel_rfl) (fun _ _ _ h => h) (Or.inl ⟨by rfl, by intro W hW; clear hW; go_simp⟩) hHeld ?_
      simp only [put_laws]
      refine take_at 11 44 undef rfl rfl (by kernel_rfl) (by kernel_rfl) (by kernel_rfl) (fun _ _ _ h => h) (Or.inr ⟨by rfl, rfl⟩) hHeld ?_
      simp only [put_laws]
      refine take_at 12 45 undef rfl rfl (by kernel_rfl) (by kernel_rfl) (by kernel_rfl) (fun _ _ _ h => h) (Or.inr ⟨by rfl, rfl⟩) hHeld ?_
      simp only [put_laws]
      refine take_at 13 46 undef rfl rfl (by kernel_rfl) (by kernel_rfl) (by kernel_rfl) (fun _ _ _ h => h) (Or.inr ⟨by rfl, rfl⟩) hHeld ?_
      simp only [put_laws]
      refine take_at 14 47 undef rfl rfl (by kernel_rfl) (by kernel_rfl) (by kernel_rfl) (fun _ _ _ h => h) (Or.inr ⟨by rfl, rfl⟩) hHeld ?_
      simp only [put_laws]
      refine take_at 15 48 undef rfl rfl (by kernel_rfl) (by kernel_rfl) (by kernel_rfl) (fun _ _ _ h => h) (Or.inr ⟨by rfl, rfl⟩) hHeld ?_
      simp only [put_laws]
      refine take_at 16 49 undef rfl rfl (by kernel_rfl) (by kernel_rfl) (by kernel_rfl) (fun _ _ _ h => h) (Or.inr ⟨by rfl, rfl⟩) hHeld ?_
      simp only [put_laws]
      refine take_at 17 50 undef rfl rfl (by kernel_rfl) (by kernel_rfl) (by kernel_rfl) (fun _ _ _ h => h) (Or.inr ⟨by rfl, rfl⟩) hHeld ?_
      simp only [put_laws]
      refine take_at 18 51 undef rfl rfl (by kernel_rfl) (by kernel_rfl) (by kernel_rfl) (fun _ _ _ h => h) (Or.inr ⟨by rfl, rfl⟩) hHeld ?_
      simp only [put_laws]
      refine take_at 19 52 (.bool false) rfl rfl (by kernel_rfl) (by kernel_rfl) (by kernel_rfl) (fun _ _ _ h => h) (Or.inl ⟨by rfl, by intro W hW; clear hW; go_simp⟩) hHeld ?_
      simp only [put_laws]
      refine take_at 20 53 (.bool false) rfl rfl (by kernel_rfl) (by kernel_rfl) (by kernel_rfl) (fun _ _ _ h => h) (Or.inl ⟨by rfl, by intro W hW; clear hW; go_simp⟩) hHeld ?_
      simp only [put_laws]
      refine wpAnyH_done (by kernel_rfl) ?_ _
      refine NoPanic.normal ?_
      go_wp2_with fail
      have HQ := Lib.hid hHeld.p
      refine (parse_any l _ HQ.out.laid).mono ?_
      rintro e w5 ⟨k, n, x, rfl, hp5, hb5⟩
      have HB5 := Lib.hid ((HQ.out.below hb5).bel.alloc (HQ.out.below hb5).bel.size (.cells #[.int .i64 k, .int .i64 n] 25))
      have HL5 := Lib.hid ((HQ.out.below hb5).laid.alloc (.cells #[.int .i64 k, .int .i64 n] 25))
      clear hb5
      obtain ⟨h64, hc⟩ := hp5
      rcases hc with ⟨rfl, hr5, ht⟩ | ⟨rfl, rfl, rfl, hno⟩
      · have H64 := Lib.hid h64
        have HT := Lib.hid ht
        have hs5 := HB5.out.size
        clear h64 ht hr5
        go_wp2_with fail
        refine (print_val k n l _ H64.out HT.out HL5.out).mono ?_
        rintro e w6 ⟨rfl, hb6⟩
        have HB6 := Lib.hid (HB5.out.trans (hb6.mono HB5.out.size))
        clear hb6
        go_wp2
        go_ret
        exact ⟨rfl, HB6.out⟩
      · clear hno h64
        go_wp2
        go_ret
        exact ⟨rfl, HB5.out⟩
    · have hpe := pair_eq HA.out HBB.out HR.out hrb
      obtain ⟨E, hE⟩ : ∃ E, (ka == kb && a == b) = E := ⟨_, rfl⟩
      rw [hE] at hpe
      have HRB := Lib.hid hrb
      have HPQ := Lib.hid hpe
      have HEE := Lib.hid hE
      clear hrb hpe hE
      refine wp_region_noPanic ?_
      refine region_start (S := Trio w ka a kb b g1 g2 w4.heap.size) 21 rfl (by kernel_rfl) (H4.out.below (below_drew _)) (fun hHeld => ?_)
      refine take_at 0 33 (.agg #[.int .i64 ka, .int .i64 a]) rfl rfl (by kernel_rfl) (by kernel_rfl) (by kernel_rfl) (fun _ _ _ h => h) (yields_val (by rfl) 25 (.tmp 10) rfl (w4.heap.size) rfl 25 _ _ (fun W h => h.v) Tryd.underlying25 val_info) hHeld ?_
      simp only [put_laws]
      refine take_at 1 34 (.agg #[.int .i64 ka, .int .i64 a]) rfl rfl (by kernel_rfl) (by kernel_rfl) (by kernel_rfl) (fun _ _ _ h => h) (yields_val (by rfl) 25 (.tmp 7) rfl (g1) rfl 25 _ _ (fun W h => h.p.x) Tryd.underlying25 val_info) hHeld ?_
      simp only [put_laws]
      refine take_at 2 35 (.bool false) rfl rfl (by kernel_rfl) (by kernel_rfl) (by kernel_rfl) (fun _ _ _ h => h) (Or.inl ⟨by rfl, by intro W hW; clear hW; go_simp⟩) hHeld ?_
      simp only [put_laws]
      refine take_at 3 36 (.bool false) rfl rfl (by kernel_rfl) (by kernel_rfl) (by kernel_rfl) (fun _ _ _ h => h) (Or.inl ⟨by rfl, by intro W hW; clear hW; go_simp⟩) hHeld ?_
      simp only [put_laws]
      refine take_at 4 37 (.int .i64 0) rfl rfl (by kernel_rfl) (by kernel_rfl) (by kernel_rfl) (fun _ _ _ h => h) (Or.inl ⟨by rfl, by intro W hW; clear hW; go_simp⟩) hHeld ?_
      simp only [put_laws]
      refine take_at 5 38 (.bool false) rfl rfl (by kernel_rfl) (by kernel_rfl) (by kernel_rfl) (fun _ _ _ h => h) (Or.inl ⟨by rfl, by intro W hW; clear hW; go_simp⟩) hHeld ?_
      simp only [put_laws]
      refine take_at 6 39 (.bool false) rfl rfl (by kernel_rfl) (by kernel_rfl) (by kernel_rfl) (fun _ _ _ h => h) (Or.inl ⟨by rfl, by intro W hW; clear hW; go_simp⟩) hHeld ?_
      simp only [put_laws]
      refine take_at 7 40 (.bool false) rfl rfl (by kernel_rfl) (by kernel_rfl) (by kernel_rfl) (fun _ _ _ h => h) (Or.inl ⟨by rfl, by intro W hW; clear hW; go_simp⟩) hHeld ?_
      simp only [put_laws]
      refine take_at 8 41 (.agg #[.int .i64 kb, .int .i64 b]) rfl rfl (by kernel_rfl) (by kernel_rfl) (by kernel_rfl) (fun _ _ _ h => h) (yields_val (by rfl) 25 (.tmp 8) rfl (g2) rfl 25 _ _ (fun W h => h.p.y) Tryd.underlying25 val_info) hHeld ?_
      simp only [put_laws]
      refine wpAnyH_ready (rs := [9]) (by kernel_rfl) (by simp) ?_
      refine AllReadyH.cons rfl (fun K hK => ?_) AllReadyH.nil
      go_simp
      refine (right_val kb b _ _ HRB.out).mono ?_
      rintro e wc42 ⟨rfl, hb⟩
      try go_simp
      have hHeld := hHeld.below hb
      have hsz42 := hb.size
      clear hb
      refine hK.out _ _ hHeld (fun hHeld => ?_)
      clear hK K
      refine take_at 10 43 (.bool true) rfl rfl (by kernel_rfl) (by kernel_rfl) (by kernel_rfl) (fun _ _ _ h => h) (Or.inl ⟨by rfl, by intro W hW; clear hW; go_simp⟩) hHeld ?_
      simp only [put_laws]
      refine take_at 11 44 (.string (str (Va.text ka a))) rfl rfl (by kernel_rfl) (by kernel_rfl) (by kernel_rfl) (fun _ _ _ h => h) (Or.inl ⟨by rfl, by intro W hW; clear hW; go_simp⟩) hHeld ?_
      simp only [put_laws]
      refine take_at 12 45 (.agg #[.int .i64 kb, .int .i64 b]) rfl rfl (by kernel_rfl) (by kernel_rfl) (by kernel_rfl) (fun _ _ _ h => h) (yields_val (by rfl) 25 (.tmp 8) rfl (g2) rfl 25 _ _ (fun W h => h.p.y) Tryd.underlying25 val_info) hHeld ?_
      simp only [put_laws]
      refine take_at 15 48 (.agg #[.int .i64 ka, .int .i64 a]) rfl rfl (by kernel_rfl) (by kernel_rfl) (by kernel_rfl) (fun _ _ _ h => h) (yields_val (by rfl) 23 (.tmp 3) rfl (w.heap.size) rfl 23 _ _ (fun W h => h.p.xr) Tryd.underlying23 rval_info) hHeld ?_
      simp only [put_laws]
      refine take_at 16 49 (.agg #[.int .i64 kb, .int .i64 b]) rfl rfl (by kernel_rfl) (by kernel_rfl) (by kernel_rfl) (fun _ _ _ h => h) (yields_val (by rfl) 23 (.tmp 4) rfl (w.heap.size + 1) rfl 23 _ _ (fun W h => h.p.yr) Tryd.underlying23 rval_info) hHeld ?_
      simp only [put_laws]
      refine take_at 17 50 (.bool E) rfl rfl (by kernel_rfl) (by kernel_rfl) (by kernel_rfl) (fun _ _ _ h => h) (Or.inl ⟨by rfl, by intro W hW; clear hW; go_simp; exact eq_if (f := fun c => Result.ok (Next.value (Value.bool c)) W) HEE.out⟩) hHeld ?_
      simp only [put_laws]
      refine wpAnyH_ready (rs := [13]) (by kernel_rfl) (by simp) ?_
      refine AllReadyH.cons rfl (fun K hK => ?_) AllReadyH.nil
      go_simp
      refine (print_any kb b _ HBB.out hHeld.p.laid).mono ?_
      rintro e wc46 ⟨rfl, hb⟩
      try go_simp
      have hHeld := hHeld.below hb
      have hsz46 := hb.size
      clear hb
      refine hK.out _ _ hHeld (fun hHeld => ?_)
      clear hK K
      refine take_at 14 47 (.bool E) rfl rfl (by kernel_rfl) (by kernel_rfl) (by kernel_rfl) (fun _ _ _ h => h) (Or.inl ⟨by rfl, by intro W hW; have hq := HPQ.out; clear hW; go_simp⟩) hHeld ?_
      simp only [put_laws]
      refine take_at 18 51 (.bool false) rfl rfl (by kernel_rfl) (by kernel_rfl) (by kernel_rfl) (fun _ _ _ h => h) (Or.inl ⟨by rfl, by intro W hW; clear hW; go_simp⟩) hHeld ?_
      simp only [put_laws]
      refine take_at 19 52 (.bool false) rfl rfl (by kernel_rfl) (by kernel_rfl) (by kernel_rfl) (fun _ _ _ h => h) (Or.inl ⟨by rfl, by intro W hW; clear hW; go_simp⟩) hHeld ?_
      simp only [put_laws]
      refine take_at 20 53 (.bool false) rfl rfl (by kernel_rfl) (by kernel_rfl) (by kernel_rfl) (fun _ _ _ h => h) (Or.inl ⟨by rfl, by intro W hW; clear hW; go_simp⟩) hHeld ?_
      simp only [put_laws]
      refine wpAnyH_done (by kernel_rfl) ?_ _
      refine NoPanic.normal ?_
      go_wp2_with fail
      have HQ := Lib.hid hHeld.p
      refine (parse_any l _ HQ.out.laid).mono ?_
      rintro e w5 ⟨k, n, x, rfl, hp5, hb5⟩
      have HB5 := Lib.hid ((HQ.out.below hb5).bel.alloc (HQ.out.below hb5).bel.size (.cells #[.int .i64 k, .int .i64 n] 25))
      have HL5 := Lib.hid ((HQ.out.below hb5).laid.alloc (.cells #[.int .i64 k, .int .i64 n] 25))
      clear hb5
      obtain ⟨h64, hc⟩ := hp5
      rcases hc with ⟨rfl, hr5, ht⟩ | ⟨rfl, rfl, rfl, hno⟩
      · have H64 := Lib.hid h64
        have HT := Lib.hid ht
        have hs5 := HB5.out.size
        clear h64 ht hr5
        go_wp2_with fail
        refine (print_val k n l _ H64.out HT.out HL5.out).mono ?_
        rintro e w6 ⟨rfl, hb6⟩
        have HB6 := Lib.hid (HB5.out.trans (hb6.mono HB5.out.size))
        clear hb6
        go_wp2
        go_ret
        exact ⟨rfl, HB6.out⟩
      · clear hno h64
        go_wp2
        go_ret
        exact ⟨rfl, HB5.out⟩
theorem back_walk (ka a kb b : Int) (l : List UInt8) (w : World) (ha : Va.i64p a) (hbb : Va.i64p b) (hL : Laid w) : Calls Tryd.prog 5 #[.agg #[.int .i64 ka, .int .i64 a], .agg #[.int .i64 kb, .int .i64 b], .string (str l)] w fun e w' => e = .returned (.bool true) ∧ Below w.heap.size w w' := by
  by_cases hl : 200 < l.length
  · exact back_long ka a kb b l w hl hL
  cases hr : Va.right ka a
  · exact back_wrong ka a kb b l w ha hr hl hL
  · exact back_right ka a kb b l w ha hbb hr hl hL
end Go.Proofs.YtpfoehcgcofgpaaDoor
