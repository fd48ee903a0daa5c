/-
  The walk of ReplayGraph.
-/
import Derived.Test.YtfdfiiocccafkaaGreatDoorRgMath
import Derived.Test.YtfdfiiocccafkaaGreatDoorRepLaw
namespace Go.Proofs.YtfdfiiocccafkaaGreatDoor.En
open Go.RowKit Rg
attribute [local go_sem ↓] Go.wp_at_zero Go.wp_at_succ
theorem begin_n (z : Int) (n : Nat) (w : World) (hz : z = (n : Nat)) (hn : n ≤ 64) : Calls Tryz.prog 9 #[.int .i64 z] w fun e w' => ∃ B d, e = .returned (.slice B (start n).length d) ∧ Rn.At Rp.encV w' B (start n) ∧ Below w.heap.size w w' := by
  subst hz
  refine (Rp.begin_at (n : Nat) n (by omega) hn w).mono ?_
  rintro e w' ⟨v, rfl, ho, hb⟩
  obtain ⟨B, d, rfl, _, _, hA, _⟩ := ho.slice
  exact ⟨B, d, rfl, hA, hb⟩
theorem abort_zero {g : Eng} {K : Int} (h : Inv K g) : (abort g 0).2 = 3 := by
  have hn : liveAt g 0 = none := by
    cases e : liveAt g 0 with
    | none => rfl
    | some i =>
      obtain ⟨_, h2, h3⟩ := liveAt_some e
      have := h.ps.pos i (.inl h2)
      omega
  unfold abort
  rw [hn]
  show whoE g 0 = 3
  unfold whoE
  simp
set_option maxHeartbeats 8000000 in
set_option maxRecDepth 100000 in
theorem replayGraph_walk (s v : Nat) (A : Option Addr) (N c : Nat) (l : Nat → En.Act) (w : World) (hs : s < 256) (hv : v < 256) (hl : ActsAt w A N c l) (hT : TabAt w) :
    Calls Tryz.prog 3 #[.int .u8 (s : Nat), .int .u8 (v : Nat), .slice A N c] w fun e w' => e = .returned (.bool true) ∧ Below w.heap.size w w' := by
  have HT := Lib.hid hT
  have HL := Lib.hid hl
  have hn : (N : Int) ≤ 9223372036854775807 := by have := hl.1; have := hl.2.1; unfold maxLen at this; omega
  have hz := (zero_of_info gact_info).1
  have hr1 : (s : Int).tmod 32 = ((s % 32 : Nat) : Int) := u8_rem s 32 (by decide)
  have hr2 : (v : Int).tmod 9 = ((v % 9 : Nat) : Int) := u8_rem v 9 (by decide)
  have hm1 : s % 32 < 32 := Nat.mod_lt _ (by decide)
  have hm2 : v % 9 < 9 := Nat.mod_lt _ (by decide)
  clear hT hl
  generalize s % 32 = r1 at *
  generalize v % 9 = r2 at *
  go_enter Tryz.func3, Tryz.ntmps3
  go_wp2_with fail
  refine (Rp.alive_any w).mono ?_
  rintro e w1 ⟨rfl, hb1⟩
  have B1 := Lib.hid hb1
  clear hb1
  by_cases hbig : 150 < N
  · have hbig' : (150 : Int) < (N : Int) := by omega
    go_wp2
    go_ret
    exact ⟨rfl, B1.out⟩
  have hbig' : ¬ (150 : Int) < (N : Int) := by omega
  have hN150 : N ≤ 150 := by omega
  go_wp2_with fail
  refine (new_liveI (1 + (r1 : Nat)) (1 + (r2 : Nat)) w1 ⟨by omega, by omega⟩ ⟨by omega, by omega⟩).mono ?_
  rintro e w2 ⟨b, rfl, hl2⟩
  have H2 := Lib.hid (Live.since B1.out hl2)
  have HOK := Lib.hid (show ∀ i, i < N → (l i).ok from fun i hi => (HL.out.at_ hi).choose_spec.2.1)
  have HRI := Lib.hid (runE_is (n := 1 + ((r1 : Nat) : Int)) (v := 1 + ((r2 : Nat) : Int)) (l := l) (N := N) ⟨by omega, by omega⟩ ⟨by omega, by omega⟩ (by omega) HOK.out N (Nat.le_refl _))
  obtain ⟨n, hnn⟩ : ∃ n : Nat, 1 + r2 = n := ⟨_, rfl⟩
  have hzn : (1 : Int) + ((r2 : Nat) : Int) = ((n : Nat) : Int) := by omega
  have HVN := Lib.hid (show (runE (1 + ((r1 : Nat) : Int)) (1 + ((r2 : Nat) : Int)) l N).s.length = n by
    rw [hzn]
    exact runE_vars ⟨by omega, by omega⟩ (by omega) (by omega) HOK.out N (Nat.le_refl _))
  have HZN := Lib.hid hzn
  have hn9 : n ≤ 9 := by omega
  clear hl2 hzn hnn
  go_wp2
  go_loopw [34] (RunRel w (1 + ((r1 : Nat) : Int)) (1 + ((r2 : Nat) : Int)) l N b) (fun i _ => N - (intOf i).toNat)
  case atStart => exact ⟨0, Nat.zero_le _, rfl, H2.out⟩
  case round =>
    obtain ⟨k, hk, rfl, hst⟩ := hrel
    have HS := Lib.hid hst
    clear hst
    by_cases hlt : k < N
    · obtain ⟨ad, rfl, hok, hkd, ha⟩ := HL.out.at_ hlt
      generalize hx : l k = x at *
      have HX := Lib.hid hx
      have HA := Lib.hid hok
      have HAT := Lib.hid (ha.below HS.out.bel (Nat.le_refl _))
      have c0 := HAT.out.c0
      have c1 := HAT.out.c1
      have c2 := HAT.out.c2
      have c3 := HAT.out.c3
      have c4 := HAT.out.c4
      have hlt' : (k : Int) < (N : Int) := by omega
      have HS4 := Lib.hid (HS.out.below (Tx.below_new wr (.cells (actA x) 29)))
      unfold actA at HS4
      clear hx hok hkd ha HAT
      go_wp2_with fail
      refine (does_any HS4.out (by omega) (by omega) HT.out HA.out).mono ?_
      rintro e w5 ⟨rfl, hl5, _⟩
      rw [← runE_next HX.out] at hl5
      have H5 := Lib.hid hl5
      clear hl5 HS HS4 c0 c1 c2 c3 c4
      go_wp2
      exact ⟨⟨k + 1, by omega, by go_num, H5.out⟩, by simp [intOf]; omega⟩
    · obtain rfl : k = N := by omega
      have hlt' : ¬ (k : Int) < (k : Int) := by omega
      generalize runE (1 + ((r1 : Nat) : Int)) (1 + ((r2 : Nat) : Int)) l k = g at *
      have HREP := Lib.hid (show Rep (start n) (g.log ++ rest g) (vals g.s) by
        have := HRI.out.leg.R _ (slots_lin HRI.out.inv.ps)
        rw [HVN.out] at this
        exact this)
      obtain ⟨E, hE⟩ : ∃ E, g.log ++ rest g = E := ⟨_, rfl⟩
      have HEO := Lib.hid (show ∀ e ∈ E, EntOk n e from fun e he => by
        rw [← hE] at he
        rcases List.mem_append.1 he with h | h
        · have h2 := (HRI.out.inv.ent _ h).1
          rw [HVN.out] at h2
          exact h2
        · obtain ⟨i, hi, e2⟩ := List.mem_map.1 h
          rw [← e2, ← HVN.out]
          exact HRI.out.inv.entry (((slots_lin HRI.out.inv.ps).mem i).1 hi))
      have HLE := Lib.hid (show E.length ≤ 150 by
        have h1 := HRI.out.inv.log
        have h2 := HRI.out.inv.cnt
        have h3 := rest_len HRI.out.inv.ps
        rw [← hE, List.length_append]
        omega)
      obtain ⟨VS, hVS⟩ : ∃ VS, vals g.s = VS := ⟨_, rfl⟩
      have HRA := Lib.hid (show Rp.allI (start n) (E.map cv) = none ∧ Rp.allS (start n) (E.map cv) = VS by
        have := HREP.out
        rw [hE, hVS] at this
        exact rep_all E _ _ this HEO.out (by simp [start]))
      obtain ⟨M, hM⟩ : ∃ M, E.map cv = M := ⟨_, rfl⟩
      have HML := Lib.hid (show M.length = E.length by rw [← hM, List.length_map])
      have HFW := Lib.hid (show Rp.few M by rw [← hM]; exact few_cv HEO.out)
      rw [hM] at HRA
      obtain ⟨F, hF⟩ : ∃ F, M.filter (·.com) = F := ⟨_, rfl⟩
      have HFF := Lib.hid (show Rp.few F by rw [← hF]; exact Rp.few_filter HFW.out)
      have HFL := Lib.hid (show F.length ≤ M.length by rw [← hF]; exact List.length_filter_le _ _)
      have HRF := Lib.hid (show Rp.allI (start n) F = none ∧ Rp.allS (start n) F = VS by
        have := Rp.allI_com HRA.out.1
        rw [hF] at this
        exact ⟨this.1, this.2.trans HRA.out.2⟩)
      have hvl : g.s.length = VS.length := by rw [← hVS, vals_len]
      have hM4 : M.length ≤ 10000 := by have := HML.out; have := HLE.out; omega
      have hF4 : F.length ≤ 10000 := by have := HFL.out; omega
      have hst3 : (start n).length ≤ 300 := by simp [start]; omega
      have hVS3 : VS.length ≤ 300 := by rw [← hvl, HVN.out]; omega
      have HE := Lib.hid hE
      have HVS := Lib.hid hVS
      have HM := Lib.hid hM
      have HF := Lib.hid hF
      have HVL := Lib.hid hvl
      clear hE hVS hM hF hvl
      go_wp2_with fail
      refine (begin_n _ n _ HZN.out (by omega)).mono ?_
      rintro e wa1 ⟨T1, tc1, rfl, hT, hb⟩
      have live_1_1 := Lib.hid (HS.out.below hb)
      have TT1 := Lib.hid hT
      clear hT hb
      go_wp2_with fail
      refine (log_live live_1_1.out (by omega)).mono ?_
      rintro e wb1 ⟨v5, rfl, ht5, hb⟩
      obtain ⟨X5, ho5, hX5, he5⟩ := ht5.ex
      have HO5 := Lib.hid ho5
      have LOGB_1 := Lib.hid hb.size
      have LOG2_1 := Lib.hid hb
      have HX5 := Lib.hid hX5
      have HE5 := Lib.hid he5
      have live_1_2 := Lib.hid (live_1_1.out.below hb)
      have T1_1_2 := Lib.hid (Rp.at_below TT1.out hb)
      clear ht5 ho5 hX5 he5 hb
      go_wp2_with fail
      refine (rest_live live_1_2.out (by omega) HT.out).mono ?_
      rintro e wc1 ⟨v6, rfl, ht6, hb⟩
      obtain ⟨X6, ho6, hX6, he6⟩ := ht6.ex
      obtain ⟨A6, c6, rfl, hx6, _⟩ := ho6.slice
      have HB6 := Lib.hid hb
      have HX6 := Lib.hid hX6
      have HE6 := Lib.hid he6
      have HXS6 := Lib.hid hx6
      have HO56 := Lib.hid (HO5.out.below hb (Nat.le_refl _))
      have live_1_3 := Lib.hid (live_1_2.out.below hb)
      have T1_1_3 := Lib.hid (Rp.at_below T1_1_2.out hb)
      have HXM := Lib.hid (show (X5 ++ X6).map (·.1) = E by rw [List.map_append, HX5.out, hX6]; exact HE.out)
      have HXL := Lib.hid (show X5.length + X6.length ≤ 150 by have h1 := congrArg List.length HXM.out; rw [List.length_map, List.length_append] at h1; have := HLE.out; omega)
      have HOB := Lib.hid (fun q (e : v5.ownBlock = some q) => (World.ownsRow.lt HO5.out q e).2)
      clear ht6 ho6 hX6 he6 hb hx6
      go_wp2_with (at_builtin; refine append_ents rfl _ _ rfl rfl HO56.out _ _ X6 rfl rfl HXS6.out (flatE_one HE6.out) ?c1 ?c2 ?_)
      case c1 => have := HXL.out; omega
      case c2 => exact Nat.le_trans LOGB_1.out HB6.out.size
      intro v7 wd1 ho7 hg7
      have hb7 := grown_below HO56.out hg7 (Nat.le_trans LOGB_1.out HB6.out.size)
      have hbb := (LOG2_1.out.trans (HB6.out.mono LOGB_1.out)).trans hb7
      have live_1_4 := Lib.hid (live_1_1.out.below hbb)
      have T1_1_4 := Lib.hid (Rp.at_below TT1.out hbb)
      have hent := told_append (fun x hx => (HE5.out x hx).kp (Kp.of_below HB6.out)) HE6.out HOB.out hg7
      obtain ⟨A7, c7, rfl, hx7, _⟩ := ho7.slice
      obtain ⟨Y1, hY⟩ := xs_it hx7 hent HXM.out
      rw [HM.out] at hY
      have hlen : (X5 ++ X6).length = M.length := by rw [HML.out, ← HXM.out, List.length_map]
      rw [hlen]
      have YY1 := Lib.hid hY
      clear ho7 hg7 hb7 hbb hent hx7 hY hlen HO5 HX5 HE5 HB6 HX6 HE6 HXS6 HO56 HXM HXL HOB
      go_wp2_with fail
      refine (Rp.all_s T1 A7 tc1 c7 (start n) VS (-1) Y1 M _ T1_1_4.out YY1.out HFW.out hM4 hst3 HRA.out.2 (Rp.allN_none HRA.out.1)).mono ?_
      rintro e we ⟨R, rc, rfl, hR, hb⟩
      have live_e := Lib.hid (live_1_4.out.below hb)
      have RR := Lib.hid hR
      clear hR hb
      go_wp2_with fail
      refine (Rp.valuesV_s _ _ _ _ RR.out hVS3).mono ?_
      rintro e wf ⟨V1, vc1, rfl, hV, hb⟩
      have live_f := Lib.hid (live_e.out.below hb)
      have R_f := Lib.hid (Rp.at_below RR.out hb)
      have VV1 := Lib.hid hV
      clear hV hb
      go_wp2_with fail
      refine (values_live live_f.out (by omega)).mono ?_
      rintro e wg ⟨q3, rfl, hv3, hb⟩
      have live_g := Lib.hid (live_f.out.below hb)
      have R_g := Lib.hid (Rp.at_below R_f.out hb)
      have V1_g := Lib.hid (Rp.at_below VV1.out hb)
      rw [HVS.out, HVL.out] at hv3
      rw [HVL.out]
      have G3 := Lib.hid (Rg.vals_at hv3)
      clear hv3 hb
      go_wp2_with fail
      refine (Rp.valuesV_s _ _ _ _ G3.out hVS3).mono ?_
      rintro e wh ⟨V2, vc2, rfl, hV, hb⟩
      have live_h := Lib.hid (live_g.out.below hb)
      have R_h := Lib.hid (Rp.at_below R_g.out hb)
      have V1_h := Lib.hid (Rp.at_below V1_g.out hb)
      have VV2 := Lib.hid hV
      clear hV hb G3
      go_wp2_with fail
      refine (Rp.vsame_yes _ _ _ _ _ _ V1_h.out VV2.out hVS3).mono ?_
      rintro e wi ⟨rfl, hb⟩
      have live_i := Lib.hid (live_h.out.below hb)
      have R_i := Lib.hid (Rp.at_below R_h.out hb)
      clear hb VV2
      go_wp2_with fail
      refine (begin_n _ n _ HZN.out (by omega)).mono ?_
      rintro e wa2 ⟨T2, tc2, rfl, hT, hb⟩
      have live_2_1 := Lib.hid (live_i.out.below hb)
      have R_2_1 := Lib.hid (Rp.at_below R_i.out hb)
      have TT2 := Lib.hid hT
      clear hT hb
      go_wp2_with fail
      refine (log_live live_2_1.out (by omega)).mono ?_
      rintro e wb2 ⟨v5, rfl, ht5, hb⟩
      obtain ⟨X5, ho5, hX5, he5⟩ := ht5.ex
      have HO5 := Lib.hid ho5
      have LOGB_2 := Lib.hid hb.size
      have LOG2_2 := Lib.hid hb
      have HX5 := Lib.hid hX5
      have HE5 := Lib.hid he5
      have live_2_2 := Lib.hid (live_2_1.out.below hb)
      have R_2_2 := Lib.hid (Rp.at_below R_2_1.out hb)
      have T2_2_2 := Lib.hid (Rp.at_below TT2.out hb)
      clear ht5 ho5 hX5 he5 hb
      go_wp2_with fail
      refine (rest_live live_2_2.out (by omega) HT.out).mono ?_
      rintro e wc2 ⟨v6, rfl, ht6, hb⟩
      obtain ⟨X6, ho6, hX6, he6⟩ := ht6.ex
      obtain ⟨A6, c6, rfl, hx6, _⟩ := ho6.slice
      have HB6 := Lib.hid hb
      have HX6 := Lib.hid hX6
      have HE6 := Lib.hid he6
      have HXS6 := Lib.hid hx6
      have HO56 := Lib.hid (HO5.out.below hb (Nat.le_refl _))
      have live_2_3 := Lib.hid (live_2_2.out.below hb)
      have R_2_3 := Lib.hid (Rp.at_below R_2_2.out hb)
      have T2_2_3 := Lib.hid (Rp.at_below T2_2_2.out hb)
      have HXM := Lib.hid (show (X5 ++ X6).map (·.1) = E by rw [List.map_append, HX5.out, hX6]; exact HE.out)
      have HXL := Lib.hid (show X5.length + X6.length ≤ 150 by have h1 := congrArg List.length HXM.out; rw [List.length_map, List.length_append] at h1; have := HLE.out; omega)
      have HOB := Lib.hid (fun q (e : v5.ownBlock = some q) => (World.ownsRow.lt HO5.out q e).2)
      clear ht6 ho6 hX6 he6 hb hx6
      go_wp2_with (at_builtin; refine append_ents rfl _ _ rfl rfl HO56.out _ _ X6 rfl rfl HXS6.out (flatE_one HE6.out) ?c1 ?c2 ?_)
      case c1 => have := HXL.out; omega
      case c2 => exact Nat.le_trans LOGB_2.out HB6.out.size
      intro v7 wd2 ho7 hg7
      have hb7 := grown_below HO56.out hg7 (Nat.le_trans LOGB_2.out HB6.out.size)
      have hbb := (LOG2_2.out.trans (HB6.out.mono LOGB_2.out)).trans hb7
      have live_2_4 := Lib.hid (live_2_1.out.below hbb)
      have R_2_4 := Lib.hid (Rp.at_below R_2_1.out hbb)
      have T2_2_4 := Lib.hid (Rp.at_below TT2.out hbb)
      have hent := told_append (fun x hx => (HE5.out x hx).kp (Kp.of_below HB6.out)) HE6.out HOB.out hg7
      obtain ⟨A7, c7, rfl, hx7, _⟩ := ho7.slice
      obtain ⟨Y2, hY⟩ := xs_it hx7 hent HXM.out
      rw [HM.out] at hY
      have hlen : (X5 ++ X6).length = M.length := by rw [HML.out, ← HXM.out, List.length_map]
      rw [hlen]
      have YY2 := Lib.hid hY
      clear ho7 hg7 hb7 hbb hent hx7 hY hlen HO5 HX5 HE5 HB6 HX6 HE6 HXS6 HO56 HXM HXL HOB
      go_wp2_with fail
      refine (Rp.committed_s A7 c7 Y2 M F _ YY2.out HFW.out hM4 HF.out).mono ?_
      rintro e wj ⟨U, uc, X8, rfl, _, _, hU, hb⟩
      have live_j := Lib.hid (live_2_4.out.below hb)
      have R_j := Lib.hid (Rp.at_below R_2_4.out hb)
      have T2_j := Lib.hid (Rp.at_below T2_2_4.out hb)
      have UU := Lib.hid hU
      clear hU hb
      go_wp2_with fail
      refine (Rp.all_s T2 U tc2 uc (start n) VS (-1) X8 F _ T2_j.out UU.out HFF.out hF4 hst3 HRF.out.2 (Rp.allN_none HRF.out.1)).mono ?_
      rintro e wk ⟨Q, qc, rfl, hQ, hb⟩
      have live_k := Lib.hid (live_j.out.below hb)
      have R_k := Lib.hid (Rp.at_below R_j.out hb)
      have QQ := Lib.hid hQ
      clear hQ hb
      go_wp2_with fail
      refine (Rp.valuesV_s _ _ _ _ QQ.out hVS3).mono ?_
      rintro e wl ⟨V3, vc3, rfl, hV, hb⟩
      have live_l := Lib.hid (live_k.out.below hb)
      have R_l := Lib.hid (Rp.at_below R_k.out hb)
      have VV3 := Lib.hid hV
      clear hV hb
      go_wp2_with fail
      refine (Rp.valuesV_s _ _ _ _ R_l.out hVS3).mono ?_
      rintro e wm ⟨V4, vc4, rfl, hV, hb⟩
      have live_m := Lib.hid (live_l.out.below hb)
      have V3_m := Lib.hid (Rp.at_below VV3.out hb)
      have VV4 := Lib.hid hV
      clear hV hb
      go_wp2_with fail
      refine (Rp.vsame_yes _ _ _ _ _ _ V3_m.out VV4.out hVS3).mono ?_
      rintro e wn ⟨rfl, hb⟩
      have live_n := Lib.hid (live_m.out.below hb)
      clear hb
      have hab := abort_zero HRI.out.inv
      go_wp2_with fail
      have hc := abort_live live_n.out (by omega) (id := 0) ⟨by decide, by decide⟩
      rw [hab] at hc
      refine hc.mono ?_
      rintro e wo ⟨rfl, hlo, _⟩
      have HLO := Lib.hid hlo.bel
      clear hlo hc hab
      go_wp2
      go_ret
      exact ⟨rfl, HLO.out⟩
end Go.Proofs.YtfdfiiocccafkaaGreatDoor.En
